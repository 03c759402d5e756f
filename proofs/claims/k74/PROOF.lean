import PyProof.Rows.All
import Wide.All
import OpenK.AllK
import Wide.FinOn
import KE.KStateDown
import Lean
import HandS.Base
import HandS.Call
import HandS.List
import HandS.Comp
import HandS.Ends
import HandS.More
import HandS.Dict
import HandS.Iter
import HandS.Walk
import HandS.Text
import HandS.Words
import HandS.WordsList
import HandS.WordsExc
import HandS.Defaults
import HandS.Wide
import HandS.IsInst
import HandS.Style
import HandS.Evl
import HandS.Steps
import HandS.RaiseMore
import HandS.Head0
import HandS.Head1
import HandS.Head2
import HandS.HeadEnd
import HandS.HeadHook1
import HandS.HeadHook2
import PySem.Challenge.RW_toldback_k74_fewest_places
set_option Elab.async false
set_option linter.all false
set_option maxRecDepth 100000
set_option maxHeartbeats 4000000
namespace TB
open PySem PySem.Spec PyProof.Rows L2 Evl
/-! ### heaps but for one list -/
theorem same_new {H : Hp} {p : Addr} {o : HO} (h : H p = none) : Ex H (upd H p o) := Ex.new h
/-- everything but what stands at B is as it was -/
def ExB (B : Addr) (H H' : Hp) : Prop := ∀ a o, a ≠ B → H a = some o → H' a = some o
theorem ExB.refl (B : Addr) (H : Hp) : ExB B H H := fun _ _ _ h => h
theorem ExB.trans {B : Addr} {H H1 H2 : Hp} (a : ExB B H H1) (b : ExB B H1 H2) : ExB B H H2 := fun x o n h => b x o n (a x o n h)
theorem ExB.of {B : Addr} {H H' : Hp} (e : Ex H H') : ExB B H H' := fun a o _ h => e a o h
theorem ExB.upd {B : Addr} {H : Hp} {o : HO} : ExB B H (upd H B o) := fun a u n h => by
  rw [upd_ne n]
  exact h
/-! ### data, as it stands in a heap -/
mutual
inductive Dt (H : Hp) : V → PyData → Prop
  | non : Dt H .non .none
  | bl (b : Bool) : Dt H (.bl b) (.bool b)
  | int (i : Int) : Dt H (.int i) (.int i)
  | str (x : Str) : Dt H (.str x) (.str x)
  | lst {a : Addr} {xs : List V} {ds : List PyData} : H a = some (.lst xs) → DtAll H xs ds → Dt H (.ref a) (.list ds)
  | tup {a : Addr} {xs : List V} {ds : List PyData} : H a = some (.tup xs) → DtAll H xs ds → Dt H (.ref a) (.tuple ds)
  | dic {a : Addr} {ns : List (Int × Int)} : H a = some (.dK (ns.map fun p => ((Sum.inl p.1 : Key), V.int p.2))) → Dt H (.ref a) (.dict (ns.map fun p => (PyData.int p.1, PyData.int p.2)))
inductive DtAll (H : Hp) : List V → List PyData → Prop
  | nil : DtAll H [] []
  | cons {v : V} {vs : List V} {d : PyData} {ds : List PyData} : Dt H v d → DtAll H vs ds → DtAll H (v :: vs) (d :: ds)
end
mutual
theorem Dt.mono {H H' : Hp} (e : Ex H H') : ∀ (d : PyData) (v : V), Dt H v d → Dt H' v d
  | .none, _, h => by cases h; exact .non
  | .bool b, _, h => by cases h; exact .bl b
  | .int i, _, h => by cases h; exact .int i
  | .str x, _, h => by cases h; exact .str x
  | .list ds, _, h => by
    cases h with
    | lst hs ha => exact .lst (e _ _ hs) (DtAll.mono e ds _ ha)
  | .tuple ds, _, h => by
    cases h with
    | tup hs ha => exact .tup (e _ _ hs) (DtAll.mono e ds _ ha)
  | .dict _, _, h => by
    cases h with
    | dic hs => exact .dic (e _ _ hs)
theorem DtAll.mono {H H' : Hp} (e : Ex H H') : ∀ (ds : List PyData) (vs : List V), DtAll H vs ds → DtAll H' vs ds
  | [], _, h => by cases h; exact .nil
  | d :: ds, _, h => by
    cases h with
    | cons h1 h2 => exact .cons (Dt.mono e d _ h1) (DtAll.mono e ds _ h2)
end
theorem Dt.up {H H' : Hp} {v : V} {d : PyData} (h : Dt H v d) (e : Ex H H') : Dt H' v d := Dt.mono e d v h
theorem DtAll.up {H H' : Hp} {v : List V} {d : List PyData} (h : DtAll H v d) (e : Ex H H') : DtAll H' v d := DtAll.mono e d v h
/-! data without lists in it: what is done to a list does not touch it -/
mutual
def noL : PyData → Bool
  | .list _ => false
  | .tuple ds => noLs ds
  | _ => true
def noLs : List PyData → Bool
  | [] => true
  | d :: ds => noL d && noLs ds
end
def IsL (H : Hp) (B : Addr) : Prop := ∃ xs, H B = some (.lst xs)
mutual
theorem Dt.monoB {B : Addr} {H H' : Hp} (hB : IsL H B) (e : ExB B H H') : ∀ (d : PyData) (v : V), noL d = true → Dt H v d → Dt H' v d
  | .none, _, _, h => by cases h; exact .non
  | .bool b, _, _, h => by cases h; exact .bl b
  | .int i, _, _, h => by cases h; exact .int i
  | .str x, _, _, h => by cases h; exact .str x
  | .list ds, _, n, h => nomatch n
  | .tuple ds, _, n, h => by
    cases h with
    | @tup a _ _ hs ha =>
      refine .tup (e a _ (fun z => ?_) hs) (DtAll.monoB hB e ds _ n ha)
      obtain ⟨xs, hx⟩ := hB
      rw [z, hx] at hs
      cases hs
  | .dict _, _, _, h => by
    cases h with
    | @dic a _ hs =>
      refine .dic (e a _ (fun z => ?_) hs)
      obtain ⟨xs, hx⟩ := hB
      rw [z, hx] at hs
      cases hs
theorem DtAll.monoB {B : Addr} {H H' : Hp} (hB : IsL H B) (e : ExB B H H') : ∀ (ds : List PyData) (vs : List V), noLs ds = true → DtAll H vs ds → DtAll H' vs ds
  | [], _, _, h => by cases h; exact .nil
  | d :: ds, _, n, h => by
    obtain ⟨n1, n2⟩ := Bool.and_eq_true_iff.mp (show (noL d && noLs ds) = true from n)
    cases h with
    | cons h1 h2 => exact .cons (Dt.monoB hB e d _ n1 h1) (DtAll.monoB hB e ds _ n2 h2)
end
theorem noLs_of {ds : List PyData} (h : ∀ d ∈ ds, noL d = true) : noLs ds = true := by
  induction ds with
  | nil => rfl
  | cons d ds ih =>
    show (noL d && noLs ds) = true
    rw [h d (List.mem_cons_self), ih fun x hx => h x (List.mem_cons_of_mem _ hx)]
    rfl
theorem noLs_mem {ds : List PyData} (h : noLs ds = true) : ∀ d ∈ ds, noL d = true := by
  induction ds with
  | nil => intro d hd; cases hd
  | cons x ds ih =>
    obtain ⟨n1, n2⟩ := Bool.and_eq_true_iff.mp (show (noL x && noLs ds) = true from h)
    intro d hd
    rcases List.mem_cons.mp hd with e | e
    · rw [e]; exact n1
    · exact ih n2 d e
/-! lists of data -/
theorem DtAll.len {H : Hp} : ∀ {vs : List V} {ds : List PyData}, DtAll H vs ds → vs.length = ds.length
  | _, _, .nil => rfl
  | _, _, .cons _ h => by rw [List.length_cons, List.length_cons, h.len]
theorem DtAll.app {H : Hp} : ∀ {vs us : List V} {ds es : List PyData}, DtAll H vs ds → DtAll H us es → DtAll H (vs ++ us) (ds ++ es)
  | _, _, _, _, .nil, h => h
  | _, _, _, _, .cons a b, h => .cons a (b.app h)
theorem DtAll.get {H : Hp} : ∀ {vs : List V} {ds : List PyData} (i : Nat) {v : V}, DtAll H vs ds → vs[i]? = some v → ∃ d, ds[i]? = some d ∧ Dt H v d
  | _, _, _, _, .nil, e => by simp at e
  | _, _, 0, _, .cons a _, e => by
    have e := Option.some.inj e
    subst e
    exact ⟨_, rfl, a⟩
  | _, _, i + 1, _, .cons _ b, e => b.get i e
theorem DtAll.getD {H : Hp} : ∀ {vs : List V} {ds : List PyData} (i : Nat) {d : PyData}, DtAll H vs ds → ds[i]? = some d → ∃ v, vs[i]? = some v ∧ Dt H v d
  | _, _, _, _, .nil, e => by simp at e
  | _, _, 0, _, .cons a _, e => by
    have e := Option.some.inj e
    subst e
    exact ⟨_, rfl, a⟩
  | _, _, i + 1, _, .cons _ b, e => b.getD i e
theorem DtAll.ints {H : Hp} : ∀ ns : List Int, DtAll H (ns.map V.int) (ns.map PyData.int)
  | [] => .nil
  | n :: ns => .cons (.int n) (DtAll.ints ns)
theorem DtAll.ints_eq {H : Hp} : ∀ {vs : List V} (ns : List Int), DtAll H vs (ns.map PyData.int) → vs = ns.map V.int
  | _, [], h => by cases h; rfl
  | _, n :: ns, h => by
    cases h with
    | cons a b =>
      cases a
      rw [DtAll.ints_eq ns b]
      rfl
theorem Dt.int_eq {H : Hp} {v : V} {i : Int} (h : Dt H v (.int i)) : v = .int i := by cases h; rfl
theorem Dt.bl_eq {H : Hp} {v : V} {b : Bool} (h : Dt H v (.bool b)) : v = .bl b := by cases h; rfl
theorem Dt.non_eq {H : Hp} {v : V} (h : Dt H v .none) : v = .non := by cases h; rfl
theorem Dt.tup_get {H : Hp} {v : V} {ds : List PyData} (h : Dt H v (.tuple ds)) : ∃ a xs, v = .ref a ∧ H a = some (.tup xs) ∧ DtAll H xs ds := by
  cases h with
  | tup a b => exact ⟨_, _, rfl, a, b⟩
theorem Dt.lst_get {H : Hp} {v : V} {ds : List PyData} (h : Dt H v (.list ds)) : ∃ a xs, v = .ref a ∧ H a = some (.lst xs) ∧ DtAll H xs ds := by
  cases h with
  | lst a b => exact ⟨_, _, rfl, a, b⟩
/-! into the layer's own word -/
mutual
theorem Dt.dp {K : PySem.W.Frag} {H : Hp} : ∀ (d : PyData) (v : V), d.canLay0 = true → Dt H v d → Dp K H v d
  | .none, _, _, h => by cases h; exact .non
  | .bool b, _, _, h => by cases h; exact .bl b
  | .int i, _, _, h => by cases h; exact .int i
  | .str x, _, _, h => by cases h; exact .str x
  | .list ds, _, n, h => by
    have n : PyData.canLayAll0 ds = true := by simpa [PyData.canLay0] using n
    cases h with
    | lst hs ha => exact .lst (.inl (.inl hs)) (DtAll.dp ds _ n ha)
  | .tuple ds, _, n, h => by
    have n : PyData.canLayAll0 ds = true := by simpa [PyData.canLay0] using n
    cases h with
    | tup hs ha => exact .tup (.inl (.inl hs)) (DtAll.dp ds _ n ha)
  | .dict _, _, n, _ => by simp [PyData.canLay0] at n
theorem DtAll.dp {K : PySem.W.Frag} {H : Hp} : ∀ (ds : List PyData) (vs : List V), PyData.canLayAll0 ds = true → DtAll H vs ds → DpAll K H vs ds
  | [], _, _, h => by cases h; exact .nil
  | d :: ds, _, n, h => by
    have n : d.canLay0 = true ∧ PyData.canLayAll0 ds = true := by simpa [PyData.canLayAll0] using n
    cases h with
    | cons h1 h2 => exact .cons (Dt.dp d _ n.1 h1) (DtAll.dp ds _ n.2 h2)
end
/-! ### kinds -/
def tyN : PyData → String
  | .none => "NoneType"
  | .bool _ => "bool"
  | .int _ => "int"
  | .str _ => "str"
  | .list _ => "list"
  | .tuple _ => "tuple"
  | .dict _ => "dict"
theorem Dt.ty {K : PySem.W.Frag} {H : Hp} {v : V} {d : PyData} (h : Dt H v d) : TyX K H v (.type (tyN d)) := by
  cases h with
  | non => exact .base .non
  | bl b => exact .base (.bl b)
  | int i => exact .base (.int i)
  | str x => exact .base (.str x)
  | lst a b => exact .base (.lst a)
  | tup a b => exact .base (.tup a)
  | dic a => exact .base (.dK a)
def dInt : PyData → Bool
  | .int _ | .bool _ => true
  | _ => false
def dBool : PyData → Bool
  | .bool _ => true
  | _ => false
def dTup : PyData → Bool
  | .tuple _ => true
  | _ => false
def dLst : PyData → Bool
  | .list _ => true
  | _ => false
/-- a whole number -/
def dWhole : PyData → Bool
  | .int _ => true
  | _ => false
theorem kit_int (d : PyData) : kitB (tyN d) "int" = some (dInt d) := by
  cases d with
  | none => show kitB "NoneType" "int" = some false; decide +kernel
  | bool _ => show kitB "bool" "int" = some true; decide +kernel
  | int _ => show kitB "int" "int" = some true; decide +kernel
  | str _ => show kitB "str" "int" = some false; decide +kernel
  | list _ => show kitB "list" "int" = some false; decide +kernel
  | tuple _ => show kitB "tuple" "int" = some false; decide +kernel
  | dict _ => show kitB "dict" "int" = some false; decide +kernel
theorem kit_bool (d : PyData) : kitB (tyN d) "bool" = some (dBool d) := by
  cases d with
  | none => show kitB "NoneType" "bool" = some false; decide +kernel
  | bool _ => show kitB "bool" "bool" = some true; decide +kernel
  | int _ => show kitB "int" "bool" = some false; decide +kernel
  | str _ => show kitB "str" "bool" = some false; decide +kernel
  | list _ => show kitB "list" "bool" = some false; decide +kernel
  | tuple _ => show kitB "tuple" "bool" = some false; decide +kernel
  | dict _ => show kitB "dict" "bool" = some false; decide +kernel
theorem kit_tup (d : PyData) : kitB (tyN d) "tuple" = some (dTup d) := by
  cases d with
  | none => show kitB "NoneType" "tuple" = some false; decide +kernel
  | bool _ => show kitB "bool" "tuple" = some false; decide +kernel
  | int _ => show kitB "int" "tuple" = some false; decide +kernel
  | str _ => show kitB "str" "tuple" = some false; decide +kernel
  | list _ => show kitB "list" "tuple" = some false; decide +kernel
  | tuple _ => show kitB "tuple" "tuple" = some true; decide +kernel
  | dict _ => show kitB "dict" "tuple" = some false; decide +kernel
theorem kit_lst (d : PyData) : kitB (tyN d) "list" = some (dLst d) := by
  cases d with
  | none => show kitB "NoneType" "list" = some false; decide +kernel
  | bool _ => show kitB "bool" "list" = some false; decide +kernel
  | int _ => show kitB "int" "list" = some false; decide +kernel
  | str _ => show kitB "str" "list" = some false; decide +kernel
  | list _ => show kitB "list" "list" = some true; decide +kernel
  | tuple _ => show kitB "tuple" "list" = some false; decide +kernel
  | dict _ => show kitB "dict" "list" = some false; decide +kernel
theorem rIsi_of {K : PySem.W.Frag} {H : Hp} {v : V} {d : PyData} {c : String} {b : Bool} {Q : VK} (h : Dt H v d) (k : kitB (tyN d) c = some b) (q : Q (.bl b) H) : rIsi K [v, .ty c] H Q :=
  ⟨v, .ty c, _, _, b, rfl, .ty c, h.ty, kit_ty k, q⟩
/-! ### the refusals' classes -/
def ExcFacts (K : PySem.W.Frag) (C : Addr) : Prop := PySem.W.excIn K C He.veBase "ValueError.__new__" = true ∧ PySem.W.keepIn K (.ref C) = true ∧ PySem.W.subIn K (.ref C) (.type "BaseException") = some true ∧ PySem.W.typeIn K (.ref C) = some (.type "type")
theorem excFacts_of {K : PySem.W.Frag} {x : Str} (c : (He.Fa.exc x).ok K = true) : ExcFacts K (He.ga K x) := by
  obtain ⟨c1, c⟩ := He.ba c
  obtain ⟨c2, c⟩ := He.ba c
  obtain ⟨c3, c4⟩ := He.ba c
  exact ⟨c1, c2, of_decide_eq_true c3, of_decide_eq_true c4⟩
/-! ### tests -/
theorem itT {b : Bool} {A B : Prop} (hb : b = true) (h : A) : if b = true then A else B := by
  rw [if_pos hb]
  exact h
theorem itF {b : Bool} {A B : Prop} (hb : b = false) (h : B) : if b = true then A else B := by
  rw [if_neg (by rw [hb]; exact Bool.false_ne_true)]
  exact h
theorem it2 {b : Bool} {A B : Prop} (h1 : b = true → A) (h2 : b = false → B) : if b = true then A else B := by
  cases b with
  | true => exact itT rfl (h1 rfl)
  | false => exact itF rfl (h2 rfl)
theorem dI {i j : Int} : decide (V.int i = V.int j) = decide (i = j) := by
  by_cases e : i = j
  · subst e
    rw [decide_eq_true rfl, decide_eq_true rfl]
  · rw [decide_eq_false e, decide_eq_false fun z => e (V.int.inj z)]
/-! ### greatest divisors -/
theorem gcd_step (x y : Int) : Int.gcd y (x % y) = Int.gcd x y := by
  have e : x % y = x - y * (x / y) := Int.emod_def x y
  refine Nat.dvd_antisymm (Int.dvd_gcd ?_ (Int.gcd_dvd_left y (x % y))) (Int.dvd_gcd (Int.gcd_dvd_right x y) ?_)
  · have h1 : ((Int.gcd y (x % y) : Nat) : Int) ∣ y := Int.gcd_dvd_left y (x % y)
    have h2 : ((Int.gcd y (x % y) : Nat) : Int) ∣ x % y := Int.gcd_dvd_right y (x % y)
    have h3 : x = x % y + y * (x / y) := by omega
    rw [h3]
    have h4 : ((Int.gcd y (x % y) : Nat) : Int) ∣ x % y + y * (x / y) := Int.dvd_add h2 (Int.dvd_mul_of_dvd_left h1)
    rw [← h3]
    rw [← h3] at h4
    exact h4
  · rw [e]
    exact Int.dvd_sub (Int.gcd_dvd_left x y) (Int.dvd_mul_of_dvd_left (Int.gcd_dvd_right x y))
def dPair : PyData → Bool
  | .tuple ds => decide (ds.length = 2)
  | _ => false
theorem dPair_get {d : PyData} (h : dPair d = true) : ∃ a b, d = .tuple [a, b] := by
  cases d with
  | tuple ds =>
    have h : ds.length = 2 := of_decide_eq_true h
    match ds, h with
    | [a, b], _ => exact ⟨a, b, rfl⟩
  | _ => exact nomatch h
theorem dWhole_get {d : PyData} (h : dWhole d = true) : ∃ i, d = .int i := by
  cases d with
  | int i => exact ⟨i, rfl⟩
  | _ => exact nomatch h
/-- bounds (n, d), both at most m -/
def dBounds : PyData → Bool
  | .tuple [.int n, .int d] => decide (0 ≤ n) && decide (1 ≤ d)
  | _ => false
def dBoundsTo (m : Int) : PyData → Bool
  | .tuple [.int n, .int d] => decide (0 ≤ n) && decide (1 ≤ d) && decide (n ≤ m) && decide (d ≤ m)
  | _ => false
theorem dBounds_pair {d : PyData} (h : dPair d = false) : dBounds d = false := by
  match d, h with
  | .tuple [], _ => simp [dBounds]
  | .tuple [_], _ => simp [dBounds]
  | .tuple [_, _], h => exact nomatch h
  | .tuple (_ :: _ :: _ :: _), _ => simp [dBounds]
  | .none, _ => rfl
  | .bool _, _ => rfl
  | .int _, _ => rfl
  | .str _, _ => rfl
  | .list _, _ => rfl
  | .dict _, _ => rfl
theorem dBounds_get {d : PyData} (h : dBounds d = true) : ∃ n m : Int, d = .tuple [.int n, .int m] ∧ 0 ≤ n ∧ 1 ≤ m := by
  unfold dBounds at h
  split at h
  · obtain ⟨h1, h2⟩ := Bool.and_eq_true_iff.mp h
    exact ⟨_, _, rfl, of_decide_eq_true h1, of_decide_eq_true h2⟩
  · cases h
theorem dBoundsTo_no {m : Int} {d : PyData} (h : dBounds d = false) : dBoundsTo m d = false := by
  unfold dBoundsTo
  split
  · unfold dBounds at h
    simp only at h
    rw [h]
    rfl
  · rfl
/-! ### lists that grow, of data without lists -/
def AccL (H : Hp) (D : Addr) (ds : List PyData) : Prop := ∃ acc, H D = some (.lst acc) ∧ DtAll H acc ds ∧ noLs ds = true
theorem noLs_app {a b : List PyData} (h1 : noLs a = true) (h2 : noLs b = true) : noLs (a ++ b) = true := noLs_of fun d hd => by
  rcases List.mem_append.mp hd with e | e
  · exact noLs_mem h1 d e
  · exact noLs_mem h2 d e
theorem AccL.new {H : Hp} {D : Addr} : AccL (upd H D (.lst [])) D [] := ⟨[], upd_same, .nil, rfl⟩
theorem AccL.up {H H' : Hp} {D : Addr} {ds : List PyData} (h : AccL H D ds) (e : Ex H H') : AccL H' D ds := by
  obtain ⟨acc, h1, h2, h3⟩ := h
  exact ⟨acc, e _ _ h1, h2.up e, h3⟩
theorem AccL.app {H H2 : Hp} {D : Addr} {ds : List PyData} {v : V} {d : PyData} (h : AccL H D ds) (e : Ex H H2) (hv : Dt H2 v d) (nd : noL d = true) : ∃ acc, H2 D = some (.lst acc) ∧ acc.length = ds.length ∧ AccL (upd H2 D (.lst (acc ++ [v]))) D (ds ++ [d]) := by
  obtain ⟨acc, h1, h2, h3⟩ := h
  have hD := e _ _ h1
  have hL : IsL H2 D := ⟨acc, hD⟩
  refine ⟨acc, hD, h2.len, acc ++ [v], upd_same, DtAll.app ?_ (.cons ?_ .nil), noLs_app h3 ?_⟩
  · exact DtAll.monoB hL ExB.upd ds acc h3 (h2.up e)
  · exact Dt.monoB hL ExB.upd d v nd hv
  · show (noL d && true) = true
    rw [nd]
    rfl
theorem AccL.dt {H : Hp} {D : Addr} {ds : List PyData} (h : AccL H D ds) : Dt H (.ref D) (.list ds) := by
  obtain ⟨acc, h1, h2, _⟩ := h
  exact .lst h1 h2
/-! ### the draws -/
def PoolB (H : Hp) (pa : Addr) (n : Nat) : Prop := ∃ a b c : Int, H pa = some (.lst [.int a, .int b, .int c]) ∧ 0 ≤ c ∧ c + n ≤ 1099511627776
theorem PoolB.isL {H : Hp} {pa : Addr} {n : Nat} (h : PoolB H pa n) : IsL H pa := by
  obtain ⟨a, b, c, h, _⟩ := h
  exact ⟨_, h⟩
theorem PoolB.up {H H' : Hp} {pa : Addr} {n : Nat} (h : PoolB H pa n) (e : Ex H H') : PoolB H' pa n := by
  obtain ⟨a, b, c, h, h2⟩ := h
  exact ⟨a, b, c, e _ _ h, h2⟩
theorem PoolB.less {H : Hp} {pa : Addr} {n m : Nat} (h : PoolB H pa n) (l : m ≤ n) : PoolB H pa m := by
  obtain ⟨a, b, c, h, h2, h3⟩ := h
  exact ⟨a, b, c, h, h2, by omega⟩
theorem ExB.free {B : Addr} {H H' : Hp} (e : ExB B H H') (hB : IsL H' B) {p : Addr} (h : H' p = none) : H p = none := by
  cases q : H p with
  | none => rfl
  | some o =>
    by_cases z : p = B
    · obtain ⟨xs, hx⟩ := hB
      rw [z, hx] at h
      cases h
    · rw [e p o z q] at h
      cases h
theorem Dt.dr {B : Addr} {H H' : Hp} {v : V} {d : PyData} (h : Dt H v d) (hB : IsL H B) (e : ExB B H H') (n : noL d = true) : Dt H' v d := Dt.monoB hB e d v n h
/-! ### picked ones, in order -/
def sel (f : Nat → Bool) (g : Nat → PyData) : Nat → List PyData
  | 0 => []
  | n + 1 => sel f g n ++ (if f n = true then [g n] else [])
theorem sel_yes {f : Nat → Bool} {g : Nat → PyData} {n : Nat} (h : f n = true) : sel f g (n + 1) = sel f g n ++ [g n] := by
  show sel f g n ++ (if f n = true then [g n] else []) = _
  rw [if_pos h]
theorem sel_no {f : Nat → Bool} {g : Nat → PyData} {n : Nat} (h : f n = false) : sel f g (n + 1) = sel f g n := by
  show sel f g n ++ (if f n = true then [g n] else []) = _
  rw [if_neg (by rw [h]; exact Bool.false_ne_true), List.append_nil]
theorem sel_len (f : Nat → Bool) (g : Nat → PyData) : ∀ n : Nat, (sel f g n).length ≤ n
  | 0 => Nat.le_refl 0
  | n + 1 => by
    have h := sel_len f g n
    cases e : f n with
    | true => rw [sel_yes e, List.length_append]; exact Nat.add_le_add h (Nat.le_refl 1)
    | false => rw [sel_no e]; omega
theorem sel_congr {f f' : Nat → Bool} {g g' : Nat → PyData} : ∀ n : Nat, (∀ i, i < n → f i = f' i) → (∀ i, i < n → g i = g' i) → sel f g n = sel f' g' n
  | 0, _, _ => rfl
  | n + 1, h1, h2 => by
    show sel f g n ++ (if f n = true then [g n] else []) = sel f' g' n ++ (if f' n = true then [g' n] else [])
    rw [sel_congr n (fun i hi => h1 i (by omega)) (fun i hi => h2 i (by omega)), h1 n (by omega), h2 n (by omega)]
theorem _root_.Evl.Ex.keepB {B : Addr} {H0 H H' : Hp} (a : Ex H0 H) (n : H0 B = none) (b : ExB B H H') : Ex H0 H' := fun x o h => b x o (ne_of_none h n) (a x o h)
/-! ### what an expression is worth, as data -/
def EvD (te : TE) (σ : L2.St) (H : Hp) (d : PyData) : Prop := ∀ H1, Ex H H1 → ∀ Q : VK, (∀ v H2, Ex H1 H2 → Dt H2 v d → Q v H2) → te σ H1 Q
def EvN (te : TE) (σ : L2.St) (H : Hp) (ds : List PyData) : Prop := ∀ H1, Ex H H1 → ∀ Q : VK, (∀ p H2, H1 p = none → Ex H1 H2 → AccL H2 p ds → Q (.ref p) H2) → te σ H1 Q
def EvDA (ta : TA) (σ : L2.St) (H : Hp) (ds : List PyData) : Prop := ∀ H1, Ex H H1 → ∀ Q : List V → Hp → Prop, (∀ vs H2, Ex H1 H2 → DtAll H2 vs ds → Q vs H2) → ta σ H1 Q
section
variable {K : PySem.W.Frag} {σ : L2.St} {H H' : Hp} {ta tb te tl : TE} {t u : TT} {d : PyData} {ds : List PyData}
theorem EvD.mono (e : Ex H H') (h : EvD te σ H d) : EvD te σ H' d := fun H1 a Q q => h H1 (e.trans a) Q q
theorem EvN.mono (e : Ex H H') (h : EvN te σ H ds) : EvN te σ H' ds := fun H1 a Q q => h H1 (e.trans a) Q q
theorem EvN.ed (h : EvN te σ H ds) : EvD te σ H (.list ds) := fun H1 e Q q => h H1 e Q fun p H2 _ e2 a => q _ H2 e2 a.dt
theorem ed_of {v : V} (h : Ev te σ H v) (hd : Dt H v d) : EvD te σ H d := fun H1 e Q q => h H1 e Q fun H2 e2 => q v H2 e2 (hd.up (e.trans e2))
theorem ed_var {v : V} {i : Nat} (h : σ[i]? = some (some v)) (hd : Dt H v d) : EvD (tVar i) σ H d := ed_of (ev_var h) hd
theorem ed_int {i : Int} (h : Ev te σ H (.int i)) : EvD te σ H (.int i) := ed_of h (.int i)
theorem ev_int {i : Int} (h : EvD te σ H (.int i)) : Ev te σ H (.int i) := fun H1 e Q q => h H1 e Q fun v H2 e2 hd => by
  rw [hd.int_eq]
  exact q H2 e2
theorem ev_bl {b : Bool} (h : EvD te σ H (.bool b)) : Ev te σ H (.bl b) := fun H1 e Q q => h H1 e Q fun v H2 e2 hd => by
  rw [hd.bl_eq]
  exact q H2 e2
theorem eda_nil : EvDA tNil σ H [] := fun H1 _ _ q => q [] H1 (Ex.refl H1) .nil
theorem eda_cons {tr : TA} (h : EvD te σ H d) (hr : EvDA tr σ H ds) : EvDA (tCons te tr) σ H (d :: ds) := fun H1 e _ q =>
  h H1 e _ fun v H2 e2 hv => hr H2 (e.trans e2) _ fun vs H3 e3 hvs => q (v :: vs) H3 (e2.trans e3) (.cons (hv.up e3) hvs)
theorem ed_tup {tr : TA} (h : EvDA tr σ H ds) (hl : ds.length ≤ 100000) : EvD (tTup tr) σ H (.tuple ds) := fun H1 e _ q =>
  h H1 e _ fun vs H2 e2 hv => ⟨sz_of (by rw [hv.len]; exact hl), fun p hp => q _ _ (e2.trans (Ex.new hp)) (.tup upd_same (hv.up (Ex.new hp)))⟩
theorem en_lst {tr : TA} (h : EvDA tr σ H ds) (hl : ds.length ≤ 100000) (hn : noLs ds = true) : EvN (tLst tr) σ H ds := fun H1 e _ q =>
  h H1 e _ fun vs H2 e2 hv => ⟨sz_of (by rw [hv.len]; exact hl), fun p hp => q p _ (fresh_back e2 hp) (e2.trans (Ex.new hp)) ⟨vs, upd_same, hv.up (Ex.new hp), hn⟩⟩
/-- one turn of a comprehension -/
theorem lc_turn {H1 H2 : Hp} {D : Addr} {dsi : List PyData} {b : Bool} {σ2 : L2.St} (p : Ex H1 H2 ∧ AccL H2 D dsi) (hD : H1 D = none) (hz : dsi.length < 50000) (ht : EvT t σ2 H1 b) (he : b = true → EvD te σ2 H1 d) (nd : b = true → noL d = true) :
    t σ2 H2 fun c H3 => if c = true then te σ2 H3 fun y H4 => ∃ acc, H4 D = some (.lst acc) ∧ acc.length < sizeLine ∧ (Ex H1 (upd H4 D (.lst (acc ++ [y]))) ∧ AccL (upd H4 D (.lst (acc ++ [y]))) D (dsi ++ (if b = true then [d] else []))) else (Ex H1 H3 ∧ AccL H3 D (dsi ++ (if b = true then [d] else []))) := by
  obtain ⟨e1, a1⟩ := p
  refine ht H2 e1 _ fun H3 e3 => ?_
  cases b with
  | true =>
    refine itT rfl (he rfl H3 (e1.trans e3) _ fun v H4 e4 hv => ?_)
    obtain ⟨acc, h1, h2, h3⟩ := a1.app (e3.trans e4) hv (nd rfl)
    exact ⟨acc, h1, sz_lt (by omega), Ex.mut ((e1.trans e3).trans e4) hD, h3⟩
  | false =>
    refine itF rfl ⟨e1.trans e3, ?_⟩
    rw [if_neg Bool.false_ne_true, List.append_nil]
    exact a1.up e3
theorem take_flt {α β : Type} (f : α → Bool) (g : α → β) {ds : List α} {i : Nat} {d : α} (h : ds[i]? = some d) : ((ds.take (i + 1)).filter f).map g = ((ds.take i).filter f).map g ++ (if f d = true then [g d] else []) := by
  rw [List.take_add_one, h, List.filter_append, List.map_append]
  congr 1
  cases e : f d with
  | true => simp [e]
  | false => simp [e]
theorem flt_len {α β : Type} (f : α → Bool) (g : α → β) (ds : List α) (i : Nat) : (((ds.take i).filter f).map g).length ≤ ds.length := by
  rw [List.length_map]
  have h1 := List.length_filter_le f (ds.take i)
  have h2 : (ds.take i).length ≤ ds.length := by
    rw [List.length_take]
    exact Nat.min_le_right _ _
  omega
/-- [te for x in tl if t] over a list of data -/
theorem en_lcD {j : Nat} {vs : List Nat} (f : PyData → Bool) (g : PyData → PyData) (h : EvD tl σ H (.list ds)) (hz : ds.length ≤ 40000) (hw : ∀ x, wipe ((wipe σ vs).set j (some x)) vs = wipe σ vs)
    (ht : ∀ H1 v d, Ex H H1 → d ∈ ds → Dt H1 v d → EvT t ((wipe σ vs).set j (some v)) H1 (f d)) (he : ∀ H1 v d, Ex H H1 → d ∈ ds → Dt H1 v d → f d = true → EvD te ((wipe σ vs).set j (some v)) H1 (g d)) (hn : ∀ d, d ∈ ds → f d = true → noL (g d) = true) :
    EvN (tLc (iList K tl) (gName j) t te vs) σ H ((ds.filter f).map g) := fun H0 e Q q => h H0 e _ fun v H1 e1 hv => by
  obtain ⟨a, xs, rfl, ha, hx⟩ := hv.lst_get
  refine ⟨a, rfl, ⟨xs, sq_of ha⟩, fun D hD => lc_list (xs := xs) (fun i H' => Ex H1 H' ∧ AccL H' D (((ds.take i).filter f).map g)) ⟨Ex.new hD, AccL.new⟩ (fun i H' _ p => sq_of (p.1 a _ ha)) (fun i x H' hi p => ?_) (fun H' p => ?_)⟩
  · obtain ⟨d, hd, hxd⟩ := hx.get i hi
    have hm := List.mem_of_getElem? hd
    refine ⟨hw x, ?_⟩
    show t _ H' fun c H3 => if c = true then te _ H3 fun y H4 => ∃ acc, H4 D = some (.lst acc) ∧ acc.length < sizeLine ∧ (Ex H1 (upd H4 D (.lst (acc ++ [y]))) ∧ AccL (upd H4 D (.lst (acc ++ [y]))) D (((ds.take (i + 1)).filter f).map g)) else (Ex H1 H3 ∧ AccL H3 D (((ds.take (i + 1)).filter f).map g))
    rw [take_flt f g hd]
    exact lc_turn p hD (by have := flt_len f g ds i; omega) (ht H1 x d (e.trans e1) hm hxd) (fun hf => he H1 x d (e.trans e1) hm hxd hf) (hn d hm)
  · rw [hx.len, List.take_length] at p
    exact q D H' (fresh_back e1 hD) (e1.trans p.1) p.2
/-- .. over a tuple of data -/
theorem en_lcT {j : Nat} {vs : List Nat} (f : PyData → Bool) (g : PyData → PyData) (h : EvD tl σ H (.tuple ds)) (hz : ds.length ≤ 40000) (hw : ∀ x, wipe ((wipe σ vs).set j (some x)) vs = wipe σ vs)
    (ht : ∀ H1 v d, Ex H H1 → d ∈ ds → Dt H1 v d → EvT t ((wipe σ vs).set j (some v)) H1 (f d)) (he : ∀ H1 v d, Ex H H1 → d ∈ ds → Dt H1 v d → f d = true → EvD te ((wipe σ vs).set j (some v)) H1 (g d)) (hn : ∀ d, d ∈ ds → f d = true → noL (g d) = true) :
    EvN (tLc (iTup K tl) (gName j) t te vs) σ H ((ds.filter f).map g) := fun H0 e Q q => h H0 e _ fun v H1 e1 hv => by
  obtain ⟨a, xs, rfl, ha, hx⟩ := hv.tup_get
  refine ⟨a, rfl, ⟨xs, st_of ha⟩, fun D hD => lc_tup (xs := xs) (fun i H' => Ex H1 H' ∧ AccL H' D (((ds.take i).filter f).map g)) ⟨Ex.new hD, AccL.new⟩ (fun i H' _ p => st_of (p.1 a _ ha)) (fun i x H' hi p => ?_) (fun H' p => ?_)⟩
  · obtain ⟨d, hd, hxd⟩ := hx.get i hi
    have hm := List.mem_of_getElem? hd
    refine ⟨hw x, ?_⟩
    show t _ H' fun c H3 => if c = true then te _ H3 fun y H4 => ∃ acc, H4 D = some (.lst acc) ∧ acc.length < sizeLine ∧ (Ex H1 (upd H4 D (.lst (acc ++ [y]))) ∧ AccL (upd H4 D (.lst (acc ++ [y]))) D (((ds.take (i + 1)).filter f).map g)) else (Ex H1 H3 ∧ AccL H3 D (((ds.take (i + 1)).filter f).map g))
    rw [take_flt f g hd]
    exact lc_turn p hD (by have := flt_len f g ds i; omega) (ht H1 x d (e.trans e1) hm hxd) (fun hf => he H1 x d (e.trans e1) hm hxd hf) (hn d hm)
  · rw [hx.len, List.take_length] at p
    exact q D H' (fresh_back e1 hD) (e1.trans p.1) p.2
/-- .. over a range -/
def irng (lo hi : Int) : List Int := (List.range (hi - lo).toNat).map fun (i : Nat) => lo + (i : Int)
theorem irng_get {lo hi : Int} {i : Nat} (h : i < (hi - lo).toNat) : (irng lo hi)[i]? = some (lo + (i : Int)) := by
  unfold irng
  rw [List.getElem?_map, List.getElem?_range h]
  rfl
theorem irng_len (lo hi : Int) : (irng lo hi).length = (hi - lo).toNat := by
  unfold irng
  rw [List.length_map, List.length_range]
theorem irng_mem {lo hi x : Int} : x ∈ irng lo hi ↔ lo ≤ x ∧ x < hi := by
  unfold irng
  rw [List.mem_map]
  constructor
  · rintro ⟨i, hi, rfl⟩
    have := List.mem_range.mp hi
    omega
  · rintro ⟨h1, h2⟩
    exact ⟨(x - lo).toNat, List.mem_range.mpr (by omega), by omega⟩
theorem en_lcR2 {ta : TA} {j : Nat} {vs : List Nat} {lo hi : Int} (f : Int → Bool) (g : Int → PyData) (h : EvA ta σ H [.int lo, .int hi]) (hz : -1000000 ≤ lo ∧ hi ≤ 1000000 ∧ hi - lo ≤ 40000 ∧ lo ≤ 1000000 ∧ -1000000 ≤ hi) (hw : ∀ x, wipe ((wipe σ vs).set j (some x)) vs = wipe σ vs)
    (ht : ∀ x, lo ≤ x → x < hi → EvT t ((wipe σ vs).set j (some (.int x))) H (f x)) (he : ∀ x, lo ≤ x → x < hi → f x = true → EvD te ((wipe σ vs).set j (some (.int x))) H (g x)) (hn : ∀ x, lo ≤ x → x < hi → f x = true → noL (g x) = true) :
    EvN (tLc (iRng2 ta) (gName j) t te vs) σ H (((irng lo hi).filter f).map g) := fun H0 e Q q => h H0 e _ fun H1 e1 => by
  refine ⟨lo, hi, rfl, ⟨by omega, by omega, by omega, by omega⟩, fun D hD => lc_range (lo := lo) (n := (hi - lo).toNat) (fun i H' => Ex H1 H' ∧ AccL H' D ((((irng lo hi).take i).filter f).map g)) ⟨Ex.new hD, AccL.new⟩ (fun i H' hi' p => ?_) (fun H' p => ?_)⟩
  · refine ⟨hw _, ?_⟩
    show t _ H' fun c H3 => if c = true then te _ H3 fun y H4 => ∃ acc, H4 D = some (.lst acc) ∧ acc.length < sizeLine ∧ (Ex H1 (upd H4 D (.lst (acc ++ [y]))) ∧ AccL (upd H4 D (.lst (acc ++ [y]))) D ((((irng lo hi).take (i + 1)).filter f).map g)) else (Ex H1 H3 ∧ AccL H3 D ((((irng lo hi).take (i + 1)).filter f).map g))
    rw [take_flt f g (irng_get hi')]
    refine lc_turn p hD ?_ ((ht _ (by omega) (by omega)).mono (e.trans e1)) (fun hf => (he _ (by omega) (by omega) hf).mono (e.trans e1)) (hn _ (by omega) (by omega))
    have := flt_len f g (irng lo hi) i
    rw [irng_len] at this
    omega
  · rw [List.take_of_length_le (by rw [irng_len]; exact Nat.le_refl _)] at p
    exact q D H' (fresh_back e1 hD) (e1.trans p.1) p.2
theorem en_lcR1 {ta : TA} {j : Nat} {vs : List Nat} {hi : Int} (f : Int → Bool) (g : Int → PyData) (h : EvA ta σ H [.int hi]) (hz : -1000000 ≤ hi ∧ hi ≤ 40000) (hw : ∀ x, wipe ((wipe σ vs).set j (some x)) vs = wipe σ vs)
    (ht : ∀ x, 0 ≤ x → x < hi → EvT t ((wipe σ vs).set j (some (.int x))) H (f x)) (he : ∀ x, 0 ≤ x → x < hi → f x = true → EvD te ((wipe σ vs).set j (some (.int x))) H (g x)) (hn : ∀ x, 0 ≤ x → x < hi → f x = true → noL (g x) = true) :
    EvN (tLc (iRng1 ta) (gName j) t te vs) σ H (((irng 0 hi).filter f).map g) := fun H0 e Q q => h H0 e _ fun H1 e1 => by
  refine ⟨hi, rfl, by omega, by omega, fun D hD => lc_range (lo := 0) (n := hi.toNat) (fun i H' => Ex H1 H' ∧ AccL H' D ((((irng 0 hi).take i).filter f).map g)) ⟨Ex.new hD, AccL.new⟩ (fun i H' hi' p => ?_) (fun H' p => ?_)⟩
  · refine ⟨hw _, ?_⟩
    show t _ H' fun c H3 => if c = true then te _ H3 fun y H4 => ∃ acc, H4 D = some (.lst acc) ∧ acc.length < sizeLine ∧ (Ex H1 (upd H4 D (.lst (acc ++ [y]))) ∧ AccL (upd H4 D (.lst (acc ++ [y]))) D ((((irng 0 hi).take (i + 1)).filter f).map g)) else (Ex H1 H3 ∧ AccL H3 D ((((irng 0 hi).take (i + 1)).filter f).map g))
    rw [take_flt f g (irng_get (lo := 0) (hi := hi) (by omega))]
    refine lc_turn p hD ?_ ((ht _ (by omega) (by omega)).mono (e.trans e1)) (fun hf => (he _ (by omega) (by omega) hf).mono (e.trans e1)) (hn _ (by omega) (by omega))
    have := flt_len f g (irng 0 hi) i
    rw [irng_len] at this
    omega
  · rw [List.take_of_length_le (by rw [irng_len]; omega)] at p
    exact q D H' (fresh_back e1 hD) (e1.trans p.1) p.2
end
/-! ### == of data -/
mutual
def flat1 : PyData → Bool
  | .none | .bool _ | .int _ => true
  | _ => false
end
theorem canLay_ints : ∀ ns : List Int, PyData.canLayAll0 (ns.map PyData.int) = true
  | [] => rfl
  | n :: ns => by
    show ((PyData.int n).canLay0 && PyData.canLayAll0 (ns.map PyData.int)) = true
    rw [canLay_ints ns]
    rfl
theorem depth_ints : ∀ ns : List Int, PyData.depthAll (ns.map PyData.int) = 0
  | [] => rfl
  | n :: ns => by
    show max (PyData.depth (.int n)) (PyData.depthAll (ns.map PyData.int)) = 0
    rw [depth_ints ns]
    rfl
theorem shaped_ints (ns : List Int) : SeqAt.shaped (.list (ns.map PyData.int)) = true := by
  show (PyData.canLayAll0 (ns.map PyData.int) && decide (PyData.depthAll (ns.map PyData.int) + 1 ≤ 64)) = true
  rw [canLay_ints, depth_ints]
  rfl
theorem shaped_intsT (ns : List Int) : SeqAt.shaped (.tuple (ns.map PyData.int)) = true := by
  show (PyData.canLayAll0 (ns.map PyData.int) && decide (PyData.depthAll (ns.map PyData.int) + 1 ≤ 64)) = true
  rw [canLay_ints, depth_ints]
  rfl
/-- a list (tuple) of things of at most k deep -/
theorem lay_all {ds : List PyData} {k : Nat} (h : ∀ d ∈ ds, d.canLay0 = true ∧ d.depth ≤ k) : PyData.canLayAll0 ds = true ∧ PyData.depthAll ds ≤ k := by
  induction ds with
  | nil => exact ⟨rfl, Nat.zero_le _⟩
  | cons d ds ih =>
    obtain ⟨h1, h2⟩ := h d List.mem_cons_self
    obtain ⟨h3, h4⟩ := ih fun x hx => h x (List.mem_cons_of_mem _ hx)
    refine ⟨?_, ?_⟩
    · show (d.canLay0 && PyData.canLayAll0 ds) = true
      rw [h1, h3]
      rfl
    · show max d.depth (PyData.depthAll ds) ≤ k
      omega
theorem lay_list {ds : List PyData} {k : Nat} (h : ∀ d ∈ ds, d.canLay0 = true ∧ d.depth ≤ k) : (PyData.list ds).canLay0 = true ∧ (PyData.list ds).depth ≤ k + 1 := by
  obtain ⟨h1, h2⟩ := lay_all h
  exact ⟨h1, Nat.succ_le_succ h2⟩
theorem lay_tup {ds : List PyData} {k : Nat} (h : ∀ d ∈ ds, d.canLay0 = true ∧ d.depth ≤ k) : (PyData.tuple ds).canLay0 = true ∧ (PyData.tuple ds).depth ≤ k + 1 := by
  obtain ⟨h1, h2⟩ := lay_all h
  exact ⟨h1, Nat.succ_le_succ h2⟩
theorem lay_pair (a b : Int) : (PyData.tuple [.int a, .int b]).canLay0 = true ∧ (PyData.tuple [.int a, .int b]).depth ≤ 1 := ⟨rfl, Nat.le_refl 1⟩
theorem shaped_of {d : PyData} {k : Nat} (h : d.canLay0 = true ∧ d.depth ≤ k) (hk : k ≤ 64) : SeqAt.shaped d = true := by
  show (d.canLay0 && decide (d.depth ≤ 64)) = true
  rw [h.1, decide_eq_true (by omega)]
  rfl
theorem eqv_self {d : PyData} (h : d.canLay0 = true) : PyData.eqv d d = true := SeqAt.eqv_refl d h
section
variable {K : PySem.W.Frag} {σ : L2.St} {H H' : Hp} {ta tb te tl : TE} {t u : TT} {d e : PyData} {ds : List PyData}
theorem rv_eqD {x y : V} (hx : Dt H x d) (hy : Dt H y e) (sd : SeqAt.shaped d = true) (se : SeqAt.shaped e = true) : RV (rEqD K) x y H (.bl (PyData.eqv d e)) := fun H1 a _ q =>
  ⟨d, e, (hx.up a).dp _ _ (SeqAt.canLay_of_shaped sd), (hy.up a).dp _ _ (SeqAt.canLay_of_shaped se), sd, se, q H1 (Ex.refl H1)⟩
theorem rv_neD {x y : V} (hx : Dt H x d) (hy : Dt H y e) (sd : SeqAt.shaped d = true) (se : SeqAt.shaped e = true) : RV (rNeD K) x y H (.bl (!PyData.eqv d e)) := fun H1 a _ q =>
  ⟨d, e, (hx.up a).dp _ _ (SeqAt.canLay_of_shaped sd), (hy.up a).dp _ _ (SeqAt.canLay_of_shaped se), sd, se, q H1 (Ex.refl H1)⟩
theorem ev_eqD (h1 : EvD ta σ H d) (h2 : EvD tb σ H e) (sd : SeqAt.shaped d = true) (se : SeqAt.shaped e = true) : Ev (tOp (rEqD K) ta tb) σ H (.bl (PyData.eqv d e)) := fun H1 a Q q =>
  h1 H1 a _ fun x H2 e2 hx => h2 H2 (a.trans e2) _ fun y H3 e3 hy => rv_eqD (hx.up e3) hy sd se H3 (Ex.refl H3) Q fun H4 e4 => q H4 ((e2.trans e3).trans e4)
theorem ev_neD (h1 : EvD ta σ H d) (h2 : EvD tb σ H e) (sd : SeqAt.shaped d = true) (se : SeqAt.shaped e = true) : Ev (tOp (rNeD K) ta tb) σ H (.bl (!PyData.eqv d e)) := fun H1 a Q q =>
  h1 H1 a _ fun x H2 e2 hx => h2 H2 (a.trans e2) _ fun y H3 e3 hy => rv_neD (hx.up e3) hy sd se H3 (Ex.refl H3) Q fun H4 e4 => q H4 ((e2.trans e3).trans e4)
/-- [..] == [], [..] != [] -/
theorem eqv_nil : PyData.eqv (.list ds) (.list []) = ds.isEmpty := by
  cases ds with
  | nil => rfl
  | cons d ds => rfl
theorem ev_eqNil (h1 : EvN ta σ H ds) (sd : SeqAt.shaped (.list ds) = true) : Ev (tOp (rEqD K) ta (tLst tNil)) σ H (.bl ds.isEmpty) := by
  have h := ev_eqD (K := K) h1.ed (EvN.ed (en_lst (H := H) (σ := σ) eda_nil (by decide) rfl)) sd rfl
  rw [eqv_nil] at h
  exact h
theorem ev_neNil (h1 : EvN ta σ H ds) (sd : SeqAt.shaped (.list ds) = true) : Ev (tOp (rNeD K) ta (tLst tNil)) σ H (.bl (!ds.isEmpty)) := by
  have h := ev_neD (K := K) h1.ed (EvN.ed (en_lst (H := H) (σ := σ) eda_nil (by decide) rfl)) sd rfl
  rw [eqv_nil] at h
  exact h
theorem ev_isi {c : String} {b : Bool} {v : V} (h : Ev te σ H v) (hd : Dt H v d) (k : kitB (tyN d) c = some b) : Ev (tCB (rIsi K) (tCons te (tCons (tC (.ty c)) tNil))) σ H (.bl b) := fun H1 a Q q =>
  h H1 a _ fun H2 e2 => rIsi_of (hd.up (a.trans e2)) k (q H2 e2)
end
/-! ### loops -/
theorem s_forZ {ta : TA} {j : Nat} {lo hi : Int} {tu : TS} {D : Ends} {σ : L2.St} {H : Hp} (h : EvA ta σ H [.int lo, .int hi]) (hb : -1000000 ≤ lo ∧ lo ≤ 1000000 ∧ -1000000 ≤ hi ∧ hi ≤ 1000000) (Pv : Nat → L2.St → Hp → Prop) (h0 : ∀ H1, Ex H H1 → Pv 0 σ H1)
    (hs : ∀ (i : Nat) σ' H', lo + (i : Int) < hi → Pv i σ' H' → tu { D with nx := Pv (i + 1), ct := Pv (i + 1), bk := D.nx } (σ'.set j (some (.int (lo + (i : Int))))) H') (hd : ∀ σ' H', Pv (hi - lo).toNat σ' H' → D.nx σ' H') : tFor (iRng2 ta) (gName j) tu D σ H :=
  h H (Ex.refl H) _ fun H1 e => ⟨lo, hi, rfl, ⟨by omega, by omega, by omega, by omega⟩, for_range (lo := lo) (n := (hi - lo).toNat) Pv (h0 H1 e) (fun i σ' H' hi p => hs i σ' H' (by omega) p) hd⟩
/-! ### the fractions within bounds -/
/-- the row of the fractions with the bottom b, tops from -n on, j of them looked at; all rows to the bottom i -/
def frow (n b : Int) (j : Nat) : List PyData := sel (fun t => decide (Int.gcd (-n + (t : Int)) b = 1)) (fun t => .tuple [.int (-n + (t : Int)), .int b]) j
def frows (n : Int) : Nat → List PyData
  | 0 => []
  | i + 1 => frows n i ++ frow n (1 + (i : Int)) (2 * n + 1).toNat
theorem frows_len {n : Int} (h0 : 0 ≤ n) (h : n ≤ 60) : ∀ i : Nat, (frows n i).length ≤ 121 * i
  | 0 => Nat.le_refl 0
  | i + 1 => by
    show (frows n i ++ frow n (1 + (i : Int)) (2 * n + 1).toNat).length ≤ _
    have h1 := frows_len h0 h i
    have h2 : (frow n (1 + (i : Int)) (2 * n + 1).toNat).length ≤ (2 * n + 1).toNat := sel_len _ _ _
    rw [List.length_append]
    omega
/-! ### statements over data -/
section
variable {K : PySem.W.Frag} {σ : L2.St} {H H' : Hp} {ta tb te tl : TE} {t u : TT} {d e : PyData} {ds : List PyData} {D : Ends} {tz : TS}
theorem q_asgN {i : Nat} (h : EvN te σ H ds) (k : ∀ p H1, H p = none → Ex H H1 → AccL H1 p ds → tz D (σ.set i (some (.ref p))) H1) : tSeq (tAsg te (gName i)) tz D σ H := h H (Ex.refl H) _ k
theorem s_asgN {i : Nat} (h : EvN te σ H ds) (k : ∀ p H1, H p = none → Ex H H1 → AccL H1 p ds → D.nx (σ.set i (some (.ref p))) H1) : tAsg te (gName i) D σ H := h H (Ex.refl H) _ k
theorem q_asgD {i : Nat} (h : EvD te σ H d) (k : ∀ v H1, Ex H H1 → Dt H1 v d → tz D (σ.set i (some v)) H1) : tSeq (tAsg te (gName i)) tz D σ H := h H (Ex.refl H) _ k
theorem s_asgD {i : Nat} (h : EvD te σ H d) (k : ∀ v H1, Ex H H1 → Dt H1 v d → D.nx (σ.set i (some v)) H1) : tAsg te (gName i) D σ H := h H (Ex.refl H) _ k
theorem s_retN (h : EvN te σ H ds) (k : ∀ p H1, H p = none → Ex H H1 → AccL H1 p ds → D.rt (.ref p) H1) : tRet te D σ H := h H (Ex.refl H) _ k
theorem s_retD (h : EvD te σ H d) (k : ∀ v H1, Ex H H1 → Dt H1 v d → D.rt v H1) : tRet te D σ H := h H (Ex.refl H) _ k
end
/-! ### the layer's rules, the written part told by name -/
section
variable {X : Cx} {tg l e : Expr} {tl te : TE} {pos : Pos}
theorem pi_listK (K : PySem.W.Frag) (hl : PE X l tl) (hK : X.K = K := by rfl) : PI X tg l (iList K tl) := by
  subst hK
  exact pi_list hl
theorem pi_tupK (K : PySem.W.Frag) (hl : PE X l tl) (hK : X.K = K := by rfl) : PI X tg l (iTup K tl) := by
  subst hK
  exact pi_tup hl
theorem pe_revLK {k : Nat} {p1 p2 p3 : Pos} (K : PySem.W.Frag) (he : PE X e te) (hK : X.K = K := by rfl) : PE X (.Subscript e (.Slice none none (some (.UnaryOp .USub (.Constant (.int 1) k p1) p2)) p3) pos) (tRevL K te) := by
  subst hK
  exact pe_revL he
end
/-! ### how many turns a law takes -/
theorem turns_ok (m L : Int) (hm : 1 ≤ m) (hL : 0 ≤ L) : 1 ≤ (if (if L < m then L else m) > 1 then (if L < m then L else m) else 1) ∧ (if (if L < m then L else m) > 1 then (if L < m then L else m) else 1) ≤ m := by
  split <;> split <;> omega
theorem PoolB.dr {H : Hp} {pa : Addr} {n : Nat} {p : Addr} {o : HO} (h : PoolB H pa n) (hp : H p = none) : PoolB (upd H p o) pa n := h.up (Ex.new hp)
/-! ### sizes of drawn numbers -/
def big (i : Nat) : Int := 1000000 ^ i
theorem big_succ (i : Nat) : big (i + 1) = big i * 1000000 := Int.pow_succ 1000000 i
theorem big_pos (i : Nat) : 0 < big i := Int.pow_pos (by decide)
theorem big_le : ∀ i : Nat, i < 6 → big i ≤ 1000000000000000000000000000000 := by decide +kernel
theorem big_far {v w : Int} {i : Nat} (h0 : 0 ≤ v) (h : v < big i) (w0 : 0 ≤ w) (w1 : w < 1000000) : 0 ≤ v * 1000000 + w ∧ v * 1000000 + w < big (i + 1) := by
  rw [big_succ]
  omega
/-! ### the primes below a thousand, as the laws find them -/
def primesL : List Int := (irng 2 1000).filter fun p => ((irng 2 32).filter fun d => decide (p % d = 0) && decide (d < p)).isEmpty
theorem primesL_len : primesL.length = 168 := by decide +kernel
/-- what is_prime reckons -/
def primeB (n : Int) : Bool := decide (2 ≤ n) && decide (n < 1000) && (irng 2 32).all fun k => decide (n < k * k) || !decide (n % k = 0)
theorem primesL_prime : ∀ p ∈ primesL, primeB p = true := by decide +kernel
theorem primeB_lo {n : Int} (h : primeB n = true) : 2 ≤ n ∧ n < 1000 := by
  unfold primeB at h
  obtain ⟨h, _⟩ := Bool.and_eq_true_iff.mp h
  obtain ⟨h1, h2⟩ := Bool.and_eq_true_iff.mp h
  exact ⟨of_decide_eq_true h1, of_decide_eq_true h2⟩
theorem primesL_lo {p : Int} (h : p ∈ primesL) : 2 ≤ p ∧ p < 1000 := primeB_lo (primesL_prime p h)
theorem primesL_get {i : Nat} (h : i < 168) : ∃ p, (primesL.map V.int)[i]? = some (.int p) ∧ p ∈ primesL := by
  have h2 : i < primesL.length := by rw [primesL_len]; exact h
  refine ⟨primesL[i], ?_, List.getElem_mem h2⟩
  rw [List.getElem?_map, List.getElem?_eq_getElem h2]
  rfl
/-! ### fractions and primes as data -/
def dFrac : PyData → Bool
  | .tuple [.int t, .int b] => decide (1 ≤ b) && decide (Int.gcd t b = 1)
  | _ => false
def dPrime : PyData → Bool
  | .int n => primeB n
  | _ => false
theorem dFrac_pair {d : PyData} (h : dPair d = false) : dFrac d = false := by
  match d, h with
  | .tuple [], _ => simp [dFrac]
  | .tuple [_], _ => simp [dFrac]
  | .tuple [_, _], h => exact nomatch h
  | .tuple (_ :: _ :: _ :: _), _ => simp [dFrac]
  | .none, _ => rfl
  | .bool _, _ => rfl
  | .int _, _ => rfl
  | .str _, _ => rfl
  | .list _, _ => rfl
  | .dict _, _ => rfl
theorem dFrac_get {d : PyData} (h : dFrac d = true) : ∃ t b : Int, d = .tuple [.int t, .int b] ∧ 1 ≤ b ∧ Int.gcd t b = 1 := by
  unfold dFrac at h
  split at h
  · obtain ⟨h1, h2⟩ := Bool.and_eq_true_iff.mp h
    exact ⟨_, _, rfl, of_decide_eq_true h1, of_decide_eq_true h2⟩
  · cases h
theorem dFrac_of {t b : Int} (h1 : 1 ≤ b) (h2 : Int.gcd t b = 1) : dFrac (.tuple [.int t, .int b]) = true := by
  show (decide (1 ≤ b) && decide (Int.gcd t b = 1)) = true
  rw [decide_eq_true h1, decide_eq_true h2]
  rfl
theorem primeB_no {n k : Int} (h1 : 2 ≤ k) (h2 : k * k ≤ n) (h3 : n % k = 0) : primeB n = false := by
  cases e : primeB n with
  | false => rfl
  | true =>
    have hn := primeB_lo e
    have hk : k < 32 := by
      by_cases z : k < 32
      · exact z
      · have : 32 * 32 ≤ k * k := Int.mul_le_mul (by omega) (by omega) (by decide) (by omega)
        omega
    unfold primeB at e
    obtain ⟨_, e⟩ := Bool.and_eq_true_iff.mp e
    have e := List.all_eq_true.mp e k (irng_mem.mpr ⟨h1, hk⟩)
    rw [decide_eq_false (by omega), decide_eq_true h3] at e
    exact nomatch e
theorem primeB_yes {n k : Int} (h0 : 2 ≤ n) (h1 : n < 1000) (hk : 2 ≤ k) (h2 : n < k * k) (h3 : ∀ j : Int, 2 ≤ j → j < k → n % j ≠ 0) : primeB n = true := by
  unfold primeB
  rw [decide_eq_true h0, decide_eq_true h1, Bool.true_and, Bool.true_and]
  refine List.all_eq_true.mpr fun j hj => ?_
  obtain ⟨j0, j1⟩ := irng_mem.mp hj
  by_cases z : j < k
  · rw [decide_eq_false (h3 j j0 z)]
    exact Bool.or_true _
  · have : k * k ≤ j * j := Int.mul_le_mul (by omega) (by omega) (by omega) (by omega)
    rw [decide_eq_true (by omega)]
    rfl
/-! a prime that does not divide has nothing in common -/
theorem primeB_div {p g : Int} (hp : primeB p = true) (hg : g ∣ p) (g0 : 0 < g) : g = 1 ∨ g = p := by
  obtain ⟨lo, hi⟩ := primeB_lo hp
  obtain ⟨c, hc⟩ := hg
  have hg2 : g ≤ p := Int.le_of_dvd (by omega) ⟨c, hc⟩
  have c0 : 0 < c := by
    by_cases z : 0 < c
    · exact z
    · have : g * c ≤ g * 0 := Int.mul_le_mul_of_nonneg_left (by omega) (by omega)
      omega
  by_cases z1 : g = 1
  · exact .inl z1
  · by_cases z2 : c = 1
    · rw [z2] at hc
      exact .inr (by omega)
    · exfalso
      by_cases z : g * g ≤ p
      · have := primeB_no (k := g) (by omega) z (Int.emod_eq_zero_of_dvd ⟨c, hc⟩)
        rw [hp] at this
        cases this
      · have hcg : c ≤ g := by
          by_cases y : c ≤ g
          · exact y
          · have : g * g ≤ g * c := Int.mul_le_mul_of_nonneg_left (by omega) (by omega)
            omega
        have : c * c ≤ g * c := Int.mul_le_mul_of_nonneg_right hcg (by omega)
        have := primeB_no (k := c) (n := p) (by omega) (by omega) (Int.emod_eq_zero_of_dvd ⟨g, by rw [hc, Int.mul_comm]⟩)
        rw [hp] at this
        cases this
theorem primeB_gcd {p b : Int} (hp : primeB p = true) (h : b % p ≠ 0) : Int.gcd b p = 1 := by
  have lo := primeB_lo hp
  have h0 : Int.gcd b p ≠ 0 := fun e => by
    have := Int.gcd_dvd_right b p
    rw [e] at this
    have := Int.zero_dvd.mp this
    omega
  rcases primeB_div hp (Int.gcd_dvd_right b p) (by omega) with e | e
  · omega
  · have hd := Int.gcd_dvd_left b p
    rw [e] at hd
    exact absurd (Int.emod_eq_zero_of_dvd hd) h
theorem dvd_left_of {p a b : Int} (d : p ∣ a * b) (h : Int.gcd p b = 1) : p ∣ a := by
  rw [← Int.natAbs_dvd_natAbs] at d ⊢
  rw [Int.natAbs_mul] at d
  rw [Int.gcd_eq_natAbs_gcd_natAbs] at h
  exact Nat.Coprime.dvd_of_dvd_mul_right h d
/-! ### Euclid's rows -/
structure EInv (m n ab l fa f t ta s : Int) : Prop where
  hl : l = f * n + t * m
  ha : ab = fa * n + ta * m
  hs : f * ta - fa * t = s
  sg : s = 1 ∨ s = -1
  l0 : 0 ≤ l
  la : l < ab
  am : ab ≤ m
  f1 : 1 ≤ s * f
  fa0 : s * fa ≤ 0
theorem EInv.tot {m n ab l fa f t ta s : Int} (h : EInv m n ab l fa f t ta s) : s * f * ab + (-(s * fa)) * l = m := by
  obtain ⟨hl, ha, hs, sg, _⟩ := h
  have e1 : f * ab - fa * l = m * s := by
    rw [ha, hl]
    grind
  rcases sg with rfl | rfl
  · grind
  · grind
theorem EInv.step {m n ab l fa f t ta s : Int} (h : EInv m n ab l fa f t ta s) (hl : 0 < l) : EInv m n l (ab - ab / l * l) f (fa - ab / l * f) (ta - ab / l * t) t (-s) := by
  obtain ⟨h1, h2, h3, sg, l0, la, am, f1, fa0⟩ := h
  have e := Int.emod_add_ediv_mul ab l
  have m0 := Int.emod_nonneg ab (show l ≠ 0 by omega)
  have m1 := Int.emod_lt_of_pos ab hl
  have q1 : 1 ≤ ab / l := by
    have := Int.ediv_le_ediv hl (show l ≤ ab by omega)
    rw [Int.ediv_self (by omega)] at this
    exact this
  refine ⟨?_, h1, ?_, ?_, by omega, by omega, by omega, ?_, ?_⟩
  · generalize ab / l = q at *
    grind
  · generalize ab / l = q at *
    grind
  · rcases sg with rfl | rfl
    · exact .inr rfl
    · exact .inl rfl
  · have : 1 * 1 ≤ ab / l * (s * f) := Int.mul_le_mul q1 f1 (by decide) (by omega)
    generalize ab / l = q at *
    have e2 : -s * (fa - q * f) = -(s * fa) + q * (s * f) := by grind
    rw [e2]
    omega
  · rw [Int.neg_mul]
    omega
theorem EInv.size {m n ab l fa f t ta s : Int} (h : EInv m n ab l fa f t ta s) : f.natAbs ≤ m.natAbs ∧ (0 < l → fa.natAbs ≤ m.natAbs) := by
  have tot := h.tot
  obtain ⟨_, _, _, sg, l0, la, am, f1, fa0⟩ := h
  have a1 : s * f * 1 ≤ s * f * ab := Int.mul_le_mul_of_nonneg_left (by omega) (by omega)
  have a2 : 0 ≤ -(s * fa) * l := Int.mul_nonneg (by omega) l0
  refine ⟨?_, fun hl => ?_⟩
  · rcases sg with rfl | rfl <;> omega
  · have a3 : -(s * fa) * 1 ≤ -(s * fa) * l := Int.mul_le_mul_of_nonneg_left (by omega) (by omega)
    rcases sg with rfl | rfl <;> omega
def Row (m n k l f : Int) : Prop := ∃ ab fa t ta s : Int, EInv m n ab l fa f t ta s ∧ l ≤ k ∧ (k < ab ∨ (f = 1 ∧ fa = 0 ∧ ab = m))
theorem row_inv {p a l f : Int} (h : Row p (a % p) 1 l f) (hp : 1 < p) (hg : Int.gcd a p = 1) : l = 1 ∧ f % p * a % p = 1 := by
  obtain ⟨ab, fa, t, ta, s, I, hk, hx⟩ := h
  have tot := I.tot
  have hl0 := I.l0
  have hg2 : Int.gcd p (a % p) = 1 := by rw [gcd_step, hg]
  have l1 : l = 1 := by
    by_cases z : l = 1
    · exact z
    · exfalso
      have z : l = 0 := by omega
      subst z
      have e := I.hl
      have d : p ∣ f * (a % p) := ⟨-t, by rw [Int.mul_neg, Int.mul_comm p t]; omega⟩
      have df : p ∣ f := dvd_left_of d hg2
      obtain ⟨c, hc⟩ := df
      have f1 := I.f1
      have sfp : p ≤ s * f := by
        refine Int.le_of_dvd (by omega) ⟨s * c, ?_⟩
        rw [hc]
        grind
      rw [Int.mul_zero, Int.add_zero] at tot
      rcases hx with h | ⟨rfl, _, _⟩
      · have : s * f * 2 ≤ s * f * ab := Int.mul_le_mul_of_nonneg_left (by omega) (by omega)
        omega
      · rcases I.sg with rfl | rfl <;> omega
  refine ⟨l1, ?_⟩
  have e := I.hl
  rw [l1] at e
  have h1 : f % p * a % p = f * (a % p) % p := by
    rw [Int.mul_emod, Int.emod_emod_of_dvd f (Int.dvd_refl p), ← Int.mul_emod, Int.mul_emod f (a % p), Int.emod_emod_of_dvd a (Int.dvd_refl p), ← Int.mul_emod]
  rw [h1, show f * (a % p) = 1 + p * (-t) by rw [Int.mul_neg, Int.mul_comm p t]; omega, Int.add_mul_emod_self_left]
  exact Int.emod_eq_of_lt (by decide) hp
/-! ### the rest of a fraction by a prime -/
def restI (t b p : Int) : Int := ((irng 0 p).find? fun r => decide ((r * b - t) % p = 0)).getD 0
def restD (t b p : Int) : PyData := if b % p = 0 then .none else .int (restI t b p)
theorem restI_eq {t b p r : Int} (hg : Int.gcd b p = 1) (r0 : 0 ≤ r) (r1 : r < p) (h : (r * b - t) % p = 0) : restI t b p = r := by
  unfold restI
  cases e : (irng 0 p).find? fun r => decide ((r * b - t) % p = 0) with
  | none =>
    have := List.find?_eq_none.mp e r (irng_mem.mpr ⟨r0, r1⟩)
    rw [decide_eq_true h] at this
    exact absurd rfl this
  | some x =>
    have h1 := List.find?_some e
    have h1 : (x * b - t) % p = 0 := of_decide_eq_true h1
    obtain ⟨x0, x1⟩ := irng_mem.mp (List.mem_of_find?_eq_some e)
    have d : p ∣ (x - r) * b := by
      have d1 := Int.dvd_sub (Int.dvd_of_emod_eq_zero h1) (Int.dvd_of_emod_eq_zero h)
      have : x * b - t - (r * b - t) = (x - r) * b := by grind
      rw [this] at d1
      exact d1
    have d2 : p ∣ x - r := dvd_left_of d (by rw [Int.gcd_comm]; exact hg)
    obtain ⟨c, hc⟩ := d2
    show x = r
    rcases Int.lt_trichotomy c 0 with z | z | z
    · have : p * c ≤ p * (-1) := Int.mul_le_mul_of_nonneg_left (by omega) (by omega)
      omega
    · rw [z] at hc
      omega
    · have : p * 1 ≤ p * c := Int.mul_le_mul_of_nonneg_left (by omega) (by omega)
      omega
theorem rest_ok {t b p i : Int} (hp : primeB p = true) (hb : b % p ≠ 0) (hi : i * b % p = 1) : restD t b p = .int (t * i % p) ∧ 0 ≤ t * i % p ∧ t * i % p < p ∧ (t * i % p * b - t) % p = 0 := by
  have lo := primeB_lo hp
  have r0 := Int.emod_nonneg (t * i) (show p ≠ 0 by omega)
  have r1 := Int.emod_lt_of_pos (t * i) (show 0 < p by omega)
  have h : (t * i % p * b - t) % p = 0 := by
    have e1 := Int.emod_add_mul_ediv (t * i) p
    have e2 := Int.emod_add_mul_ediv (i * b) p
    rw [hi] at e2
    generalize t * i / p = x at e1
    generalize i * b / p = y at e2
    generalize t * i % p = r at e1
    refine Int.emod_eq_zero_of_dvd ⟨t * y - x * b, ?_⟩
    grind
  refine ⟨?_, r0, r1, h⟩
  unfold restD
  rw [if_neg hb, restI_eq (primeB_gcd hp hb) r0 r1 h]
def dI0 : PyData → Int
  | .int i => i
  | _ => 0
theorem flt_ints (f : Int → Bool) (F : PyData → Bool) (h : ∀ n, F (.int n) = f n) (g : PyData → PyData) (hg : ∀ n, g (.int n) = .int n) : ∀ ns : List Int, ((ns.map PyData.int).filter F).map g = (ns.filter f).map PyData.int
  | [] => rfl
  | n :: ns => by
    rw [List.map_cons, List.filter_cons, List.filter_cons, h]
    cases f n with
    | true => simp only [if_true, List.map_cons]; rw [flt_ints f F h g hg ns, hg]
    | false => simp only [Bool.false_eq_true, if_false]; exact flt_ints f F h g hg ns
/-! ### what is sure to be there: a number that times another leaves 1 -/
theorem bez : ∀ (n : Nat) (a b : Int), 0 ≤ b → b.toNat ≤ n → ∃ x y : Int, a * x + b * y = (Int.gcd a b : Int)
  | 0, a, b, h0, h1 => by
    have e : b = 0 := by omega
    subst e
    rw [Int.gcd_zero_right]
    rcases Int.natAbs_eq a with z | z
    · exact ⟨1, 0, by omega⟩
    · exact ⟨-1, 0, by omega⟩
  | n + 1, a, b, h0, h1 => by
    by_cases z : b = 0
    · exact bez 0 a b h0 (by omega)
    · have m0 := Int.emod_nonneg a z
      have m1 := Int.emod_lt_of_pos a (show 0 < b by omega)
      obtain ⟨x, y, e⟩ := bez n b (a % b) m0 (by omega)
      rw [gcd_step] at e
      refine ⟨y, x - a / b * y, ?_⟩
      rw [← e]
      have := Int.emod_add_mul_ediv a b
      generalize a % b = r at *
      generalize a / b = q at *
      grind
theorem inv_ex {b p : Int} (hp : 1 < p) (hg : Int.gcd b p = 1) : ∃ i : Int, i * b % p = 1 := by
  obtain ⟨x, y, e⟩ := bez p.toNat b p (by omega) (Nat.le_refl _)
  rw [hg] at e
  refine ⟨x, ?_⟩
  rw [show x * b = 1 + p * (-y) by grind, Int.add_mul_emod_self_left]
  exact Int.emod_eq_of_lt (by decide) hp
theorem restD_ok {t b p : Int} (hp : primeB p = true) (hb : b % p ≠ 0) : ∃ r : Int, restD t b p = .int r ∧ 0 ≤ r ∧ r < p ∧ (r * b - t) % p = 0 := by
  have lo := primeB_lo hp
  obtain ⟨i, hi⟩ := inv_ex (by omega) (primeB_gcd hp hb)
  obtain ⟨h1, h2, h3, h4⟩ := rest_ok (t := t) hp hb hi
  exact ⟨_, h1, h2, h3, h4⟩
theorem restD_none {t b p : Int} (hb : b % p = 0) : restD t b p = .none := by
  unfold restD
  rw [if_pos hb]
/-! ### lists of drawn primes -/
def PrL (H : Hp) (a : Addr) (m : Nat) : Prop := ∃ qs : List Int, H a = some (.lst (qs.map V.int)) ∧ qs.length ≤ m ∧ ∀ x ∈ qs, x ∈ primesL
theorem PrL.up {H H' : Hp} {a : Addr} {m : Nat} (h : PrL H a m) (e : Ex H H') : PrL H' a m := by
  obtain ⟨qs, h1, h2, h3⟩ := h
  exact ⟨qs, e _ _ h1, h2, h3⟩
theorem PrL.dr {H H' : Hp} {a B : Addr} {m : Nat} (h : PrL H a m) (n : a ≠ B) (e : ExB B H H') : PrL H' a m := by
  obtain ⟨qs, h1, h2, h3⟩ := h
  exact ⟨qs, e _ _ n h1, h2, h3⟩
theorem PrL.less {H : Hp} {a : Addr} {m k : Nat} (h : PrL H a m) (l : m ≤ k) : PrL H a k := by
  obtain ⟨qs, h1, h2, h3⟩ := h
  exact ⟨qs, h1, by omega, h3⟩
theorem PoolB.ne {H : Hp} {pa p : Addr} {n : Nat} (h : PoolB H pa n) (hp : H p = none) : p ≠ pa := fun z => by
  obtain ⟨xs, hx⟩ := h.isL
  rw [z, hx] at hp
  cases hp
theorem cut_map (qs : List Int) (lo hi : Option Int) : ∃ rs : List Int, cutV (qs.map V.int) lo hi = rs.map V.int ∧ rs.length ≤ qs.length ∧ ∀ x ∈ rs, x ∈ qs := by
  unfold cutV
  rw [← List.map_drop, ← List.map_take]
  refine ⟨_, rfl, ?_, fun x hx => List.mem_of_mem_drop (List.mem_of_mem_take hx)⟩
  rw [List.length_take, List.length_drop]
  omega
theorem atI_of {α : Type} {xs : List α} {x : Int} {v : α} (h0 : 0 ≤ x) (h : xs[x.toNat]? = some v) : atI xs x = some v := by
  have e : x = ((x.toNat : Nat) : Int) := by omega
  rw [e]
  exact atI_nat (j := x.toNat) h
/-! ### one piece of a reading at its head -/
theorem gName_app {i : Nat} {v : V} {σ : L2.St} {H : Hp} {Q : L2.St → Hp → Prop} : gName i v σ H Q = Q (σ.set i (some v)) H := rfl
theorem go_asg {te : TE} {i : Nat} {tz : TS} {D : Ends} {σ : L2.St} {H : Hp} (h : te σ H fun x H1 => tz D (σ.set i (some x)) H1) : tSeq (tAsg te (gName i)) tz D σ H := h
theorem go_asgL {te : TE} {i : Nat} {D : Ends} {σ : L2.St} {H : Hp} (h : te σ H fun x H1 => D.nx (σ.set i (some x)) H1) : tAsg te (gName i) D σ H := h
theorem go_cons {te : TE} {tr : TA} {σ : L2.St} {H : Hp} {Q : List V → Hp → Prop} (h : te σ H fun x H1 => tr σ H1 fun xs H2 => Q (x :: xs) H2) : tCons te tr σ H Q := h
theorem go_cb {te : TE} {r : List V → Hp → VK → Prop} {σ : L2.St} {H : Hp} {Q : VK} (h : te σ H fun x H1 => r [x] H1 Q) : tCB r (tCons te tNil) σ H Q := h
/-- a drawn fraction -/
def FracOk (t b : Int) : Prop := 1 ≤ b ∧ b < 1000000000000000000000000000000 ∧ t < 1000000000000000000000000000000 ∧ -1000000000000000000000000000000 < t ∧ Int.gcd t b = 1
/-! ### whole numbers below a limit, primes from 3 to 97, degrees -/
def dBelow (m : Int) : PyData → Bool
  | .int r => decide (0 ≤ r) && decide (r < m)
  | _ => false
theorem dBelow_of {m r : Int} (h0 : 0 ≤ r) (h1 : r < m) : dBelow m (.int r) = true := by
  show (decide (0 ≤ r) && decide (r < m)) = true
  rw [decide_eq_true h0, decide_eq_true h1]
  rfl
theorem dBelow_get {m : Int} {d : PyData} (h : dBelow m d = true) : ∃ r : Int, d = .int r ∧ 0 ≤ r ∧ r < m := by
  cases d with
  | int r =>
    obtain ⟨h1, h2⟩ := Bool.and_eq_true_iff.mp (show (decide (0 ≤ r) && decide (r < m)) = true from h)
    exact ⟨r, rfl, of_decide_eq_true h1, of_decide_eq_true h2⟩
  | _ => exact nomatch h
def dField : PyData → Bool
  | .int n => primeB n && decide (3 ≤ n) && decide (n ≤ 97)
  | _ => false
theorem dField_get {d : PyData} (h : dField d = true) : ∃ n : Int, d = .int n ∧ primeB n = true ∧ 3 ≤ n ∧ n ≤ 97 := by
  cases d with
  | int n =>
    obtain ⟨h1, h3⟩ := Bool.and_eq_true_iff.mp (show (primeB n && decide (3 ≤ n) && decide (n ≤ 97)) = true from h)
    obtain ⟨h1, h2⟩ := Bool.and_eq_true_iff.mp h1
    exact ⟨n, rfl, h1, of_decide_eq_true h2, of_decide_eq_true h3⟩
  | _ => exact nomatch h
def dDegs : PyData → Bool
  | .tuple [a, b] => dBelow 5 a && dBelow 5 b
  | _ => false
theorem dDegs_pair {d : PyData} (h : dPair d = false) : dDegs d = false := by
  match d, h with
  | .tuple [], _ => simp [dDegs]
  | .tuple [_], _ => simp [dDegs]
  | .tuple [_, _], h => exact nomatch h
  | .tuple (_ :: _ :: _ :: _), _ => simp [dDegs]
  | .none, _ => rfl
  | .bool _, _ => rfl
  | .int _, _ => rfl
  | .str _, _ => rfl
  | .list _, _ => rfl
  | .dict _, _ => rfl
/-- the primes from 3 to 97, as the laws write them -/
def fieldL : List Int := [3, 5, 7, 11, 13, 17, 19, 23, 29, 31, 37, 41, 43, 47, 53, 59, 61, 67, 71, 73, 79, 83, 89, 97]
theorem fieldL_ok : ∀ p ∈ fieldL, dField (.int p) = true := by decide +kernel
theorem fieldL_len : fieldL.length = 24 := rfl
theorem fieldL_get {x : Int} (h0 : 0 ≤ x) (h : x < 24) : ∃ p, atI (fieldL.map V.int) x = some (.int p) ∧ p ∈ fieldL := by
  have h2 : x.toNat < fieldL.length := by rw [fieldL_len]; omega
  refine ⟨fieldL[x.toNat], ?_, List.getElem_mem h2⟩
  refine atI_of h0 ?_
  rw [List.getElem?_map, List.getElem?_eq_getElem h2]
  rfl
def topS (i : Nat) : Stmt := PySem.Challenge.pw_toldback_k74_fewest_places.main.body.getD i (.Pass ⟨0, 0, 0, 0⟩)
abbrev s_is_whole : Stmt := topS 6
abbrev N_is_whole : List Str := ["thing"]
theorem sc_is_whole : FnScope N_is_whole ["thing"] (defScope s_is_whole) := ⟨rfl, rfl, rfl, by decide +kernel, rfl, by decide +kernel, by decide +kernel⟩
abbrev s_is_whole_below : Stmt := topS 7
abbrev N_is_whole_below : List Str := ["thing", "limit"]
theorem sc_is_whole_below : FnScope N_is_whole_below ["thing", "limit"] (defScope s_is_whole_below) := ⟨rfl, rfl, rfl, by decide +kernel, rfl, by decide +kernel, by decide +kernel⟩
abbrev s_is_pair : Stmt := topS 10
abbrev N_is_pair : List Str := ["thing"]
theorem sc_is_pair : FnScope N_is_pair ["thing"] (defScope s_is_pair) := ⟨rfl, rfl, rfl, by decide +kernel, rfl, by decide +kernel, by decide +kernel⟩
abbrev s_is_prime : Stmt := topS 11
abbrev N_is_prime : List Str := ["thing", "divisor"]
theorem sc_is_prime : FnScope N_is_prime ["thing"] (defScope s_is_prime) := ⟨rfl, rfl, rfl, by decide +kernel, rfl, by decide +kernel, by decide +kernel⟩
abbrev s_need_field : Stmt := topS 15
abbrev N_need_field : List Str := ["p"]
theorem sc_need_field : FnScope N_need_field ["p"] (defScope s_need_field) := ⟨rfl, rfl, rfl, by decide +kernel, rfl, by decide +kernel, by decide +kernel⟩
abbrev s_is_degrees : Stmt := topS 19
abbrev N_is_degrees : List Str := ["thing"]
theorem sc_is_degrees : FnScope N_is_degrees ["thing"] (defScope s_is_degrees) := ⟨rfl, rfl, rfl, by decide +kernel, rfl, by decide +kernel, by decide +kernel⟩
abbrev s_need_degrees : Stmt := topS 20
abbrev N_need_degrees : List Str := ["thing"]
theorem sc_need_degrees : FnScope N_need_degrees ["thing"] (defScope s_need_degrees) := ⟨rfl, rfl, rfl, by decide +kernel, rfl, by decide +kernel, by decide +kernel⟩
abbrev s_places_wanted : Stmt := topS 21
abbrev N_places_wanted : List Str := ["degrees", "e", "a", "b"]
theorem sc_places_wanted : FnScope N_places_wanted ["degrees", "e"] (defScope s_places_wanted) := ⟨rfl, rfl, rfl, by decide +kernel, rfl, by decide +kernel, by decide +kernel⟩
abbrev s_need_few_wrong : Stmt := topS 24
abbrev N_need_few_wrong : List Str := ["thing"]
theorem sc_need_few_wrong : FnScope N_need_few_wrong ["thing"] (defScope s_need_few_wrong) := ⟨rfl, rfl, rfl, by decide +kernel, rfl, by decide +kernel, by decide +kernel⟩
abbrev s_fewest_places : Stmt := topS 26
abbrev N_fewest_places : List Str := ["p", "degrees", "e", "wanted"]
theorem sc_fewest_places : FnScope N_fewest_places ["p", "degrees", "e"] (defScope s_fewest_places) := ⟨rfl, rfl, rfl, by decide +kernel, rfl, by decide +kernel, by decide +kernel⟩
abbrev s__law_cell : Stmt := topS 28
abbrev N__law_cell : List Str := ["script", "k"]
theorem sc__law_cell : FnScope N__law_cell ["script", "k"] (defScope s__law_cell) := ⟨rfl, rfl, rfl, by decide +kernel, rfl, by decide +kernel, by decide +kernel⟩
abbrev s__law_store : Stmt := topS 29
abbrev N__law_store : List Str := ["cell", "great"]
theorem sc__law_store : FnScope N__law_store ["cell"] (defScope s__law_store) := ⟨rfl, rfl, rfl, by decide +kernel, rfl, by decide +kernel, by decide +kernel⟩
abbrev s__law_take : Stmt := topS 30
abbrev N__law_take : List Str := ["store", "many", "told", "one"]
theorem sc__law_take : FnScope N__law_take ["store", "many"] (defScope s__law_take) := ⟨rfl, rfl, rfl, by decide +kernel, rfl, by decide +kernel, by decide +kernel⟩
abbrev s__law_prime : Stmt := topS 31
abbrev N__law_prime : List Str := ["store", "primes"]
theorem sc__law_prime : FnScope N__law_prime ["store"] (defScope s__law_prime) := ⟨rfl, rfl, rfl, by decide +kernel, rfl, by decide +kernel, by decide +kernel⟩
abbrev s__law_right : Stmt := topS 32
abbrev N__law_right : List Str := ["p", "degrees", "e", "many", "found"]
theorem sc__law_right : FnScope N__law_right ["p", "degrees", "e"] (defScope s__law_right) := ⟨rfl, rfl, rfl, by decide +kernel, rfl, by decide +kernel, by decide +kernel⟩
abbrev s_law : Stmt := topS 33
abbrev N_law : List Str := ["script", "at", "store", "turn", "a", "b", "e", "p"]
theorem sc_law : FnScope N_law ["script"] (defScope s_law) := ⟨rfl, rfl, rfl, by decide +kernel, rfl, by decide +kernel, by decide +kernel⟩
abbrev FnP (K : PySem.W.Frag) (x : Str) (st : Stmt) (f : Addr) (fd : FuncData) : Prop := FunD K x x (defArgs st) (defBody st) (defScope st) [] [] f fd
structure Ad where
  a_is_whole : Addr
  d_is_whole : FuncData
  a_is_whole_below : Addr
  d_is_whole_below : FuncData
  a_is_pair : Addr
  d_is_pair : FuncData
  a_is_prime : Addr
  d_is_prime : FuncData
  a_need_field : Addr
  d_need_field : FuncData
  a_is_degrees : Addr
  d_is_degrees : FuncData
  a_need_degrees : Addr
  d_need_degrees : FuncData
  a_places_wanted : Addr
  d_places_wanted : FuncData
  a_need_few_wrong : Addr
  d_need_few_wrong : FuncData
  a_fewest_places : Addr
  d_fewest_places : FuncData
  a__law_cell : Addr
  d__law_cell : FuncData
  a__law_store : Addr
  d__law_store : FuncData
  a__law_take : Addr
  d__law_take : FuncData
  a__law_prime : Addr
  d__law_prime : FuncData
  a__law_right : Addr
  d__law_right : FuncData
  a_law : Addr
  d_law : FuncData
  t_PRIME_LIMIT : Tok
  t_LEAST_PRIME : Tok
  t_GREATEST_PRIME : Tok
  t_MOST_WORTHS : Tok
  t_MOST_DEGREE : Tok
  t_MOST_WRONG : Tok
  k_BackError : Addr
  k_NoPrime : Addr
  k_NoNumber : Addr
  k_NoDegrees : Addr
structure Txt (K : PySem.W.Frag) (mg : Str → Option Value) (z : Ad) : Prop where
  F_is_whole : FnP K "is_whole" s_is_whole z.a_is_whole z.d_is_whole
  g_is_whole : mg "is_whole" = some (.ref z.a_is_whole)
  b_is_whole : Binds K z.d_is_whole ["thing"] []
  F_is_whole_below : FnP K "is_whole_below" s_is_whole_below z.a_is_whole_below z.d_is_whole_below
  g_is_whole_below : mg "is_whole_below" = some (.ref z.a_is_whole_below)
  b_is_whole_below : Binds K z.d_is_whole_below ["thing", "limit"] []
  F_is_pair : FnP K "is_pair" s_is_pair z.a_is_pair z.d_is_pair
  g_is_pair : mg "is_pair" = some (.ref z.a_is_pair)
  b_is_pair : Binds K z.d_is_pair ["thing"] []
  F_is_prime : FnP K "is_prime" s_is_prime z.a_is_prime z.d_is_prime
  g_is_prime : mg "is_prime" = some (.ref z.a_is_prime)
  b_is_prime : Binds K z.d_is_prime ["thing"] []
  F_need_field : FnP K "need_field" s_need_field z.a_need_field z.d_need_field
  g_need_field : mg "need_field" = some (.ref z.a_need_field)
  b_need_field : Binds K z.d_need_field ["p"] []
  F_is_degrees : FnP K "is_degrees" s_is_degrees z.a_is_degrees z.d_is_degrees
  g_is_degrees : mg "is_degrees" = some (.ref z.a_is_degrees)
  b_is_degrees : Binds K z.d_is_degrees ["thing"] []
  F_need_degrees : FnP K "need_degrees" s_need_degrees z.a_need_degrees z.d_need_degrees
  g_need_degrees : mg "need_degrees" = some (.ref z.a_need_degrees)
  b_need_degrees : Binds K z.d_need_degrees ["thing"] []
  F_places_wanted : FnP K "places_wanted" s_places_wanted z.a_places_wanted z.d_places_wanted
  g_places_wanted : mg "places_wanted" = some (.ref z.a_places_wanted)
  b_places_wanted : Binds K z.d_places_wanted ["degrees", "e"] []
  F_need_few_wrong : FnP K "need_few_wrong" s_need_few_wrong z.a_need_few_wrong z.d_need_few_wrong
  g_need_few_wrong : mg "need_few_wrong" = some (.ref z.a_need_few_wrong)
  b_need_few_wrong : Binds K z.d_need_few_wrong ["thing"] []
  F_fewest_places : FnP K "fewest_places" s_fewest_places z.a_fewest_places z.d_fewest_places
  g_fewest_places : mg "fewest_places" = some (.ref z.a_fewest_places)
  b_fewest_places : Binds K z.d_fewest_places ["p", "degrees", "e"] []
  F__law_cell : FnP K "_law_cell" s__law_cell z.a__law_cell z.d__law_cell
  g__law_cell : mg "_law_cell" = some (.ref z.a__law_cell)
  b__law_cell : Binds K z.d__law_cell ["script", "k"] []
  F__law_store : FnP K "_law_store" s__law_store z.a__law_store z.d__law_store
  g__law_store : mg "_law_store" = some (.ref z.a__law_store)
  b__law_store : Binds K z.d__law_store ["cell"] []
  F__law_take : FnP K "_law_take" s__law_take z.a__law_take z.d__law_take
  g__law_take : mg "_law_take" = some (.ref z.a__law_take)
  b__law_take : Binds K z.d__law_take ["store", "many"] []
  F__law_prime : FnP K "_law_prime" s__law_prime z.a__law_prime z.d__law_prime
  g__law_prime : mg "_law_prime" = some (.ref z.a__law_prime)
  b__law_prime : Binds K z.d__law_prime ["store"] []
  F__law_right : FnP K "_law_right" s__law_right z.a__law_right z.d__law_right
  g__law_right : mg "_law_right" = some (.ref z.a__law_right)
  b__law_right : Binds K z.d__law_right ["p", "degrees", "e"] []
  F_law : FnP K "law" s_law z.a_law z.d_law
  g_law : mg "law" = some (.ref z.a_law)
  b_law : Binds K z.d_law ["script"] []
  m_isinstance : mg "isinstance" = none
  m_bool : mg "bool" = none
  m_int : mg "int" = none
  m_len : mg "len" = none
  m_tuple : mg "tuple" = none
  m_range : mg "range" = none
  m_min : mg "min" = none
  m_max : mg "max" = none
  c_PRIME_LIMIT : mg "PRIME_LIMIT" = some (.int 1000 z.t_PRIME_LIMIT)
  c_LEAST_PRIME : mg "LEAST_PRIME" = some (.int 3 z.t_LEAST_PRIME)
  c_GREATEST_PRIME : mg "GREATEST_PRIME" = some (.int 97 z.t_GREATEST_PRIME)
  c_MOST_WORTHS : mg "MOST_WORTHS" = some (.int 12 z.t_MOST_WORTHS)
  c_MOST_DEGREE : mg "MOST_DEGREE" = some (.int 4 z.t_MOST_DEGREE)
  c_MOST_WRONG : mg "MOST_WRONG" = some (.int 2 z.t_MOST_WRONG)
  k_BackError : mg "BackError" = some (.ref z.k_BackError)
  x_BackError : ExcFacts K z.k_BackError
  k_NoPrime : mg "NoPrime" = some (.ref z.k_NoPrime)
  x_NoPrime : ExcFacts K z.k_NoPrime
  k_NoNumber : mg "NoNumber" = some (.ref z.k_NoNumber)
  x_NoNumber : ExcFacts K z.k_NoNumber
  k_NoDegrees : mg "NoDegrees" = some (.ref z.k_NoDegrees)
  x_NoDegrees : ExcFacts K z.k_NoDegrees
section
variable {P : Program} {w : World} {K : PySem.W.Frag} {mg : Str → Option Value} {base : Heap} {z : Ad}
def sp_is_whole : Sp := fun vs H Q _ => ∃ v d, vs = [v] ∧ Dt H v d ∧ Q (.bl (dWhole d)) H
theorem ok_is_whole (T : Txt K mg z) : FnOk P w K mg base CX0 1 z.a_is_whole z.d_is_whole ["thing"] (sp_is_whole) := by
  refine T.F_is_whole.ok sc_is_whole (fun vs H Q E h => ?_) (fun cdv A outer s H vs Q E hr h => ?_)
  · obtain ⟨v, d, rfl, _⟩ := h
    rfl
  · obtain ⟨v, d, rfl, hd, q⟩ := h
    refine ⟨_, (PSs.nox (pss_one (ps_ret (pe_and (pe_callB (r := rIsi K) call_isi (by rfl) T.m_isinstance (by decide +kernel) (pa_cons (pv 0) (pa_cons (pe_bltn (v := .ty "int") (by rfl) T.m_int (by decide +kernel) rfl) pa_nil))) (pe_one (pe_not (pe_callB (r := rIsi K) call_isi (by rfl) T.m_isinstance (by decide +kernel) (pa_cons (pv 0) (pa_cons (pe_bltn (v := .ty "bool") (by rfl) T.m_bool (by decide +kernel) rfl) pa_nil))))))))), ?_⟩
    refine ⟨v, rfl, _, _, _, _, _, rfl, .ty _, (hd).ty, kit_ty ( kit_int d), dInt d, rfl, ?_⟩
    cases d with
    | int i => exact itT rfl ⟨v, rfl, _, _, _, _, _, rfl, .ty _, (hd).ty, kit_ty ( kit_bool _), _, rfl, q⟩
    | bool b => exact itT rfl ⟨v, rfl, _, _, _, _, _, rfl, .ty _, (hd).ty, kit_ty ( kit_bool _), _, rfl, q⟩
    | none => exact itF rfl q
    | str x => exact itF rfl q
    | list x => exact itF rfl q
    | tuple x => exact itF rfl q
    | dict x => exact itF rfl q
def sp_is_whole_below : Sp := fun vs H Q _ => ∃ v d m, vs = [v, .int m] ∧ Dt H v d ∧ Q (.bl (dBelow m d)) H
theorem ok_is_whole_below (T : Txt K mg z) : FnOk P w K mg base CX0 2 z.a_is_whole_below z.d_is_whole_below ["thing", "limit"] (sp_is_whole_below) := by
  refine T.F_is_whole_below.ok sc_is_whole_below (fun vs H Q E h => ?_) (fun cdv A outer s H vs Q E hr h => ?_)
  · obtain ⟨v, d, m, rfl, _⟩ := h
    rfl
  · obtain ⟨v, d, m, rfl, hd, q⟩ := h
    refine ⟨_, (PSs.nox (pss_one (ps_ret (pe_and (pe_call (ok_is_whole T) hr (by rfl) T.g_is_whole T.F_is_whole.kp T.b_is_whole .nil pass0 (pa_cons (pv 0) pa_nil)) (pe_one (pe_chain op_le op_lt pe_int (pv 0) (pv 1))))))), ?_⟩
    refine ⟨v, rfl, v, d, rfl, hd, _, rfl, ?_⟩
    cases d with
    | int r =>
      cases hd
      refine itT rfl ⟨.int r, rfl, 0, r, rfl, rfl, _, rfl, it2 (fun e => ?_) (fun e => ?_)⟩
      · refine ⟨.int m, rfl, r, m, rfl, rfl, ?_⟩
        have z : dBelow m (.int r) = decide (r < m) := by
          show (decide (0 ≤ r) && decide (r < m)) = _
          rw [e]
          rfl
        rw [z] at q
        exact q
      · have z : dBelow m (.int r) = false := by
          show (decide (0 ≤ r) && decide (r < m)) = _
          rw [e]
          rfl
        rw [z] at q
        exact q
    | none => exact itF rfl q
    | bool b => exact itF rfl q
    | str x => exact itF rfl q
    | list x => exact itF rfl q
    | tuple x => exact itF rfl q
    | dict x => exact itF rfl q
def sp_is_pair : Sp := fun vs H Q _ => ∃ v d, vs = [v] ∧ Dt H v d ∧ Q (.bl (dPair d)) H
theorem ok_is_pair (T : Txt K mg z) : FnOk P w K mg base CX0 1 z.a_is_pair z.d_is_pair ["thing"] (sp_is_pair) := by
  refine T.F_is_pair.ok sc_is_pair (fun vs H Q E h => ?_) (fun cdv A outer s H vs Q E hr h => ?_)
  · obtain ⟨v, d, rfl, _⟩ := h
    rfl
  · obtain ⟨v, d, rfl, hd, q⟩ := h
    refine ⟨_, (PSs.nox (pss_one (ps_ret (pe_and (pe_callB (r := rIsi K) call_isi (by rfl) T.m_isinstance (by decide +kernel) (pa_cons (pv 0) (pa_cons (pe_bltn (v := .ty "tuple") (by rfl) T.m_tuple (by decide +kernel) rfl) pa_nil))) (pe_one (pe_cmpR op_eq (pe_callB (r := rLenS K) call_len_seq (by rfl) T.m_len (by decide +kernel) (pa_cons (pv 0) pa_nil)) pe_int (nomark _))))))), ?_⟩
    refine ⟨v, rfl, _, _, _, _, _, rfl, .ty _, (hd).ty, kit_ty ( kit_tup d), dTup d, rfl, ?_⟩
    cases d with
    | tuple ds =>
      obtain ⟨a, xs, rfl, ha, hx⟩ := hd.tup_get
      refine itT rfl ⟨_, rfl, a, xs, rfl, .inr (.inl (.inl ha)), rfl, ?_⟩
      rw [dI, hx.len]
      have e : dPair (.tuple ds) = decide ((ds.length : Int) = 2) := by
        show decide (ds.length = 2) = _
        by_cases z : ds.length = 2
        · rw [decide_eq_true z, decide_eq_true (by omega)]
        · rw [decide_eq_false z, decide_eq_false (by omega)]
      rw [← e]
      exact q
    | int i => exact itF rfl q
    | bool b => exact itF rfl q
    | none => exact itF rfl q
    | str x => exact itF rfl q
    | list x => exact itF rfl q
    | dict x => exact itF rfl q
def sp_is_prime : Sp := fun vs H Q _ => ∃ v d, vs = [v] ∧ Dt H v d ∧ Q (.bl (dPrime d)) H
theorem primeB_out {n : Int} (h : n < 2 ∨ 1000 ≤ n) : primeB n = false := by
  cases e : primeB n with
  | false => rfl
  | true =>
    have := primeB_lo e
    omega
theorem ok_is_prime (T : Txt K mg z) : FnOk P w K mg base CX0 2 z.a_is_prime z.d_is_prime ["thing"] (sp_is_prime) := by
  refine T.F_is_prime.ok sc_is_prime (fun vs H Q E h => ?_) (fun cdv A outer s H vs Q E hr h => ?_)
  · obtain ⟨v, d, rfl, _⟩ := h
    rfl
  · obtain ⟨v, d, rfl, hd, q⟩ := h
    refine ⟨_, (PSs.nox (pss_cons (ps_if (PW.pt (pw_or (pt_not (pt_val (pe_call (ok_is_whole T) hr (by rfl) T.g_is_whole T.F_is_whole.kp T.b_is_whole .nil pass0 (pa_cons (pv 0) pa_nil)))) (pw_or (pt_cmpR op_lt (pv 0) pe_int (nomark _)) (pw_or1 (pt_cmpR op_ge (pv 0) (pe_glob (v := .int 1000) (by rfl) T.c_PRIME_LIMIT ⟨_, rfl⟩) (nomark _)))))) (pss_one (ps_ret pe_bl)) pss_nil)
      (pss_cons (ps_set (i := 1) sc_is_prime.nd rfl (.inl rfl) pe_int)
      (pss_cons (ps_while PassesOwn.never (pt_cmpR op_le (pe_op op_mulW (pv 1) (pv 1)) (pv 0) (nomark _)) (pss_cons (ps_if (pt_cmpR op_eq (pe_op op_mod (pv 0) (pv 1)) pe_int (nomark _)) (pss_one (ps_ret pe_bl)) pss_nil)
      (pss_one (ps_aug (i := 1) sc_is_prime.nd rfl (.inl rfl) pe_int ip_add))))
      (pss_one (ps_ret pe_bl)))))), ?_⟩
    refine ⟨v, rfl, v, d, rfl, hd, _, rfl, it2 (fun e => ?_) (fun e => ?_)⟩
    · have z : dPrime d = false := by
        cases d <;> first | rfl | exact nomatch e
      rw [z] at q
      exact itT rfl q
    · have e : dWhole d = true := by simpa using e
      obtain ⟨n, rfl⟩ := dWhole_get e
      cases hd
      refine ⟨.int n, rfl, n, 2, rfl, rfl, _, rfl, it2 (fun e1 => ?_) (fun e1 => ?_)⟩
      · rw [show dPrime (.int n) = false from primeB_out (.inl (of_decide_eq_true e1))] at q
        exact itT rfl q
      · have e1 : ¬ n < 2 := of_decide_eq_false e1
        refine ⟨.int n, rfl, n, 1000, rfl, rfl, _, rfl, it2 (fun e2 => ?_) (fun e2 => ?_)⟩
        · rw [show dPrime (.int n) = false from primeB_out (.inr (of_decide_eq_true e2))] at q
          exact q
        · have e2 : ¬ (1000 : Int) ≤ n := of_decide_eq_false e2
          refine ⟨fun c σ H' => ∃ k : Int, σ = [some (.int n), some (.int k)] ∧ H' = H ∧ 2 ≤ k ∧ k ≤ 1000 ∧ (∀ j : Int, 2 ≤ j → j < k → n % j ≠ 0) ∧ c = (1000 - k).toNat, ⟨998, 2, rfl, rfl, by decide, by decide, fun j h1 h2 => by omega, rfl⟩, fun c σ H' hW => ?_⟩
          obtain ⟨k, rfl, rfl, k0, k1, hk, rfl⟩ := hW
          refine ⟨.int k, rfl, .int k, rfl, k, k, rfl, rfl, wide_mul (a := 20) (b := 20) (by omega) (by omega) (by decide) (by decide) (by decide), .int n, rfl, k * k, n, rfl, rfl, _, rfl, it2 (fun e3 => ?_) (fun e3 => ?_)⟩
          · have e3 : k * k ≤ n := of_decide_eq_true e3
            have hk2 : k < 1000 := by
              have : k * 2 ≤ k * k := Int.mul_le_mul_of_nonneg_left k0 (by omega)
              omega
            refine ⟨fun σ2 H2 => σ2 = [some (.int n), some (.int (k + 1))] ∧ H2 = H' ∧ n % k ≠ 0, fun σ2 H2 hn => ?_, ?_⟩
            · obtain ⟨rfl, rfl, hnk⟩ := hn
              refine ⟨(1000 - (k + 1)).toNat, by omega, k + 1, rfl, rfl, by omega, by omega, fun j h1 h2 => ?_, rfl⟩
              by_cases z : j = k
              · rw [z]
                exact hnk
              · exact hk j h1 (by omega)
            · refine ⟨.int n, rfl, .int k, rfl, n, k, rfl, rfl, (show 0 < k by omega), rfl, _, rfl, it2 (fun e4 => ?_) (fun e4 => ?_)⟩
              · rw [dI] at e4
                rw [show dPrime (.int n) = false from primeB_no k0 e3 (of_decide_eq_true e4)] at q
                exact q
              · rw [dI] at e4
                exact ⟨.int k, rfl, k, 1, rfl, rfl, rfl, rfl, of_decide_eq_false e4⟩
          · have e3 : ¬ k * k ≤ n := of_decide_eq_false e3
            rw [show dPrime (.int n) = true from primeB_yes (by omega) (by omega) k0 (by omega) hk] at q
            exact q
def sp_need_field : Sp := fun vs H Q _ => ∃ v d, vs = [v] ∧ Dt H v d ∧ dField d = true ∧ Q .non H
theorem ok_need_field (T : Txt K mg z) : FnOk P w K mg base CX0 3 z.a_need_field z.d_need_field ["p"] (sp_need_field) := by
  refine T.F_need_field.ok sc_need_field (fun vs H Q E h => ?_) (fun cdv A outer s H vs Q E hr h => ?_)
  · obtain ⟨v, d, rfl, _⟩ := h
    rfl
  · obtain ⟨v, d, rfl, hd, e, q⟩ := h
    refine ⟨_, (PSs.nox (pss_one (ps_if (PW.pt (pw_or (pt_not (pt_val (pe_call (ok_is_prime T) hr (by rfl) T.g_is_prime T.F_is_prime.kp T.b_is_prime .nil pass0 (pa_cons (pv 0) pa_nil)))) (pw_or (pt_cmpR op_lt (pv 0) (pe_glob (v := .int 3) (by rfl) T.c_LEAST_PRIME ⟨_, rfl⟩) (nomark _)) (pw_or1 (pt_cmpR op_gt (pv 0) (pe_glob (v := .int 97) (by rfl) T.c_GREATEST_PRIME ⟨_, rfl⟩) (nomark _)))))) (pss_one (ps_never)) pss_nil))), ?_⟩
    obtain ⟨n, rfl, e1, e2, e3⟩ := dField_get e
    cases hd
    refine ⟨.int n, rfl, .int n, .int n, rfl, .int n, _, rfl, itF (by show (!primeB n) = false; rw [e1]; rfl) ?_⟩
    refine ⟨.int n, rfl, n, 3, rfl, rfl, _, rfl, itF (decide_eq_false (by omega)) ?_⟩
    exact ⟨.int n, rfl, n, 97, rfl, rfl, _, rfl, itF (decide_eq_false (by omega)) q⟩
def sp_is_degrees : Sp := fun vs H Q _ => ∃ v d, vs = [v] ∧ Dt H v d ∧ Q (.bl (dDegs d)) H
theorem ok_is_degrees (T : Txt K mg z) : FnOk P w K mg base CX0 3 z.a_is_degrees z.d_is_degrees ["thing"] (sp_is_degrees) := by
  refine T.F_is_degrees.ok sc_is_degrees (fun vs H Q E h => ?_) (fun cdv A outer s H vs Q E hr h => ?_)
  · obtain ⟨v, d, rfl, _⟩ := h
    rfl
  · obtain ⟨v, d, rfl, hd, q⟩ := h
    refine ⟨_, (PSs.nox (pss_cons (ps_if (pt_not (pt_val (pe_call (ok_is_pair T) (hr.mono (by decide)) (by rfl) T.g_is_pair T.F_is_pair.kp T.b_is_pair .nil pass0 (pa_cons (pv 0) pa_nil)))) (pss_one (ps_ret pe_bl)) pss_nil)
      (pss_one (ps_ret (pe_and (pe_call (ok_is_whole_below T) hr (by rfl) T.g_is_whole_below T.F_is_whole_below.kp T.b_is_whole_below .nil pass0 (pa_cons (pe_ix (r := rIxT K) ix_tup (pv 0) pe_int (fun _ _ => rfl)) (pa_cons (pe_op op_add (pe_glob (v := .int 4) (by rfl) T.c_MOST_DEGREE ⟨_, rfl⟩) pe_int) pa_nil))) (pe_one (pe_call (ok_is_whole_below T) hr (by rfl) T.g_is_whole_below T.F_is_whole_below.kp T.b_is_whole_below .nil pass0 (pa_cons (pe_ix (r := rIxT K) ix_tup (pv 0) pe_int (fun _ _ => rfl)) (pa_cons (pe_op op_add (pe_glob (v := .int 4) (by rfl) T.c_MOST_DEGREE ⟨_, rfl⟩) pe_int) pa_nil))))))))), ?_⟩
    refine ⟨v, rfl, v, d, rfl, hd, _, rfl, it2 (fun e => ?_) (fun e => ?_)⟩
    · have e : dPair d = false := by simpa using e
      rw [dDegs_pair e] at q
      exact q
    · have e : dPair d = true := by simpa using e
      obtain ⟨d1, d2, rfl⟩ := dPair_get e
      obtain ⟨a, xs, rfl, ha, hx⟩ := hd.tup_get
      cases hx with
      | @cons x1 _ _ _ h1 hx => cases hx with
        | @cons x2 _ _ _ h2 hx =>
          cases hx
          refine ⟨.ref a, rfl, a, _, 0, x1, rfl, rfl, st_of ha, rfl, _, _, rfl, rfl, x1, d1, _, rfl, h1, _, rfl, it2 (fun e1 => ?_) (fun e1 => ?_)⟩
          · refine ⟨.ref a, rfl, a, _, 1, x2, rfl, rfl, st_of ha, rfl, _, _, rfl, rfl, x2, d2, _, rfl, h2, ?_⟩
            have e1 : dBelow 5 d1 = true := e1
            have z : dDegs (.tuple [d1, d2]) = dBelow 5 d2 := by
              show (dBelow 5 d1 && dBelow 5 d2) = _
              rw [e1]
              rfl
            rw [z] at q
            exact q
          · have e1 : dBelow 5 d1 = false := e1
            have z : dDegs (.tuple [d1, d2]) = false := by
              show (dBelow 5 d1 && dBelow 5 d2) = _
              rw [e1]
              rfl
            rw [z] at q
            exact q
def sp_need_degrees : Sp := fun vs H Q _ => ∃ v d, vs = [v] ∧ Dt H v d ∧ dDegs d = true ∧ Q .non H
theorem ok_need_degrees (T : Txt K mg z) : FnOk P w K mg base CX0 4 z.a_need_degrees z.d_need_degrees ["thing"] (sp_need_degrees) := by
  refine T.F_need_degrees.ok sc_need_degrees (fun vs H Q E h => ?_) (fun cdv A outer s H vs Q E hr h => ?_)
  · obtain ⟨v, d, rfl, _⟩ := h
    rfl
  · obtain ⟨v, d, rfl, hd, e, q⟩ := h
    refine ⟨_, (PSs.nox (pss_one (ps_if (pt_not (pt_val (pe_call (ok_is_degrees T) hr (by rfl) T.g_is_degrees T.F_is_degrees.kp T.b_is_degrees .nil pass0 (pa_cons (pv 0) pa_nil)))) (pss_one (ps_never)) pss_nil))), ?_⟩
    refine ⟨v, rfl, v, d, rfl, hd, _, rfl, ?_⟩
    rw [e]
    exact itF rfl q
def sp_places_wanted : Sp := fun vs H Q _ => ∃ (v : V) (a b e : Int), vs = [v, .int e] ∧ Dt H v (.tuple [.int a, .int b]) ∧ Q (.int (a + b + 1 + 2 * e)) H
theorem ok_places_wanted (T : Txt K mg z) : FnOk P w K mg base CX0 1 z.a_places_wanted z.d_places_wanted ["degrees", "e"] (sp_places_wanted) := by
  refine T.F_places_wanted.ok sc_places_wanted (fun vs H Q E h => ?_) (fun cdv A outer s H vs Q E hr h => ?_)
  · obtain ⟨v, a, b, e, rfl, _⟩ := h
    rfl
  · obtain ⟨v, a, b, e, rfl, hd, q⟩ := h
    refine ⟨_, (PSs.nox (pss_cons (ps_asg (pv 0) (pg_tup (by rfl) (pgs_cons (pg_name (i := 2) sc_places_wanted.nd rfl (.inl rfl)) (pgs_cons (pg_name (i := 3) sc_places_wanted.nd rfl (.inl rfl)) pgs_nil))))
      (pss_one (ps_ret (pe_op op_add (pe_op op_add (pe_op op_add (pv 2) (pv 3)) pe_int) (pe_op op_mul pe_int (pv 1))))))), ?_⟩
    obtain ⟨t, xs, rfl, ht, hx⟩ := hd.tup_get
    have ex := DtAll.ints_eq [a, b] hx
    subst ex
    refine ⟨.ref t, rfl, t, _, rfl, .inl (.inl ht), rfl, .int a, [.int b], rfl, .int b, [], rfl, rfl, ?_⟩
    exact ⟨.int a, rfl, .int b, rfl, _, _, rfl, rfl, _, _, rfl, rfl, .int e, rfl, 2, e, rfl, rfl, .inl ⟨by decide, by decide⟩, _, _, rfl, rfl, q⟩
def sp_need_few_wrong : Sp := fun vs H Q _ => ∃ v d, vs = [v] ∧ Dt H v d ∧ dBelow 3 d = true ∧ Q .non H
theorem ok_need_few_wrong (T : Txt K mg z) : FnOk P w K mg base CX0 3 z.a_need_few_wrong z.d_need_few_wrong ["thing"] (sp_need_few_wrong) := by
  refine T.F_need_few_wrong.ok sc_need_few_wrong (fun vs H Q E h => ?_) (fun cdv A outer s H vs Q E hr h => ?_)
  · obtain ⟨v, d, rfl, _⟩ := h
    rfl
  · obtain ⟨v, d, rfl, hd, e, q⟩ := h
    refine ⟨_, (PSs.nox (pss_one (ps_if (pt_not (pt_val (pe_call (ok_is_whole_below T) hr (by rfl) T.g_is_whole_below T.F_is_whole_below.kp T.b_is_whole_below .nil pass0 (pa_cons (pv 0) (pa_cons (pe_op op_add (pe_glob (v := .int 2) (by rfl) T.c_MOST_WRONG ⟨_, rfl⟩) pe_int) pa_nil))))) (pss_one (ps_never)) pss_nil))), ?_⟩
    refine ⟨v, rfl, _, _, rfl, rfl, v, d, 3, rfl, hd, _, rfl, ?_⟩
    rw [e]
    exact itF rfl q
def wantV (p n : Int) : V := if 12 < n ∨ p < n then .non else .int n
def sp_fewest_places : Sp := fun vs H Q _ => ∃ (v : V) (p a b e : Int), vs = [.int p, v, .int e] ∧ Dt H v (.tuple [.int a, .int b]) ∧ dField (.int p) = true ∧ dDegs (.tuple [.int a, .int b]) = true ∧ dBelow 3 (.int e) = true ∧ Q (wantV p (a + b + 1 + 2 * e)) H
theorem ok_fewest_places (T : Txt K mg z) : FnOk P w K mg base CX0 5 z.a_fewest_places z.d_fewest_places ["p", "degrees", "e"] (sp_fewest_places) := by
  refine T.F_fewest_places.ok sc_fewest_places (fun vs H Q E h => ?_) (fun cdv A outer s H vs Q E hr h => ?_)
  · obtain ⟨v, p, a, b, e, rfl, _⟩ := h
    rfl
  · obtain ⟨v, p, a, b, e, rfl, hd, h1, h2, h3, q⟩ := h
    refine ⟨_, (PSs.nox (pss_cons (ps_expr (pe_call (ok_need_field T) (hr.mono (by decide)) (by rfl) T.g_need_field T.F_need_field.kp T.b_need_field .nil pass0 (pa_cons (pv 0) pa_nil)))
      (pss_cons (ps_expr (pe_call (ok_need_degrees T) hr (by rfl) T.g_need_degrees T.F_need_degrees.kp T.b_need_degrees .nil pass0 (pa_cons (pv 1) pa_nil)))
      (pss_cons (ps_expr (pe_call (ok_need_few_wrong T) (hr.mono (by decide)) (by rfl) T.g_need_few_wrong T.F_need_few_wrong.kp T.b_need_few_wrong .nil pass0 (pa_cons (pv 2) pa_nil)))
      (pss_cons (ps_set (i := 3) sc_fewest_places.nd rfl (.inl rfl) (pe_call (ok_places_wanted T) (hr.mono (by decide)) (by rfl) T.g_places_wanted T.F_places_wanted.kp T.b_places_wanted .nil pass0 (pa_cons (pv 1) (pa_cons (pv 2) pa_nil))))
      (pss_cons (ps_if (PW.pt (pw_or (pt_cmpR op_gt (pv 3) (pe_glob (v := .int 12) (by rfl) T.c_MOST_WORTHS ⟨_, rfl⟩) (nomark _)) (pw_or1 (pt_cmpR op_gt (pv 3) (pv 0) (nomark _))))) (pss_one (ps_ret pe_non)) pss_nil)
      (pss_one (ps_ret (pv 3))))))))), ?_⟩
    refine ⟨.int p, rfl, .int p, .int p, rfl, .int p, h1, v, rfl, v, _, rfl, hd, h2, .int e, rfl, .int e, .int e, rfl, .int e, h3, ?_⟩
    refine ⟨v, rfl, .int e, rfl, v, a, b, e, rfl, hd, ?_⟩
    dsimp only [gName_app]
    generalize a + b + 1 + 2 * e = n at q ⊢
    unfold wantV at q
    refine ⟨.int n, rfl, n, 12, rfl, rfl, _, rfl, it2 (fun z => ?_) (fun z => ?_)⟩
    · rw [if_pos (.inl (of_decide_eq_true z))] at q
      exact itT rfl q
    · have z : ¬ 12 < n := of_decide_eq_false z
      refine ⟨.int n, rfl, .int p, rfl, n, p, rfl, rfl, _, rfl, it2 (fun y => ?_) (fun y => ?_)⟩
      · rw [if_pos (.inr (of_decide_eq_true y))] at q
        exact q
      · have y : ¬ p < n := of_decide_eq_false y
        rw [if_neg (by omega)] at q
        exact ⟨.int n, rfl, q⟩
def sp__law_cell (K : PySem.W.Frag) : Sp := fun vs H Q _ => ∃ (a : Addr) (ns : List Int) (k : Int), vs = [.ref a, .int k] ∧ SqL K H a (ns.map V.int) ∧ 0 ≤ k ∧ k < 1000 ∧ ∀ c, Q (.int c) H
theorem ok__law_cell (T : Txt K mg z) : FnOk P w K mg base CX0 1 z.a__law_cell z.d__law_cell ["script", "k"] (sp__law_cell K) := by
  refine T.F__law_cell.ok sc__law_cell (fun vs H Q E h => ?_) (fun cdv A outer s H vs Q E hr h => ?_)
  · obtain ⟨a, ns, k, rfl, _⟩ := h
    rfl
  · obtain ⟨a, ns, k, rfl, hS, k0, k1, q⟩ := h
    refine ⟨_, (PSs.nox (pss_cons (ps_if (pt_cmpR op_lt (pv 1) (pe_callB (r := rLenS K) call_len_seq (by rfl) T.m_len (by decide +kernel) (pa_cons (pv 0) pa_nil)) (nomark _)) (pss_one (ps_ret (pe_ix (r := rIxL K) ix_list (pv 0) (pv 1) (fun _ _ => rfl)))) pss_nil)
      (pss_one (ps_ret (pe_op op_add (pe_op op_add (pe_op op_mulW (pe_op op_mul pe_int (pv 1)) (pv 1)) (pe_op op_mul pe_int (pv 1))) pe_int))))), ?_⟩
    refine ⟨.int k, rfl, .ref a, rfl, a, _, rfl, .inl hS, k, _, rfl, rfl, _, rfl, it2 (fun e => ?_) (fun e => ?_)⟩
    · have e : k < ((ns.map V.int).length : Int) := of_decide_eq_true e
      rw [List.length_map] at e
      obtain ⟨c, hc⟩ : ∃ c, (ns.map V.int)[k.toNat]? = some (.int c) := ⟨ns[k.toNat]'(by omega), by rw [List.getElem?_map, List.getElem?_eq_getElem (by omega)]; rfl⟩
      exact ⟨.ref a, rfl, .int k, rfl, a, _, k, .int c, rfl, rfl, hS, atI_of k0 hc, q _⟩
    · exact ⟨.int k, rfl, 7, k, rfl, rfl, .inl ⟨by decide, by decide⟩, .int k, rfl, _, _, rfl, rfl, wide_mul (a := 20) (b := 20) (by omega) (by omega) (by decide) (by decide) (by decide), .int k, rfl, 3, k, rfl, rfl, .inl ⟨by decide, by decide⟩, _, _, rfl, rfl, _, _, rfl, rfl, q _⟩
def sp__law_store : Sp := fun vs H Q _ => ∃ c : Int, vs = [.int c] ∧ ∀ p H', H p = none → Ex H H' → PoolB H' p 1000000000 → Q (.ref p) H'
theorem ok__law_store (T : Txt K mg z) : FnOk P w K mg base CX0 1 z.a__law_store z.d__law_store ["cell"] (sp__law_store) := by
  refine T.F__law_store.ok sc__law_store (fun vs H Q E h => ?_) (fun cdv A outer s H vs Q E hr h => ?_)
  · obtain ⟨c, rfl, _⟩ := h
    rfl
  · obtain ⟨c, rfl, q⟩ := h
    refine ⟨_, (PSs.nox (pss_cons (ps_set (i := 1) sc__law_store.nd rfl (.inl rfl) pe_int)
      (pss_cut (ps_if (pt_cmpR op_ge (pv 0) (pe_op op_pow pe_int pe_int) (nomark _)) (pss_one (ps_set (i := 1) sc__law_store.nd rfl (.inl rfl) (pv 0))) pss_nil)
      (pss_one (ps_ret (pe_lst (pa_cons (pv 1) (pa_cons (pe_op op_mod (pv 0) pe_int) (pa_cons pe_int pa_nil))))))))), ?_⟩
    refine ⟨fun σ H' => ∃ g : Int, σ = [some (.int c), some (.int g)] ∧ H' = H, ?_, fun σ H1 hM => ?_⟩
    · refine ⟨.int c, rfl, 10, 18, rfl, rfl, ⟨by decide, by decide, by decide⟩, _, _, rfl, rfl, _, rfl, it2 (fun _ => ⟨.int c, rfl, c, rfl, rfl⟩) (fun _ => ⟨0, rfl, rfl⟩)⟩
    obtain ⟨g, rfl, rfl⟩ := hM
    refine ⟨.int g, rfl, .int c, rfl, c, _, rfl, rfl, (show (0 : Int) < 2147483629 by decide), sz_of (Nat.le_of_ble_eq_true rfl), fun p hp => ?_⟩
    exact q p _ hp (Ex.new hp) ⟨_, _, _, upd_same, by decide, by decide⟩
def sp__law_take : Sp := fun vs H Q _ => ∃ (pa : Addr) (m : Int) (n : Nat), vs = [.ref pa, .int m] ∧ 0 < m ∧ m < 1099511627776 ∧ PoolB H pa (n + 1) ∧
  ∀ v H', 0 ≤ v → v < m → PoolB H' pa n → ExB pa H H' → Q (.int v) H'
theorem ok__law_take (T : Txt K mg z) : FnOk P w K mg base CX0 1 z.a__law_take z.d__law_take ["store", "many"] (sp__law_take) := by
  refine T.F__law_take.ok sc__law_take (fun vs H Q E h => ?_) (fun cdv A outer s H vs Q E hr h => ?_)
  · obtain ⟨pa, m, n, rfl, _⟩ := h
    rfl
  · obtain ⟨pa, m, n, rfl, hm, hm2, ⟨a, b, c, hp, hc, hn⟩, q⟩ := h
    have hS : SqL K H pa [.int a, .int b, .int c] := .inl (.inl hp)
    refine ⟨_, (PSs.nox (pss_cons (ps_if (pt_cmpR op_gt (pe_ix (r := rIxL K) ix_list (pv 0) pe_int (fun _ _ => rfl)) pe_int (nomark _)) (pss_cons (ps_set (i := 2) sc__law_take.nd rfl (.inl rfl) (pe_op op_mod (pe_ix (r := rIxL K) ix_list (pv 0) pe_int (fun _ _ => rfl)) (pv 1)))
      (pss_cons (ps_asg (pe_op op_fdivW (pe_ix (r := rIxL K) ix_list (pv 0) pe_int (fun _ _ => rfl)) (pv 1)) (pg_sub (pv 0) pe_int set_list))
      (pss_one (ps_ret (pv 2))))) pss_nil)
      (pss_cons (ps_asg (pe_op op_add (pe_ix (r := rIxL K) ix_list (pv 0) pe_int (fun _ _ => rfl)) pe_int) (pg_sub (pv 0) pe_int set_list))
      (pss_cons (ps_set (i := 3) sc__law_take.nd rfl (.inl rfl) (pe_op op_mod (pe_op op_mul (pe_op op_add (pe_ix (r := rIxL K) ix_list (pv 0) pe_int (fun _ _ => rfl)) (pe_op op_mul pe_int (pe_ix (r := rIxL K) ix_list (pv 0) pe_int (fun _ _ => rfl)))) pe_int) pe_int))
      (pss_cons (ps_set (i := 3) sc__law_take.nd rfl (.inl rfl) (pe_op op_mod (pe_op op_mulW (pv 3) (pv 3)) pe_int))
      (pss_cons (ps_set (i := 3) sc__law_take.nd rfl (.inl rfl) (pe_op op_mod (pe_op op_mul (pe_op op_add (pv 3) (pe_op op_mul pe_int (pe_ix (r := rIxL K) ix_list (pv 0) pe_int (fun _ _ => rfl)))) pe_int) pe_int))
      (pss_one (ps_ret (pe_op op_mod (pe_op op_fdivW (pv 3) pe_int) (pv 1)))))))))), ?_⟩
    refine ⟨.ref pa, rfl, pa, _, 0, .int a, rfl, rfl, hS, rfl, a, 0, rfl, rfl, _, rfl, it2 (fun e => ?_) (fun e => ?_)⟩
    · refine ⟨.ref pa, rfl, pa, _, 0, .int a, rfl, rfl, hS, rfl, .int m, rfl, a, m, rfl, rfl, hm, ?_⟩
      refine ⟨.ref pa, rfl, pa, _, 0, .int a, rfl, rfl, hS, rfl, .int m, rfl, a, m, rfl, rfl, wide_div (b := 40) hm (by omega) (by decide) (by decide), ?_⟩
      refine ⟨.ref pa, rfl, pa, _, 0, 0, rfl, rfl, hp, rfl, ?_⟩
      exact ⟨_, rfl, q _ _ (Int.emod_nonneg a (by omega)) (Int.emod_lt_of_pos a hm) ⟨a / m, b, c, upd_same, hc, by omega⟩ ExB.upd⟩
    · refine ⟨.ref pa, rfl, pa, _, 2, .int c, rfl, rfl, hS, rfl, c, 1, rfl, rfl, ?_⟩
      refine ⟨.ref pa, rfl, pa, _, 2, 2, rfl, rfl, hp, rfl, ?_⟩
      generalize hH2 : upd H pa _ = H2
      have hp2 : H2 pa = some (.lst [.int a, .int b, .int (c + 1)]) := by
        rw [← hH2]
        exact upd_same
      have e2 : ExB pa H H2 := by
        rw [← hH2]
        exact ExB.upd
      have hS2 : SqL K H2 pa [.int a, .int b, .int (c + 1)] := .inl (.inl hp2)
      refine ⟨.ref pa, rfl, pa, _, 1, .int b, rfl, rfl, hS2, rfl, .ref pa, rfl, pa, _, 2, .int (c + 1), rfl, rfl, hS2, rfl, _, _, rfl, rfl, .inl ⟨by decide, by decide⟩, _, _, rfl, rfl, _, _, rfl, rfl, .inr ⟨by decide, by decide⟩, _, _, rfl, rfl, (show (0 : Int) < 2147483647 by decide), ?_⟩
      have m1 := Int.emod_nonneg ((b + 7919 * (c + 1)) * 48271) (show (2147483647 : Int) ≠ 0 by decide)
      have m2 := Int.emod_lt_of_pos ((b + 7919 * (c + 1)) * 48271) (show (0 : Int) < 2147483647 by decide)
      try dsimp only
      generalize (b + 7919 * (c + 1)) * 48271 % 2147483647 = k1 at m1 m2 ⊢
      have w1 : k1.natAbs < 2 ^ 40 := by omega
      refine ⟨.int k1, rfl, .int k1, rfl, _, _, rfl, rfl, wide_mul w1 w1 (by decide) (by decide) (by decide), _, _, rfl, rfl, (show (0 : Int) < 2147483629 by decide), ?_⟩
      try dsimp only
      generalize k1 * k1 % 2147483629 = k2
      refine ⟨.int k2, rfl, .ref pa, rfl, pa, _, 2, .int (c + 1), rfl, rfl, hS2, rfl, _, _, rfl, rfl, .inl ⟨by decide, by decide⟩, _, _, rfl, rfl, _, _, rfl, rfl, .inr ⟨by decide, by decide⟩, _, _, rfl, rfl, (show (0 : Int) < 2147483587 by decide), ?_⟩
      try dsimp only
      generalize (k2 + 40692 * (c + 1)) * 69621 % 2147483587 = k3
      refine ⟨.int k3, rfl, _, _, rfl, rfl, wide_div (b := 40) (by decide) (by decide) (by decide) (by decide), .int m, rfl, _, _, rfl, rfl, hm, ?_⟩
      exact q _ _ (Int.emod_nonneg _ (by omega)) (Int.emod_lt_of_pos _ hm) ⟨a, b, c + 1, hp2, by omega, by omega⟩ e2
def sp__law_prime : Sp := fun vs H Q _ => ∃ (pa : Addr) (n : Nat), vs = [.ref pa] ∧ PoolB H pa (n + 3) ∧ ∀ p H', p ∈ fieldL → PoolB H' pa n → ExB pa H H' → Q (.int p) H'
theorem ok__law_prime (T : Txt K mg z) : FnOk P w K mg base CX0 2 z.a__law_prime z.d__law_prime ["store"] (sp__law_prime) := by
  refine T.F__law_prime.ok sc__law_prime (fun vs H Q E h => ?_) (fun cdv A outer s H vs Q E hr h => ?_)
  · obtain ⟨pa, n, rfl, _⟩ := h
    rfl
  · obtain ⟨pa, n, rfl, pb, q⟩ := h
    refine ⟨_, (PSs.nox (pss_cons (ps_set (i := 1) sc__law_prime.nd rfl (.inl rfl) (pe_lst (pa_cons pe_int (pa_cons pe_int (pa_cons pe_int (pa_cons pe_int (pa_cons pe_int (pa_cons pe_int (pa_cons pe_int (pa_cons pe_int (pa_cons pe_int (pa_cons pe_int (pa_cons pe_int (pa_cons pe_int (pa_cons pe_int (pa_cons pe_int (pa_cons pe_int (pa_cons pe_int (pa_cons pe_int (pa_cons pe_int (pa_cons pe_int (pa_cons pe_int (pa_cons pe_int (pa_cons pe_int (pa_cons pe_int (pa_cons pe_int pa_nil))))))))))))))))))))))))))
      (pss_one (ps_ret (pe_ix (r := rIxL K) ix_list (pe_lst (pa_cons pe_int (pa_cons pe_int (pa_cons pe_int (pa_cons (pe_ix (r := rIxL K) ix_list (pv 1) (pe_call (ok__law_take T) hr (by rfl) T.g__law_take T.F__law_take.kp T.b__law_take .nil pass0 (pa_cons (pv 0) (pa_cons pe_int pa_nil))) (fun _ _ => rfl)) (pa_cons (pe_ix (r := rIxL K) ix_list (pv 1) (pe_call (ok__law_take T) hr (by rfl) T.g__law_take T.F__law_take.kp T.b__law_take .nil pass0 (pa_cons (pv 0) (pa_cons pe_int pa_nil))) (fun _ _ => rfl)) pa_nil)))))) (pe_call (ok__law_take T) hr (by rfl) T.g__law_take T.F__law_take.kp T.b__law_take .nil pass0 (pa_cons (pv 0) (pa_cons pe_int pa_nil))) (fun _ _ => rfl)))))), ?_⟩
    refine ⟨sz_of (Nat.le_of_ble_eq_true rfl), fun l hl => ?_⟩
    generalize hH0 : upd H l _ = H0
    have e0 : Ex H H0 := by
      rw [← hH0]
      exact Ex.new hl
    have h0 : H0 l = some (.lst (fieldL.map V.int)) := by
      rw [← hH0]
      exact upd_same
    have pb0 := pb.up e0
    have hne : l ≠ pa := pb.ne hl
    refine ⟨.ref l, rfl, .ref pa, rfl, pa, 24, n + 2, rfl, by decide, by decide, pb0, fun x1 H1 a1 b1 pb1 e1 => ?_⟩
    obtain ⟨p1, g1, m1⟩ := fieldL_get a1 b1
    have h1 := e1 _ _ hne h0
    refine ⟨l, _, x1, .int p1, rfl, rfl, sq_of h1, g1, .ref l, rfl, .ref pa, rfl, pa, 24, n + 1, rfl, by decide, by decide, pb1, fun x2 H2 a2 b2 pb2 e2 => ?_⟩
    obtain ⟨p2, g2, m2⟩ := fieldL_get a2 b2
    have h2 := e2 _ _ hne h1
    refine ⟨l, _, x2, .int p2, rfl, rfl, sq_of h2, g2, sz_of (Nat.le_of_ble_eq_true rfl), fun r hr2 => ?_⟩
    refine ⟨.ref pa, rfl, pa, 5, n, rfl, by decide, by decide, pb2.dr hr2, fun x3 H3 a3 b3 pb3 e3 => ?_⟩
    obtain ⟨p, hat, hm⟩ : ∃ p, atI [V.int 3, V.int 5, V.int 7, V.int p1, V.int p2] x3 = some (.int p) ∧ p ∈ fieldL := by
      rcases (show x3 = 0 ∨ x3 = 1 ∨ x3 = 2 ∨ x3 = 3 ∨ x3 = 4 by omega) with rfl | rfl | rfl | rfl | rfl
      · exact ⟨3, rfl, by decide⟩
      · exact ⟨5, rfl, by decide⟩
      · exact ⟨7, rfl, by decide⟩
      · exact ⟨p1, rfl, m1⟩
      · exact ⟨p2, rfl, m2⟩
    exact ⟨r, _, x3, .int p, rfl, rfl, sq_of (e3 _ _ (pb2.ne hr2) upd_same), hat, q p H3 hm pb3 ((((ExB.of e0).trans e1).trans e2).trans ((ExB.of (Ex.new hr2)).trans e3))⟩
def sp__law_right : Sp := fun vs H Q _ => ∃ (v : V) (p a b e : Int), vs = [.int p, v, .int e] ∧ Dt H v (.tuple [.int a, .int b]) ∧ dField (.int p) = true ∧ dDegs (.tuple [.int a, .int b]) = true ∧ dBelow 3 (.int e) = true ∧ Q (.bl true) H
theorem ok__law_right (T : Txt K mg z) : FnOk P w K mg base CX0 6 z.a__law_right z.d__law_right ["p", "degrees", "e"] (sp__law_right) := by
  refine T.F__law_right.ok sc__law_right (fun vs H Q E h => ?_) (fun cdv A outer s H vs Q E hr h => ?_)
  · obtain ⟨v, p, a, b, e, rfl, _⟩ := h
    rfl
  · obtain ⟨v, p, a, b, e, rfl, hd, h1, h2, h3, q⟩ := h
    refine ⟨_, (PSs.nox (pss_cons (ps_set (i := 3) sc__law_right.nd rfl (.inl rfl) (pe_op op_add (pe_op op_add (pe_op op_add (pe_ix (r := rIxT K) ix_tup (pv 1) pe_int (fun _ _ => rfl)) (pe_ix (r := rIxT K) ix_tup (pv 1) pe_int (fun _ _ => rfl))) pe_int) (pe_op op_mul pe_int (pv 2))))
      (pss_cons (ps_set (i := 4) sc__law_right.nd rfl (.inl rfl) (pe_call (ok_fewest_places T) hr (by rfl) T.g_fewest_places T.F_fewest_places.kp T.b_fewest_places .nil pass0 (pa_cons (pv 0) (pa_cons (pv 1) (pa_cons (pv 2) pa_nil)))))
      (pss_cons (ps_if (PW.pt (pw_or (pt_cmpR op_gt (pv 3) pe_int (nomark _)) (pw_or1 (pt_cmpR op_gt (pv 3) (pv 0) (nomark _))))) (pss_one (ps_ret (pe_cmpR op_isN (pv 4) pe_non (nomark _)))) pss_nil)
      (pss_cons (ps_if (PW.pt (pw_or (pt_not (pt_val (pe_callB (r := rIsi K) call_isi (by rfl) T.m_isinstance (by decide +kernel) (pa_cons (pv 4) (pa_cons (pe_bltn (v := .ty "int") (by rfl) T.m_int (by decide +kernel) rfl) pa_nil))))) (pw_or (pt_val (pe_callB (r := rIsi K) call_isi (by rfl) T.m_isinstance (by decide +kernel) (pa_cons (pv 4) (pa_cons (pe_bltn (v := .ty "bool") (by rfl) T.m_bool (by decide +kernel) rfl) pa_nil)))) (pw_or1 (pt_cmpR op_ne (pv 4) (pv 3) (nomark _)))))) (pss_one (ps_ret pe_bl)) pss_nil)
      (pss_one (ps_ret (pe_cmpR op_eq (pe_call (ok_fewest_places T) hr (by rfl) T.g_fewest_places T.F_fewest_places.kp T.b_fewest_places .nil pass0 (pa_cons (pv 0) (pa_cons (pv 1) (pa_cons (pv 2) pa_nil)))) (pv 3) (nomark _))))))))), ?_⟩
    obtain ⟨t, xs, rfl, ht, hx⟩ := id hd.tup_get
    have ex := DtAll.ints_eq [a, b] hx
    subst ex
    refine ⟨.ref t, rfl, t, _, 0, .int a, rfl, rfl, st_of ht, rfl, .ref t, rfl, t, _, 1, .int b, rfl, rfl, st_of ht, rfl, _, _, rfl, rfl, _, _, rfl, rfl, .int e, rfl, 2, e, rfl, rfl, .inl ⟨by decide, by decide⟩, _, _, rfl, rfl, ?_⟩
    have call : ∀ Q : VK, Q (wantV p (a + b + 1 + 2 * e)) H → sp_fewest_places [.int p, .ref t, .int e] H Q (fun _ _ _ => False) := fun Q k => ⟨.ref t, p, a, b, e, rfl, hd, h1, h2, h3, k⟩
    refine ⟨.int p, rfl, .ref t, rfl, .int e, rfl, .ref t, p, a, b, e, rfl, hd, h1, h2, h3, ?_⟩
    dsimp only [gName_app]
    by_cases z : 12 < a + b + 1 + 2 * e ∨ p < a + b + 1 + 2 * e
    · have w : wantV p (a + b + 1 + 2 * e) = .non := if_pos z
      rw [w]
      generalize a + b + 1 + 2 * e = n at z ⊢
      refine ⟨.int n, rfl, n, 12, rfl, rfl, _, rfl, it2 (fun y => itT rfl ⟨.non, rfl, rfl, q⟩) (fun y => ?_)⟩
      have y : ¬ 12 < n := of_decide_eq_false y
      exact ⟨.int n, rfl, .int p, rfl, n, p, rfl, rfl, _, rfl, itT (decide_eq_true (by omega)) ⟨.non, rfl, rfl, q⟩⟩
    · have w : wantV p (a + b + 1 + 2 * e) = .int (a + b + 1 + 2 * e) := if_neg z
      rw [w]
      refine ⟨.int (a + b + 1 + 2 * e), rfl, _, 12, rfl, rfl, _, rfl, itF (decide_eq_false (by omega)) ?_⟩
      refine ⟨.int (a + b + 1 + 2 * e), rfl, .int p, rfl, _, p, rfl, rfl, _, rfl, itF (decide_eq_false (by omega)) ?_⟩
      have hi : Dt H (.int (a + b + 1 + 2 * e)) (.int (a + b + 1 + 2 * e)) := .int _
      refine ⟨.int (a + b + 1 + 2 * e), rfl, _, _, _, _, _, rfl, .ty _, (hi).ty, kit_ty ( kit_int _), true, rfl, itF rfl ⟨.int (a + b + 1 + 2 * e), rfl, _, _, _, _, _, rfl, .ty _, (hi).ty, kit_ty ( kit_bool _), false, rfl, itF rfl ⟨.int (a + b + 1 + 2 * e), rfl, .int (a + b + 1 + 2 * e), rfl, rfl, _, rfl, itF (by simp) ?_⟩⟩⟩
      refine ⟨.int p, rfl, .ref t, rfl, .int e, rfl, .ref t, p, a, b, e, rfl, hd, h1, h2, h3, ?_⟩
      rw [w]
      refine ⟨.int (a + b + 1 + 2 * e), rfl, rfl, ?_⟩
      rw [decide_eq_true rfl]
      exact q
theorem degs_of {a b : Int} (a0 : 0 ≤ a) (a1 : a < 5) (b0 : 0 ≤ b) (b1 : b < 5) : dDegs (.tuple [.int a, .int b]) = true := by
  show (dBelow 5 (.int a) && dBelow 5 (.int b)) = true
  rw [dBelow_of a0 a1, dBelow_of b0 b1]
  rfl
def sp_law (K : PySem.W.Frag) : Sp := fun vs H Q _ => ∃ (a : Addr) (ns : List Int), vs = [.ref a] ∧ SqL K H a (ns.map V.int) ∧ ∀ H', Q (.bl true) H'
theorem law_start {H : Hp} {a : Addr} {ns : List Int} (hl : ns.length ≤ 63) (ho : Only H) (hS : SqL K H a (ns.map V.int)) : sp_law K [.ref a] H (fun v _ => v = .bl true) fun _ _ _ => False := ⟨a, ns, rfl, hS, fun _ => rfl⟩
theorem ok_law (T : Txt K mg z) : FnOk P w K mg base CX0 7 z.a_law z.d_law ["script"] (sp_law K) := by
  refine T.F_law.ok sc_law (fun vs H Q E h => ?_) (fun cdv A outer s H vs Q E hr h => ?_)
  · obtain ⟨a, ns, rfl, _⟩ := h
    rfl
  · obtain ⟨a, ns, rfl, hS, q⟩ := h
    refine ⟨_, (PSs.nox (pss_cons (ps_for PassesOwn.never rfl (pi_range1 (by rfl) T.m_range (pa_cons (pe_callB (call_min2 rfl) (by rfl) T.m_min (by decide +kernel) (pa_cons (pe_callB (call_max2 rfl) (by rfl) T.m_max (by decide +kernel) (pa_cons (pe_callB (r := rLenS K) call_len_seq (by rfl) T.m_len (by decide +kernel) (pa_cons (pv 0) pa_nil)) (pa_cons pe_int pa_nil))) (pa_cons pe_int pa_nil))) pa_nil)) (pg_name (i := 1) sc_law.nd rfl (.inl rfl)) (pss_cons (ps_set (i := 2) sc_law.nd rfl (.inl rfl) (pe_call (ok__law_store T) (hr.mono (by decide)) (by rfl) T.g__law_store T.F__law_store.kp T.b__law_store .nil pass0 (pa_cons (pe_call (ok__law_cell T) (hr.mono (by decide)) (by rfl) T.g__law_cell T.F__law_cell.kp T.b__law_cell .nil pass0 (pa_cons (pv 0) (pa_cons (pv 1) pa_nil))) pa_nil)))
      (pss_one (ps_for PassesOwn.never rfl (pi_range1 (by rfl) T.m_range (pa_cons pe_int pa_nil)) (pg_name (i := 3) sc_law.nd rfl (.inl rfl)) (pss_one (ps_if (pt_not (pt_val (pe_call (ok__law_right T) hr (by rfl) T.g__law_right T.F__law_right.kp T.b__law_right .nil pass0 (pa_cons (pe_call (ok__law_prime T) (hr.mono (by decide)) (by rfl) T.g__law_prime T.F__law_prime.kp T.b__law_prime .nil pass0 (pa_cons (pv 2) pa_nil)) (pa_cons (pe_tup (pa_cons (pe_call (ok__law_take T) (hr.mono (by decide)) (by rfl) T.g__law_take T.F__law_take.kp T.b__law_take .nil pass0 (pa_cons (pv 2) (pa_cons pe_int pa_nil))) (pa_cons (pe_call (ok__law_take T) (hr.mono (by decide)) (by rfl) T.g__law_take T.F__law_take.kp T.b__law_take .nil pass0 (pa_cons (pv 2) (pa_cons pe_int pa_nil))) pa_nil))) (pa_cons (pe_call (ok__law_take T) (hr.mono (by decide)) (by rfl) T.g__law_take T.F__law_take.kp T.b__law_take .nil pass0 (pa_cons (pv 2) (pa_cons pe_int pa_nil))) pa_nil)))))) (pss_one (ps_ret pe_bl)) pss_nil))))))
      (pss_cons (ps_for PassesOwn.never rfl (pi_range1 (by rfl) T.m_range (pa_cons pe_int pa_nil)) (pg_name (i := 4) sc_law.nd rfl (.inr rfl)) (pss_one (ps_for PassesOwn.never rfl (pi_range1 (by rfl) T.m_range (pa_cons pe_int pa_nil)) (pg_name (i := 5) sc_law.nd rfl (.inr rfl)) (pss_one (ps_for PassesOwn.never rfl (pi_range1 (by rfl) T.m_range (pa_cons pe_int pa_nil)) (pg_name (i := 6) sc_law.nd rfl (.inr rfl)) (pss_one (ps_if (pt_cmpR (r := rNeD K) (op_neD hr.units) (pe_lc (own := [("p", 7)]) (by rfl) sc_law.nd (pi_listK K (pe_lst (pa_cons pe_int (pa_cons pe_int (pa_cons pe_int (pa_cons pe_int (pa_cons pe_int pa_nil))))))) (blkOk_by (own := [("p", 7)]) (N := N_law) (sc := (defScope s_law)) (by decide +kernel)) (fun _ _ _ _ _ => (pg_name (i := 7) sc_law.nd rfl (.inl rfl))) (fun _ _ _ _ _ => (pts_one (pt_not (pt_val (pe_call (ok__law_right T) hr (by rfl) T.g__law_right T.F__law_right.kp T.b__law_right .nil pass0 (pa_cons (pv 7) (pa_cons (pe_tup (pa_cons (pv 4) (pa_cons (pv 5) pa_nil))) (pa_cons (pv 6) pa_nil)))))))) (fun _ _ _ _ _ => (pv 7))) (pe_lst pa_nil) (nomark _)) (pss_one (ps_ret pe_bl)) pss_nil)))))))
      (pss_one (ps_ret pe_bl))))), ?_⟩
    refine ⟨.ref a, rfl, a, _, rfl, .inl hS, _, 3, rfl, _, 12, rfl, _, rfl, ?_, ?_, ?_⟩
    · show -(2 ^ 62) ≤ (if (12 : Int) < (if (3 : Int) > ((ns.map V.int).length : Int) then 3 else ((ns.map V.int).length : Int)) then (12 : Int) else (if (3 : Int) > ((ns.map V.int).length : Int) then 3 else ((ns.map V.int).length : Int)))
      omega
    · show (if (12 : Int) < (if (3 : Int) > ((ns.map V.int).length : Int) then 3 else ((ns.map V.int).length : Int)) then (12 : Int) else (if (3 : Int) > ((ns.map V.int).length : Int) then 3 else ((ns.map V.int).length : Int))) < 2 ^ 62
      omega
    have t2 : (if (12 : Int) < (if (3 : Int) > ((ns.map V.int).length : Int) then 3 else ((ns.map V.int).length : Int)) then (12 : Int) else (if (3 : Int) > ((ns.map V.int).length : Int) then 3 else ((ns.map V.int).length : Int))) ≤ 12 := by omega
    generalize (if (12 : Int) < (if (3 : Int) > ((ns.map V.int).length : Int) then 3 else ((ns.map V.int).length : Int)) then (12 : Int) else (if (3 : Int) > ((ns.map V.int).length : Int) then 3 else ((ns.map V.int).length : Int))) = J at t2
    refine for_range (lo := 0) (n := J.toNat) (fun i σ H' => (∃ y1 y2 y3 y4 y5 y6 y7, σ = [some (.ref a), y1, y2, y3, y4, y5, y6, y7]) ∧ Ex H H') ⟨⟨none, none, none, none, none, none, none, rfl⟩, Ex.refl H⟩ (fun i σ H1 hi hP => ?_) (fun σ H1 hP => ?_)
    · obtain ⟨⟨y1, y2, y3, y4, y5, y6, y7, rfl⟩, e1⟩ := hP
      have hk : (0 : Int) ≤ 0 + (i : Int) ∧ 0 + (i : Int) < 1000 := by omega
      generalize (0 : Int) + (i : Int) = k at hk ⊢
      refine ⟨.ref a, rfl, .int k, rfl, a, ns, k, rfl, ex_l e1 hS, hk.1, hk.2, fun c => ⟨c, rfl, fun pa H2 hpa e2 pb => ?_⟩⟩
      have hpa0 : H pa = none := fresh_back e1 hpa
      have g2 : Ex H H2 := e1.trans e2
      refine ⟨4, rfl, by decide, by decide, for_range (lo := 0) (n := 4) (fun j σ H' => (∃ y3, σ = [some (.ref a), some (.int k), some (.ref pa), y3, y4, y5, y6, y7]) ∧ PoolB H' pa (100 - 10 * j) ∧ Ex H H') ⟨⟨_, rfl⟩, pb.less (by omega), g2⟩ (fun j σ H3 hj hP => ?_) (fun σ H3 hP => ?_)⟩
      · obtain ⟨⟨z3, rfl⟩, pb3, g3⟩ := hP
        refine ⟨.ref pa, rfl, pa, 97 - 10 * j, rfl, pb3.less (by omega), fun p H4 hp pb4 e4 => ?_⟩
        refine ⟨.ref pa, rfl, pa, 5, 96 - 10 * j, rfl, by decide, by decide, pb4.less (by omega), fun x H5 x0 x1 pb5 e5 => ?_⟩
        refine ⟨.ref pa, rfl, pa, 5, 95 - 10 * j, rfl, by decide, by decide, pb5.less (by omega), fun y H6 v0 v1 pb6 e6 => ⟨sz_of (Nat.le_of_ble_eq_true rfl), fun t ht => ?_⟩⟩
        refine ⟨.ref pa, rfl, pa, 3, 94 - 10 * j, rfl, by decide, by decide, (pb6.dr ht).less (by omega), fun u H7 u0 u1 pb7 e7 => ?_⟩
        have htn : t ≠ pa := pb6.ne ht
        have ht7 := e7 _ _ htn upd_same
        have g7 : Ex H H7 := g3.keepB hpa0 ((((e4.trans e5).trans e6).trans (ExB.of (Ex.new ht))).trans e7)
        refine ⟨.ref t, p, x, y, u, rfl, .tup ht7 (.cons (.int _) (.cons (.int _) .nil)), fieldL_ok p hp, degs_of x0 x1 v0 v1, dBelow_of u0 u1, _, rfl, itF rfl ?_⟩
        exact ⟨⟨_, rfl⟩, pb7.less (by omega), g7⟩
      · obtain ⟨⟨z3, rfl⟩, _, g3⟩ := hP
        exact ⟨⟨_, _, _, _, _, _, _, rfl⟩, g3⟩
    · obtain ⟨⟨y1, y2, y3, y4, y5, y6, y7, rfl⟩, e1⟩ := hP
      refine ⟨5, rfl, by decide, by decide, for_range (lo := 0) (n := 5) (fun i σ H' => (∃ y4 y5 y6 y7, σ = [some (.ref a), y1, y2, y3, y4, y5, y6, y7]) ∧ Ex H H') ⟨⟨_, _, _, _, rfl⟩, e1⟩ (fun i σ H2 hi hP => ?_) (fun σ H2 hP => q H2)⟩
      obtain ⟨⟨y4, y5, y6, y7, rfl⟩, e2⟩ := hP
      have ha0 : (0 : Int) ≤ 0 + (i : Int) := by omega
      have ha1 : (0 : Int) + (i : Int) < 5 := by omega
      generalize (0 : Int) + (i : Int) = x at ha0 ha1 ⊢
      refine ⟨5, rfl, by decide, by decide, for_range (lo := 0) (n := 5) (fun i σ H' => (∃ y5 y6 y7, σ = [some (.ref a), y1, y2, y3, some (.int x), y5, y6, y7]) ∧ Ex H H') ⟨⟨_, _, _, rfl⟩, e2⟩ (fun i σ H3 hi hP => ?_) (fun σ H3 hP => ?_)⟩
      · obtain ⟨⟨y5, y6, y7, rfl⟩, e3⟩ := hP
        have hb0 : (0 : Int) ≤ 0 + (i : Int) := by omega
        have hb1 : (0 : Int) + (i : Int) < 5 := by omega
        generalize (0 : Int) + (i : Int) = y at hb0 hb1 ⊢
        refine ⟨3, rfl, by decide, by decide, for_range (lo := 0) (n := 3) (fun i σ H' => (∃ y6 y7, σ = [some (.ref a), y1, y2, y3, some (.int x), some (.int y), y6, y7]) ∧ Ex H H') ⟨⟨_, _, rfl⟩, e3⟩ (fun i σ H4 hi hP => ?_) (fun σ H4 hP => ?_)⟩
        · obtain ⟨⟨y6, y7, rfl⟩, e4⟩ := hP
          have hu0 : (0 : Int) ≤ 0 + (i : Int) := by omega
          have hu1 : (0 : Int) + (i : Int) < 3 := by omega
          generalize (0 : Int) + (i : Int) = u at hu0 hu1 ⊢
          have hN : EvN (tLc (iList K (tLst (tCons (tC (.int 3)) (tCons (tC (.int 5)) (tCons (tC (.int 11)) (tCons (tC (.int 13)) (tCons (tC (.int 97)) tNil))))))) (gName 7) (tNot (tB (tCall sp__law_right [] E0 (tCons (tVar 7) (tCons (tTup (tCons (tVar 4) (tCons (tVar 5) tNil))) (tCons (tVar 6) tNil)))))) (tVar 7) [7]) [some (.ref a), y1, y2, y3, some (.int x), some (.int y), some (.int u), y7] H4 (([PyData.int 3, .int 5, .int 11, .int 13, .int 97].filter fun _ => false).map id) := by
            refine en_lcD (fun _ => false) id (EvN.ed (en_lst (eda_cons (ed_int ev_c) (eda_cons (ed_int ev_c) (eda_cons (ed_int ev_c) (eda_cons (ed_int ev_c) (eda_cons (ed_int ev_c) eda_nil))))) (by decide) rfl)) (by decide) (fun _ => rfl) (fun H5 v d e5 hm hv H6 e6 Q k => ?_) (fun _ _ _ _ _ _ z => nomatch z) (fun _ _ z => nomatch z)
            obtain ⟨p, rfl, hp⟩ : ∃ p, d = .int p ∧ dField (.int p) = true := by
              simp only [List.mem_cons, List.not_mem_nil, or_false] at hm
              rcases hm with rfl | rfl | rfl | rfl | rfl
              · exact ⟨_, rfl, by decide +kernel⟩
              · exact ⟨_, rfl, by decide +kernel⟩
              · exact ⟨_, rfl, by decide +kernel⟩
              · exact ⟨_, rfl, by decide +kernel⟩
              · exact ⟨_, rfl, by decide +kernel⟩
            cases hv
            refine ⟨.int p, rfl, .int x, rfl, .int y, rfl, sz_of (Nat.le_of_ble_eq_true rfl), fun t ht => ⟨.int u, rfl, .ref t, p, x, y, u, rfl, .tup upd_same (.cons (.int _) (.cons (.int _) .nil)), hp, degs_of ha0 ha1 hb0 hb1, dBelow_of hu0 hu1, true, rfl, k _ (Ex.new ht)⟩⟩
          exact s_when (et_test (ev_neNil hN rfl)) (fun z => nomatch z) (fun _ H5 e5 => ⟨⟨_, _, rfl⟩, e4.trans e5⟩)
        · obtain ⟨⟨y6, y7, rfl⟩, e4⟩ := hP
          exact ⟨⟨_, _, _, rfl⟩, e4⟩
      · obtain ⟨⟨y5, y6, y7, rfl⟩, e3⟩ := hP
        exact ⟨⟨_, _, _, _, rfl⟩, e3⟩
end
set_option maxHeartbeats 0
def dd_is_whole : He.DefD := ⟨("is_whole", none), "is_whole", "is_whole", defArgs s_is_whole, defBody s_is_whole, defScope s_is_whole, [], []⟩
def dd_is_whole_below : He.DefD := ⟨("is_whole_below", none), "is_whole_below", "is_whole_below", defArgs s_is_whole_below, defBody s_is_whole_below, defScope s_is_whole_below, [], []⟩
def dd_is_pair : He.DefD := ⟨("is_pair", none), "is_pair", "is_pair", defArgs s_is_pair, defBody s_is_pair, defScope s_is_pair, [], []⟩
def dd_is_prime : He.DefD := ⟨("is_prime", none), "is_prime", "is_prime", defArgs s_is_prime, defBody s_is_prime, defScope s_is_prime, [], []⟩
def dd_need_field : He.DefD := ⟨("need_field", none), "need_field", "need_field", defArgs s_need_field, defBody s_need_field, defScope s_need_field, [], []⟩
def dd_is_degrees : He.DefD := ⟨("is_degrees", none), "is_degrees", "is_degrees", defArgs s_is_degrees, defBody s_is_degrees, defScope s_is_degrees, [], []⟩
def dd_need_degrees : He.DefD := ⟨("need_degrees", none), "need_degrees", "need_degrees", defArgs s_need_degrees, defBody s_need_degrees, defScope s_need_degrees, [], []⟩
def dd_places_wanted : He.DefD := ⟨("places_wanted", none), "places_wanted", "places_wanted", defArgs s_places_wanted, defBody s_places_wanted, defScope s_places_wanted, [], []⟩
def dd_need_few_wrong : He.DefD := ⟨("need_few_wrong", none), "need_few_wrong", "need_few_wrong", defArgs s_need_few_wrong, defBody s_need_few_wrong, defScope s_need_few_wrong, [], []⟩
def dd_fewest_places : He.DefD := ⟨("fewest_places", none), "fewest_places", "fewest_places", defArgs s_fewest_places, defBody s_fewest_places, defScope s_fewest_places, [], []⟩
def dd__law_cell : He.DefD := ⟨("_law_cell", none), "_law_cell", "_law_cell", defArgs s__law_cell, defBody s__law_cell, defScope s__law_cell, [], []⟩
def dd__law_store : He.DefD := ⟨("_law_store", none), "_law_store", "_law_store", defArgs s__law_store, defBody s__law_store, defScope s__law_store, [], []⟩
def dd__law_take : He.DefD := ⟨("_law_take", none), "_law_take", "_law_take", defArgs s__law_take, defBody s__law_take, defScope s__law_take, [], []⟩
def dd__law_prime : He.DefD := ⟨("_law_prime", none), "_law_prime", "_law_prime", defArgs s__law_prime, defBody s__law_prime, defScope s__law_prime, [], []⟩
def dd__law_right : He.DefD := ⟨("_law_right", none), "_law_right", "_law_right", defArgs s__law_right, defBody s__law_right, defScope s__law_right, [], []⟩
def dd_law : He.DefD := ⟨("law", none), "law", "law", defArgs s_law, defBody s_law, defScope s_law, [], []⟩
def fnL : List He.DefD := [dd_is_whole, dd_is_whole_below, dd_is_pair, dd_is_prime, dd_need_field, dd_is_degrees, dd_need_degrees, dd_places_wanted, dd_need_few_wrong, dd_fewest_places, dd__law_cell, dd__law_store, dd__law_take, dd__law_prime, dd__law_right, dd_law]
def faL : List He.Fa := [.glo "is_whole", .glo "is_whole_below", .glo "is_pair", .glo "is_prime", .glo "need_field", .glo "is_degrees", .glo "need_degrees", .glo "places_wanted", .glo "need_few_wrong", .glo "fewest_places", .glo "_law_cell", .glo "_law_store", .glo "_law_take", .glo "_law_prime", .glo "_law_right", .glo "law", .free "isinstance", .free "bool", .free "int", .free "len", .free "tuple", .free "range", .free "min", .free "max", .int "PRIME_LIMIT" 1000, .int "LEAST_PRIME" 3, .int "GREATEST_PRIME" 97, .int "MOST_WORTHS" 12, .int "MOST_DEGREE" 4, .int "MOST_WRONG" 2, .glo "BackError", .exc "BackError", .glo "NoPrime", .exc "NoPrime", .glo "NoNumber", .exc "NoNumber", .glo "NoDegrees", .exc "NoDegrees"]
abbrev RR : PySem.W.OpenRow := PySem.W.OpenLaw.row PySem.Challenge.rw_toldback_k74_fewest_places
def looseL : List PySem.Str := (["is_whole", "is_whole_below", "is_pair", "is_prime", "need_field", "is_degrees", "need_degrees", "places_wanted", "need_few_wrong", "fewest_places", "_law_cell", "_law_store", "_law_take", "_law_prime", "_law_right", "PRIME_LIMIT", "LEAST_PRIME", "GREATEST_PRIME", "MOST_WORTHS", "MOST_DEGREE"] : List PySem.Str) ++ (["MOST_WRONG", "BackError", "NoPrime", "NoNumber", "NoDegrees"] : List PySem.Str)
abbrev hk : PySem.W.Hook := He.hookD 4 faL fnL
def ob (s : PySem.W.SharedT) : He.AlD := He.obsDG 4 faL fnL (HandSHeadRun.getT s)
theorem ob_eq (s : PySem.W.SharedT) : ob s = hk.obs s.abs := He.obsDG_eq (HandSHeadRun.getT_eq s)
theorem run (w : World) : HandSHeadRun.RunEq RR (PySem.W.view RR.prog [33]) hk ob 4000 looseL w := by
  intro os
  kernel_rfl
theorem facts {P : Program} {w : World} {K : PySem.W.Frag} {h : Heap} {mg : Str → Option Value} {f : Addr} (X : K.In h) (G : h.Ns mainGlobals mg) (hfa : mg ("law" : Str) = some (.ref f)) (c : He.SaysD faL fnL K) :
    ∃ fd : FuncData, (∀ (s : Shared) (v : Value), BindsTo s fd ⟨[v], []⟩ [("script", v)]) ∧ ∀ base : Heap, K.In base → base.Ns mainGlobals mg → FnOk P w K mg base CX0 7 f fd ["script"] (sp_law K) := by
  obtain ⟨fd_is_whole, F_is_whole⟩ := c.def_ 0 (d := dd_is_whole) rfl
  obtain ⟨fd_is_whole_below, F_is_whole_below⟩ := c.def_ 1 (d := dd_is_whole_below) rfl
  obtain ⟨fd_is_pair, F_is_pair⟩ := c.def_ 2 (d := dd_is_pair) rfl
  obtain ⟨fd_is_prime, F_is_prime⟩ := c.def_ 3 (d := dd_is_prime) rfl
  obtain ⟨fd_need_field, F_need_field⟩ := c.def_ 4 (d := dd_need_field) rfl
  obtain ⟨fd_is_degrees, F_is_degrees⟩ := c.def_ 5 (d := dd_is_degrees) rfl
  obtain ⟨fd_need_degrees, F_need_degrees⟩ := c.def_ 6 (d := dd_need_degrees) rfl
  obtain ⟨fd_places_wanted, F_places_wanted⟩ := c.def_ 7 (d := dd_places_wanted) rfl
  obtain ⟨fd_need_few_wrong, F_need_few_wrong⟩ := c.def_ 8 (d := dd_need_few_wrong) rfl
  obtain ⟨fd_fewest_places, F_fewest_places⟩ := c.def_ 9 (d := dd_fewest_places) rfl
  obtain ⟨fd__law_cell, F__law_cell⟩ := c.def_ 10 (d := dd__law_cell) rfl
  obtain ⟨fd__law_store, F__law_store⟩ := c.def_ 11 (d := dd__law_store) rfl
  obtain ⟨fd__law_take, F__law_take⟩ := c.def_ 12 (d := dd__law_take) rfl
  obtain ⟨fd__law_prime, F__law_prime⟩ := c.def_ 13 (d := dd__law_prime) rfl
  obtain ⟨fd__law_right, F__law_right⟩ := c.def_ 14 (d := dd__law_right) rfl
  obtain ⟨fd_law, F_law⟩ := c.def_ 15 (d := dd_law) rfl
  obtain ⟨t_PRIME_LIMIT, c_PRIME_LIMIT⟩ := He.int_ok X G (c.fact 24 (f := .int "PRIME_LIMIT" 1000) rfl)
  obtain ⟨t_LEAST_PRIME, c_LEAST_PRIME⟩ := He.int_ok X G (c.fact 25 (f := .int "LEAST_PRIME" 3) rfl)
  obtain ⟨t_GREATEST_PRIME, c_GREATEST_PRIME⟩ := He.int_ok X G (c.fact 26 (f := .int "GREATEST_PRIME" 97) rfl)
  obtain ⟨t_MOST_WORTHS, c_MOST_WORTHS⟩ := He.int_ok X G (c.fact 27 (f := .int "MOST_WORTHS" 12) rfl)
  obtain ⟨t_MOST_DEGREE, c_MOST_DEGREE⟩ := He.int_ok X G (c.fact 28 (f := .int "MOST_DEGREE" 4) rfl)
  obtain ⟨t_MOST_WRONG, c_MOST_WRONG⟩ := He.int_ok X G (c.fact 29 (f := .int "MOST_WRONG" 2) rfl)
  have e := hfa.symm.trans (He.glo_ok X G (c.fact 15 (f := .glo "law") rfl))
  cases e
  have b := FunD.bindsA (ps := ["script"]) F_law fun _ _ _ _ _ _ us hl => match us, hl with | [_], _ => rfl
  have T : Txt K mg ⟨He.ga K "is_whole", fd_is_whole, He.ga K "is_whole_below", fd_is_whole_below, He.ga K "is_pair", fd_is_pair, He.ga K "is_prime", fd_is_prime, He.ga K "need_field", fd_need_field, He.ga K "is_degrees", fd_is_degrees, He.ga K "need_degrees", fd_need_degrees, He.ga K "places_wanted", fd_places_wanted, He.ga K "need_few_wrong", fd_need_few_wrong, He.ga K "fewest_places", fd_fewest_places, He.ga K "_law_cell", fd__law_cell, He.ga K "_law_store", fd__law_store, He.ga K "_law_take", fd__law_take, He.ga K "_law_prime", fd__law_prime, He.ga K "_law_right", fd__law_right, He.ga K "law", fd_law, t_PRIME_LIMIT, t_LEAST_PRIME, t_GREATEST_PRIME, t_MOST_WORTHS, t_MOST_DEGREE, t_MOST_WRONG, He.ga K "BackError", He.ga K "NoPrime", He.ga K "NoNumber", He.ga K "NoDegrees"⟩ :=
    { F_is_whole := F_is_whole,
      g_is_whole := He.glo_ok X G (c.fact 0 (f := .glo "is_whole") rfl),
      b_is_whole := F_is_whole.bindsN fun _ _ _ _ _ _ us hl => match us, hl with | [_], _ => rfl,
      F_is_whole_below := F_is_whole_below,
      g_is_whole_below := He.glo_ok X G (c.fact 1 (f := .glo "is_whole_below") rfl),
      b_is_whole_below := F_is_whole_below.bindsN fun _ _ _ _ _ _ us hl => match us, hl with | [_, _], _ => rfl,
      F_is_pair := F_is_pair,
      g_is_pair := He.glo_ok X G (c.fact 2 (f := .glo "is_pair") rfl),
      b_is_pair := F_is_pair.bindsN fun _ _ _ _ _ _ us hl => match us, hl with | [_], _ => rfl,
      F_is_prime := F_is_prime,
      g_is_prime := He.glo_ok X G (c.fact 3 (f := .glo "is_prime") rfl),
      b_is_prime := F_is_prime.bindsN fun _ _ _ _ _ _ us hl => match us, hl with | [_], _ => rfl,
      F_need_field := F_need_field,
      g_need_field := He.glo_ok X G (c.fact 4 (f := .glo "need_field") rfl),
      b_need_field := F_need_field.bindsN fun _ _ _ _ _ _ us hl => match us, hl with | [_], _ => rfl,
      F_is_degrees := F_is_degrees,
      g_is_degrees := He.glo_ok X G (c.fact 5 (f := .glo "is_degrees") rfl),
      b_is_degrees := F_is_degrees.bindsN fun _ _ _ _ _ _ us hl => match us, hl with | [_], _ => rfl,
      F_need_degrees := F_need_degrees,
      g_need_degrees := He.glo_ok X G (c.fact 6 (f := .glo "need_degrees") rfl),
      b_need_degrees := F_need_degrees.bindsN fun _ _ _ _ _ _ us hl => match us, hl with | [_], _ => rfl,
      F_places_wanted := F_places_wanted,
      g_places_wanted := He.glo_ok X G (c.fact 7 (f := .glo "places_wanted") rfl),
      b_places_wanted := F_places_wanted.bindsN fun _ _ _ _ _ _ us hl => match us, hl with | [_, _], _ => rfl,
      F_need_few_wrong := F_need_few_wrong,
      g_need_few_wrong := He.glo_ok X G (c.fact 8 (f := .glo "need_few_wrong") rfl),
      b_need_few_wrong := F_need_few_wrong.bindsN fun _ _ _ _ _ _ us hl => match us, hl with | [_], _ => rfl,
      F_fewest_places := F_fewest_places,
      g_fewest_places := He.glo_ok X G (c.fact 9 (f := .glo "fewest_places") rfl),
      b_fewest_places := F_fewest_places.bindsN fun _ _ _ _ _ _ us hl => match us, hl with | [_, _, _], _ => rfl,
      F__law_cell := F__law_cell,
      g__law_cell := He.glo_ok X G (c.fact 10 (f := .glo "_law_cell") rfl),
      b__law_cell := F__law_cell.bindsN fun _ _ _ _ _ _ us hl => match us, hl with | [_, _], _ => rfl,
      F__law_store := F__law_store,
      g__law_store := He.glo_ok X G (c.fact 11 (f := .glo "_law_store") rfl),
      b__law_store := F__law_store.bindsN fun _ _ _ _ _ _ us hl => match us, hl with | [_], _ => rfl,
      F__law_take := F__law_take,
      g__law_take := He.glo_ok X G (c.fact 12 (f := .glo "_law_take") rfl),
      b__law_take := F__law_take.bindsN fun _ _ _ _ _ _ us hl => match us, hl with | [_, _], _ => rfl,
      F__law_prime := F__law_prime,
      g__law_prime := He.glo_ok X G (c.fact 13 (f := .glo "_law_prime") rfl),
      b__law_prime := F__law_prime.bindsN fun _ _ _ _ _ _ us hl => match us, hl with | [_], _ => rfl,
      F__law_right := F__law_right,
      g__law_right := He.glo_ok X G (c.fact 14 (f := .glo "_law_right") rfl),
      b__law_right := F__law_right.bindsN fun _ _ _ _ _ _ us hl => match us, hl with | [_, _, _], _ => rfl,
      F_law := F_law,
      g_law := He.glo_ok X G (c.fact 15 (f := .glo "law") rfl),
      b_law := F_law.bindsN fun _ _ _ _ _ _ us hl => match us, hl with | [_], _ => rfl,
      m_isinstance := He.free_ok X G (c.fact 16 (f := .free "isinstance") rfl),
      m_bool := He.free_ok X G (c.fact 17 (f := .free "bool") rfl),
      m_int := He.free_ok X G (c.fact 18 (f := .free "int") rfl),
      m_len := He.free_ok X G (c.fact 19 (f := .free "len") rfl),
      m_tuple := He.free_ok X G (c.fact 20 (f := .free "tuple") rfl),
      m_range := He.free_ok X G (c.fact 21 (f := .free "range") rfl),
      m_min := He.free_ok X G (c.fact 22 (f := .free "min") rfl),
      m_max := He.free_ok X G (c.fact 23 (f := .free "max") rfl),
      c_PRIME_LIMIT := c_PRIME_LIMIT,
      c_LEAST_PRIME := c_LEAST_PRIME,
      c_GREATEST_PRIME := c_GREATEST_PRIME,
      c_MOST_WORTHS := c_MOST_WORTHS,
      c_MOST_DEGREE := c_MOST_DEGREE,
      c_MOST_WRONG := c_MOST_WRONG,
      k_BackError := He.glo_ok X G (c.fact 30 (f := .glo "BackError") rfl),
      x_BackError := excFacts_of (c.fact 31 (f := .exc "BackError") rfl),
      k_NoPrime := He.glo_ok X G (c.fact 32 (f := .glo "NoPrime") rfl),
      x_NoPrime := excFacts_of (c.fact 33 (f := .exc "NoPrime") rfl),
      k_NoNumber := He.glo_ok X G (c.fact 34 (f := .glo "NoNumber") rfl),
      x_NoNumber := excFacts_of (c.fact 35 (f := .exc "NoNumber") rfl),
      k_NoDegrees := He.glo_ok X G (c.fact 36 (f := .glo "NoDegrees") rfl),
      x_NoDegrees := excFacts_of (c.fact 37 (f := .exc "NoDegrees") rfl) }
  exact ⟨fd_law, fun s v => b s [v] rfl, fun base _ _ => ok_law T⟩
end TB
open PySem PySem.W PySem.Calls PyProof.Rows
set_option maxHeartbeats 0 in
theorem PySem.Challenge.cw_toldback_k74_fewest_places_holds : PySem.Challenge.rw_toldback_k74_fewest_places.Holds := by
  w_on; o_law
  refine HandSHeadRun.head_any (r := OpenLaw.row PySem.Challenge.rw_toldback_k74_fewest_places) (q := view (OpenLaw.row PySem.Challenge.rw_toldback_k74_fewest_places).prog [33]) (H := TB.hk) (ob := TB.ob) (M := 4000) (loose := TB.looseL) (d := HandSHeadRun.topDef (OpenLaw.row PySem.Challenge.rw_toldback_k74_fewest_places).prog 33) (kwd := []) TB.ob_eq
    (by kernel_rfl) (fun s => by kernel_rfl) TB.run (by kernel_rfl) (by kernel_rfl) (by kernel_rfl) (by rfl) (by first | assumption | decide +kernel) (by decide +kernel) ⟨rfl, rfl, rfl, rfl, rfl, by decide +kernel⟩ ?hw ?hc
  case hw => w_witness2
  case hc =>
    refine L2.walk_ofE (l := PySem.Challenge.rw_toldback_k74_fewest_places) (n := 63) (k := 7) (x := "script") (CX := L2.CX0) rfl (by decide) (by kernel_rfl) ⟨rfl, by decide, by decide⟩ ?F (fun _ _ _ _ z => z)
    intro w mg fa h Y G hmg0
    obtain ⟨K, KX, c⟩ := Y
    have hmg : mg ("law" : PySem.Str) = some (.ref fa) := by
      have e : (HandSHeadRun.topDef (OpenLaw.row PySem.Challenge.rw_toldback_k74_fewest_places).prog 33).name = ("law" : PySem.Str) := by kernel_rfl
      rw [← e]
      exact hmg0
    obtain ⟨fd, hb, hF⟩ := TB.facts (P := (PySem.Challenge.rw_toldback_k74_fewest_places).prog) (w := w) KX G hmg c
    exact ⟨K, fd, TB.sp_law K, KX, hb, fun H a ns hl ho hS => TB.law_start hl ho hS, hF⟩
