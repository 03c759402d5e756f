import PyProof.Rows.All
import Wide.All
import OpenK.AllK
import Wide.FinOn
import KE.KStateDown
import Lean
import HandS.Base
import HandS.Call
import HandS.List
import HandS.Comp
import HandS.Ends
import HandS.More
import HandS.Dict
import HandS.Iter
import HandS.Walk
import HandS.Text
import HandS.Words
import HandS.WordsList
import HandS.WordsExc
import HandS.Defaults
import HandS.Wide
import HandS.IsInst
import HandS.Style
import HandS.Evl
import HandS.Steps
import HandS.RaiseMore
import HandS.Head0
import HandS.Head1
import HandS.Head2
import HandS.HeadEnd
import HandS.HeadHook1
import HandS.HeadHook2
import PySem.Challenge.RW_toldback_k02_what_is_a_prime
set_option Elab.async false
set_option linter.all false
set_option maxRecDepth 100000
set_option maxHeartbeats 4000000
namespace TB
open PySem PySem.Spec PyProof.Rows L2 Evl
/-! ### heaps but for one list -/
theorem same_new {H : Hp} {p : Addr} {o : HO} (h : H p = none) : Ex H (upd H p o) := Ex.new h
/-- everything but what stands at B is as it was -/
def ExB (B : Addr) (H H' : Hp) : Prop := ∀ a o, a ≠ B → H a = some o → H' a = some o
theorem ExB.refl (B : Addr) (H : Hp) : ExB B H H := fun _ _ _ h => h
theorem ExB.trans {B : Addr} {H H1 H2 : Hp} (a : ExB B H H1) (b : ExB B H1 H2) : ExB B H H2 := fun x o n h => b x o n (a x o n h)
theorem ExB.of {B : Addr} {H H' : Hp} (e : Ex H H') : ExB B H H' := fun a o _ h => e a o h
theorem ExB.upd {B : Addr} {H : Hp} {o : HO} : ExB B H (upd H B o) := fun a u n h => by
  rw [upd_ne n]
  exact h
/-! ### data, as it stands in a heap -/
mutual
inductive Dt (H : Hp) : V → PyData → Prop
  | non : Dt H .non .none
  | bl (b : Bool) : Dt H (.bl b) (.bool b)
  | int (i : Int) : Dt H (.int i) (.int i)
  | str (x : Str) : Dt H (.str x) (.str x)
  | lst {a : Addr} {xs : List V} {ds : List PyData} : H a = some (.lst xs) → DtAll H xs ds → Dt H (.ref a) (.list ds)
  | tup {a : Addr} {xs : List V} {ds : List PyData} : H a = some (.tup xs) → DtAll H xs ds → Dt H (.ref a) (.tuple ds)
  | dic {a : Addr} {ns : List (Int × Int)} : H a = some (.dK (ns.map fun p => ((Sum.inl p.1 : Key), V.int p.2))) → Dt H (.ref a) (.dict (ns.map fun p => (PyData.int p.1, PyData.int p.2)))
inductive DtAll (H : Hp) : List V → List PyData → Prop
  | nil : DtAll H [] []
  | cons {v : V} {vs : List V} {d : PyData} {ds : List PyData} : Dt H v d → DtAll H vs ds → DtAll H (v :: vs) (d :: ds)
end
mutual
theorem Dt.mono {H H' : Hp} (e : Ex H H') : ∀ (d : PyData) (v : V), Dt H v d → Dt H' v d
  | .none, _, h => by cases h; exact .non
  | .bool b, _, h => by cases h; exact .bl b
  | .int i, _, h => by cases h; exact .int i
  | .str x, _, h => by cases h; exact .str x
  | .list ds, _, h => by
    cases h with
    | lst hs ha => exact .lst (e _ _ hs) (DtAll.mono e ds _ ha)
  | .tuple ds, _, h => by
    cases h with
    | tup hs ha => exact .tup (e _ _ hs) (DtAll.mono e ds _ ha)
  | .dict _, _, h => by
    cases h with
    | dic hs => exact .dic (e _ _ hs)
theorem DtAll.mono {H H' : Hp} (e : Ex H H') : ∀ (ds : List PyData) (vs : List V), DtAll H vs ds → DtAll H' vs ds
  | [], _, h => by cases h; exact .nil
  | d :: ds, _, h => by
    cases h with
    | cons h1 h2 => exact .cons (Dt.mono e d _ h1) (DtAll.mono e ds _ h2)
end
theorem Dt.up {H H' : Hp} {v : V} {d : PyData} (h : Dt H v d) (e : Ex H H') : Dt H' v d := Dt.mono e d v h
theorem DtAll.up {H H' : Hp} {v : List V} {d : List PyData} (h : DtAll H v d) (e : Ex H H') : DtAll H' v d := DtAll.mono e d v h
/-! data without lists in it: what is done to a list does not touch it -/
mutual
def noL : PyData → Bool
  | .list _ => false
  | .tuple ds => noLs ds
  | _ => true
def noLs : List PyData → Bool
  | [] => true
  | d :: ds => noL d && noLs ds
end
def IsL (H : Hp) (B : Addr) : Prop := ∃ xs, H B = some (.lst xs)
mutual
theorem Dt.monoB {B : Addr} {H H' : Hp} (hB : IsL H B) (e : ExB B H H') : ∀ (d : PyData) (v : V), noL d = true → Dt H v d → Dt H' v d
  | .none, _, _, h => by cases h; exact .non
  | .bool b, _, _, h => by cases h; exact .bl b
  | .int i, _, _, h => by cases h; exact .int i
  | .str x, _, _, h => by cases h; exact .str x
  | .list ds, _, n, h => nomatch n
  | .tuple ds, _, n, h => by
    cases h with
    | @tup a _ _ hs ha =>
      refine .tup (e a _ (fun z => ?_) hs) (DtAll.monoB hB e ds _ n ha)
      obtain ⟨xs, hx⟩ := hB
      rw [z, hx] at hs
      cases hs
  | .dict _, _, _, h => by
    cases h with
    | @dic a _ hs =>
      refine .dic (e a _ (fun z => ?_) hs)
      obtain ⟨xs, hx⟩ := hB
      rw [z, hx] at hs
      cases hs
theorem DtAll.monoB {B : Addr} {H H' : Hp} (hB : IsL H B) (e : ExB B H H') : ∀ (ds : List PyData) (vs : List V), noLs ds = true → DtAll H vs ds → DtAll H' vs ds
  | [], _, _, h => by cases h; exact .nil
  | d :: ds, _, n, h => by
    obtain ⟨n1, n2⟩ := Bool.and_eq_true_iff.mp (show (noL d && noLs ds) = true from n)
    cases h with
    | cons h1 h2 => exact .cons (Dt.monoB hB e d _ n1 h1) (DtAll.monoB hB e ds _ n2 h2)
end
theorem noLs_of {ds : List PyData} (h : ∀ d ∈ ds, noL d = true) : noLs ds = true := by
  induction ds with
  | nil => rfl
  | cons d ds ih =>
    show (noL d && noLs ds) = true
    rw [h d (List.mem_cons_self), ih fun x hx => h x (List.mem_cons_of_mem _ hx)]
    rfl
theorem noLs_mem {ds : List PyData} (h : noLs ds = true) : ∀ d ∈ ds, noL d = true := by
  induction ds with
  | nil => intro d hd; cases hd
  | cons x ds ih =>
    obtain ⟨n1, n2⟩ := Bool.and_eq_true_iff.mp (show (noL x && noLs ds) = true from h)
    intro d hd
    rcases List.mem_cons.mp hd with e | e
    · rw [e]; exact n1
    · exact ih n2 d e
/-! lists of data -/
theorem DtAll.len {H : Hp} : ∀ {vs : List V} {ds : List PyData}, DtAll H vs ds → vs.length = ds.length
  | _, _, .nil => rfl
  | _, _, .cons _ h => by rw [List.length_cons, List.length_cons, h.len]
theorem DtAll.app {H : Hp} : ∀ {vs us : List V} {ds es : List PyData}, DtAll H vs ds → DtAll H us es → DtAll H (vs ++ us) (ds ++ es)
  | _, _, _, _, .nil, h => h
  | _, _, _, _, .cons a b, h => .cons a (b.app h)
theorem DtAll.get {H : Hp} : ∀ {vs : List V} {ds : List PyData} (i : Nat) {v : V}, DtAll H vs ds → vs[i]? = some v → ∃ d, ds[i]? = some d ∧ Dt H v d
  | _, _, _, _, .nil, e => by simp at e
  | _, _, 0, _, .cons a _, e => by
    have e := Option.some.inj e
    subst e
    exact ⟨_, rfl, a⟩
  | _, _, i + 1, _, .cons _ b, e => b.get i e
theorem DtAll.getD {H : Hp} : ∀ {vs : List V} {ds : List PyData} (i : Nat) {d : PyData}, DtAll H vs ds → ds[i]? = some d → ∃ v, vs[i]? = some v ∧ Dt H v d
  | _, _, _, _, .nil, e => by simp at e
  | _, _, 0, _, .cons a _, e => by
    have e := Option.some.inj e
    subst e
    exact ⟨_, rfl, a⟩
  | _, _, i + 1, _, .cons _ b, e => b.getD i e
theorem DtAll.ints {H : Hp} : ∀ ns : List Int, DtAll H (ns.map V.int) (ns.map PyData.int)
  | [] => .nil
  | n :: ns => .cons (.int n) (DtAll.ints ns)
theorem DtAll.ints_eq {H : Hp} : ∀ {vs : List V} (ns : List Int), DtAll H vs (ns.map PyData.int) → vs = ns.map V.int
  | _, [], h => by cases h; rfl
  | _, n :: ns, h => by
    cases h with
    | cons a b =>
      cases a
      rw [DtAll.ints_eq ns b]
      rfl
theorem Dt.int_eq {H : Hp} {v : V} {i : Int} (h : Dt H v (.int i)) : v = .int i := by cases h; rfl
theorem Dt.bl_eq {H : Hp} {v : V} {b : Bool} (h : Dt H v (.bool b)) : v = .bl b := by cases h; rfl
theorem Dt.non_eq {H : Hp} {v : V} (h : Dt H v .none) : v = .non := by cases h; rfl
theorem Dt.tup_get {H : Hp} {v : V} {ds : List PyData} (h : Dt H v (.tuple ds)) : ∃ a xs, v = .ref a ∧ H a = some (.tup xs) ∧ DtAll H xs ds := by
  cases h with
  | tup a b => exact ⟨_, _, rfl, a, b⟩
theorem Dt.lst_get {H : Hp} {v : V} {ds : List PyData} (h : Dt H v (.list ds)) : ∃ a xs, v = .ref a ∧ H a = some (.lst xs) ∧ DtAll H xs ds := by
  cases h with
  | lst a b => exact ⟨_, _, rfl, a, b⟩
/-! into the layer's own word -/
mutual
theorem Dt.dp {K : PySem.W.Frag} {H : Hp} : ∀ (d : PyData) (v : V), d.canLay0 = true → Dt H v d → Dp K H v d
  | .none, _, _, h => by cases h; exact .non
  | .bool b, _, _, h => by cases h; exact .bl b
  | .int i, _, _, h => by cases h; exact .int i
  | .str x, _, _, h => by cases h; exact .str x
  | .list ds, _, n, h => by
    have n : PyData.canLayAll0 ds = true := by simpa [PyData.canLay0] using n
    cases h with
    | lst hs ha => exact .lst (.inl (.inl hs)) (DtAll.dp ds _ n ha)
  | .tuple ds, _, n, h => by
    have n : PyData.canLayAll0 ds = true := by simpa [PyData.canLay0] using n
    cases h with
    | tup hs ha => exact .tup (.inl (.inl hs)) (DtAll.dp ds _ n ha)
  | .dict _, _, n, _ => by simp [PyData.canLay0] at n
theorem DtAll.dp {K : PySem.W.Frag} {H : Hp} : ∀ (ds : List PyData) (vs : List V), PyData.canLayAll0 ds = true → DtAll H vs ds → DpAll K H vs ds
  | [], _, _, h => by cases h; exact .nil
  | d :: ds, _, n, h => by
    have n : d.canLay0 = true ∧ PyData.canLayAll0 ds = true := by simpa [PyData.canLayAll0] using n
    cases h with
    | cons h1 h2 => exact .cons (Dt.dp d _ n.1 h1) (DtAll.dp ds _ n.2 h2)
end
/-! ### kinds -/
def tyN : PyData → String
  | .none => "NoneType"
  | .bool _ => "bool"
  | .int _ => "int"
  | .str _ => "str"
  | .list _ => "list"
  | .tuple _ => "tuple"
  | .dict _ => "dict"
theorem Dt.ty {K : PySem.W.Frag} {H : Hp} {v : V} {d : PyData} (h : Dt H v d) : TyX K H v (.type (tyN d)) := by
  cases h with
  | non => exact .base .non
  | bl b => exact .base (.bl b)
  | int i => exact .base (.int i)
  | str x => exact .base (.str x)
  | lst a b => exact .base (.lst a)
  | tup a b => exact .base (.tup a)
  | dic a => exact .base (.dK a)
def dInt : PyData → Bool
  | .int _ | .bool _ => true
  | _ => false
def dBool : PyData → Bool
  | .bool _ => true
  | _ => false
def dTup : PyData → Bool
  | .tuple _ => true
  | _ => false
def dLst : PyData → Bool
  | .list _ => true
  | _ => false
/-- a whole number -/
def dWhole : PyData → Bool
  | .int _ => true
  | _ => false
theorem kit_int (d : PyData) : kitB (tyN d) "int" = some (dInt d) := by
  cases d with
  | none => show kitB "NoneType" "int" = some false; decide +kernel
  | bool _ => show kitB "bool" "int" = some true; decide +kernel
  | int _ => show kitB "int" "int" = some true; decide +kernel
  | str _ => show kitB "str" "int" = some false; decide +kernel
  | list _ => show kitB "list" "int" = some false; decide +kernel
  | tuple _ => show kitB "tuple" "int" = some false; decide +kernel
  | dict _ => show kitB "dict" "int" = some false; decide +kernel
theorem kit_bool (d : PyData) : kitB (tyN d) "bool" = some (dBool d) := by
  cases d with
  | none => show kitB "NoneType" "bool" = some false; decide +kernel
  | bool _ => show kitB "bool" "bool" = some true; decide +kernel
  | int _ => show kitB "int" "bool" = some false; decide +kernel
  | str _ => show kitB "str" "bool" = some false; decide +kernel
  | list _ => show kitB "list" "bool" = some false; decide +kernel
  | tuple _ => show kitB "tuple" "bool" = some false; decide +kernel
  | dict _ => show kitB "dict" "bool" = some false; decide +kernel
theorem kit_tup (d : PyData) : kitB (tyN d) "tuple" = some (dTup d) := by
  cases d with
  | none => show kitB "NoneType" "tuple" = some false; decide +kernel
  | bool _ => show kitB "bool" "tuple" = some false; decide +kernel
  | int _ => show kitB "int" "tuple" = some false; decide +kernel
  | str _ => show kitB "str" "tuple" = some false; decide +kernel
  | list _ => show kitB "list" "tuple" = some false; decide +kernel
  | tuple _ => show kitB "tuple" "tuple" = some true; decide +kernel
  | dict _ => show kitB "dict" "tuple" = some false; decide +kernel
theorem kit_lst (d : PyData) : kitB (tyN d) "list" = some (dLst d) := by
  cases d with
  | none => show kitB "NoneType" "list" = some false; decide +kernel
  | bool _ => show kitB "bool" "list" = some false; decide +kernel
  | int _ => show kitB "int" "list" = some false; decide +kernel
  | str _ => show kitB "str" "list" = some false; decide +kernel
  | list _ => show kitB "list" "list" = some true; decide +kernel
  | tuple _ => show kitB "tuple" "list" = some false; decide +kernel
  | dict _ => show kitB "dict" "list" = some false; decide +kernel
theorem rIsi_of {K : PySem.W.Frag} {H : Hp} {v : V} {d : PyData} {c : String} {b : Bool} {Q : VK} (h : Dt H v d) (k : kitB (tyN d) c = some b) (q : Q (.bl b) H) : rIsi K [v, .ty c] H Q :=
  ⟨v, .ty c, _, _, b, rfl, .ty c, h.ty, kit_ty k, q⟩
/-! ### the refusals' classes -/
def ExcFacts (K : PySem.W.Frag) (C : Addr) : Prop := PySem.W.excIn K C He.veBase "ValueError.__new__" = true ∧ PySem.W.keepIn K (.ref C) = true ∧ PySem.W.subIn K (.ref C) (.type "BaseException") = some true ∧ PySem.W.typeIn K (.ref C) = some (.type "type")
theorem excFacts_of {K : PySem.W.Frag} {x : Str} (c : (He.Fa.exc x).ok K = true) : ExcFacts K (He.ga K x) := by
  obtain ⟨c1, c⟩ := He.ba c
  obtain ⟨c2, c⟩ := He.ba c
  obtain ⟨c3, c4⟩ := He.ba c
  exact ⟨c1, c2, of_decide_eq_true c3, of_decide_eq_true c4⟩
/-! ### tests -/
theorem itT {b : Bool} {A B : Prop} (hb : b = true) (h : A) : if b = true then A else B := by
  rw [if_pos hb]
  exact h
theorem itF {b : Bool} {A B : Prop} (hb : b = false) (h : B) : if b = true then A else B := by
  rw [if_neg (by rw [hb]; exact Bool.false_ne_true)]
  exact h
theorem it2 {b : Bool} {A B : Prop} (h1 : b = true → A) (h2 : b = false → B) : if b = true then A else B := by
  cases b with
  | true => exact itT rfl (h1 rfl)
  | false => exact itF rfl (h2 rfl)
theorem dI {i j : Int} : decide (V.int i = V.int j) = decide (i = j) := by
  by_cases e : i = j
  · subst e
    rw [decide_eq_true rfl, decide_eq_true rfl]
  · rw [decide_eq_false e, decide_eq_false fun z => e (V.int.inj z)]
/-! ### greatest divisors -/
theorem gcd_step (x y : Int) : Int.gcd y (x % y) = Int.gcd x y := by
  have e : x % y = x - y * (x / y) := Int.emod_def x y
  refine Nat.dvd_antisymm (Int.dvd_gcd ?_ (Int.gcd_dvd_left y (x % y))) (Int.dvd_gcd (Int.gcd_dvd_right x y) ?_)
  · have h1 : ((Int.gcd y (x % y) : Nat) : Int) ∣ y := Int.gcd_dvd_left y (x % y)
    have h2 : ((Int.gcd y (x % y) : Nat) : Int) ∣ x % y := Int.gcd_dvd_right y (x % y)
    have h3 : x = x % y + y * (x / y) := by omega
    rw [h3]
    have h4 : ((Int.gcd y (x % y) : Nat) : Int) ∣ x % y + y * (x / y) := Int.dvd_add h2 (Int.dvd_mul_of_dvd_left h1)
    rw [← h3]
    rw [← h3] at h4
    exact h4
  · rw [e]
    exact Int.dvd_sub (Int.gcd_dvd_left x y) (Int.dvd_mul_of_dvd_left (Int.gcd_dvd_right x y))
def dPair : PyData → Bool
  | .tuple ds => decide (ds.length = 2)
  | _ => false
theorem dPair_get {d : PyData} (h : dPair d = true) : ∃ a b, d = .tuple [a, b] := by
  cases d with
  | tuple ds =>
    have h : ds.length = 2 := of_decide_eq_true h
    match ds, h with
    | [a, b], _ => exact ⟨a, b, rfl⟩
  | _ => exact nomatch h
theorem dWhole_get {d : PyData} (h : dWhole d = true) : ∃ i, d = .int i := by
  cases d with
  | int i => exact ⟨i, rfl⟩
  | _ => exact nomatch h
/-- bounds (n, d), both at most m -/
def dBounds : PyData → Bool
  | .tuple [.int n, .int d] => decide (0 ≤ n) && decide (1 ≤ d)
  | _ => false
def dBoundsTo (m : Int) : PyData → Bool
  | .tuple [.int n, .int d] => decide (0 ≤ n) && decide (1 ≤ d) && decide (n ≤ m) && decide (d ≤ m)
  | _ => false
theorem dBounds_pair {d : PyData} (h : dPair d = false) : dBounds d = false := by
  match d, h with
  | .tuple [], _ => simp [dBounds]
  | .tuple [_], _ => simp [dBounds]
  | .tuple [_, _], h => exact nomatch h
  | .tuple (_ :: _ :: _ :: _), _ => simp [dBounds]
  | .none, _ => rfl
  | .bool _, _ => rfl
  | .int _, _ => rfl
  | .str _, _ => rfl
  | .list _, _ => rfl
  | .dict _, _ => rfl
theorem dBounds_get {d : PyData} (h : dBounds d = true) : ∃ n m : Int, d = .tuple [.int n, .int m] ∧ 0 ≤ n ∧ 1 ≤ m := by
  unfold dBounds at h
  split at h
  · obtain ⟨h1, h2⟩ := Bool.and_eq_true_iff.mp h
    exact ⟨_, _, rfl, of_decide_eq_true h1, of_decide_eq_true h2⟩
  · cases h
theorem dBoundsTo_no {m : Int} {d : PyData} (h : dBounds d = false) : dBoundsTo m d = false := by
  unfold dBoundsTo
  split
  · unfold dBounds at h
    simp only at h
    rw [h]
    rfl
  · rfl
/-! ### lists that grow, of data without lists -/
def AccL (H : Hp) (D : Addr) (ds : List PyData) : Prop := ∃ acc, H D = some (.lst acc) ∧ DtAll H acc ds ∧ noLs ds = true
theorem noLs_app {a b : List PyData} (h1 : noLs a = true) (h2 : noLs b = true) : noLs (a ++ b) = true := noLs_of fun d hd => by
  rcases List.mem_append.mp hd with e | e
  · exact noLs_mem h1 d e
  · exact noLs_mem h2 d e
theorem AccL.new {H : Hp} {D : Addr} : AccL (upd H D (.lst [])) D [] := ⟨[], upd_same, .nil, rfl⟩
theorem AccL.up {H H' : Hp} {D : Addr} {ds : List PyData} (h : AccL H D ds) (e : Ex H H') : AccL H' D ds := by
  obtain ⟨acc, h1, h2, h3⟩ := h
  exact ⟨acc, e _ _ h1, h2.up e, h3⟩
theorem AccL.app {H H2 : Hp} {D : Addr} {ds : List PyData} {v : V} {d : PyData} (h : AccL H D ds) (e : Ex H H2) (hv : Dt H2 v d) (nd : noL d = true) : ∃ acc, H2 D = some (.lst acc) ∧ acc.length = ds.length ∧ AccL (upd H2 D (.lst (acc ++ [v]))) D (ds ++ [d]) := by
  obtain ⟨acc, h1, h2, h3⟩ := h
  have hD := e _ _ h1
  have hL : IsL H2 D := ⟨acc, hD⟩
  refine ⟨acc, hD, h2.len, acc ++ [v], upd_same, DtAll.app ?_ (.cons ?_ .nil), noLs_app h3 ?_⟩
  · exact DtAll.monoB hL ExB.upd ds acc h3 (h2.up e)
  · exact Dt.monoB hL ExB.upd d v nd hv
  · show (noL d && true) = true
    rw [nd]
    rfl
theorem AccL.dt {H : Hp} {D : Addr} {ds : List PyData} (h : AccL H D ds) : Dt H (.ref D) (.list ds) := by
  obtain ⟨acc, h1, h2, _⟩ := h
  exact .lst h1 h2
/-! ### the draws -/
def PoolB (H : Hp) (pa : Addr) (n : Nat) : Prop := ∃ a b c : Int, H pa = some (.lst [.int a, .int b, .int c]) ∧ 0 ≤ c ∧ c + n ≤ 1099511627776
theorem PoolB.isL {H : Hp} {pa : Addr} {n : Nat} (h : PoolB H pa n) : IsL H pa := by
  obtain ⟨a, b, c, h, _⟩ := h
  exact ⟨_, h⟩
theorem PoolB.up {H H' : Hp} {pa : Addr} {n : Nat} (h : PoolB H pa n) (e : Ex H H') : PoolB H' pa n := by
  obtain ⟨a, b, c, h, h2⟩ := h
  exact ⟨a, b, c, e _ _ h, h2⟩
theorem PoolB.less {H : Hp} {pa : Addr} {n m : Nat} (h : PoolB H pa n) (l : m ≤ n) : PoolB H pa m := by
  obtain ⟨a, b, c, h, h2, h3⟩ := h
  exact ⟨a, b, c, h, h2, by omega⟩
theorem ExB.free {B : Addr} {H H' : Hp} (e : ExB B H H') (hB : IsL H' B) {p : Addr} (h : H' p = none) : H p = none := by
  cases q : H p with
  | none => rfl
  | some o =>
    by_cases z : p = B
    · obtain ⟨xs, hx⟩ := hB
      rw [z, hx] at h
      cases h
    · rw [e p o z q] at h
      cases h
theorem Dt.dr {B : Addr} {H H' : Hp} {v : V} {d : PyData} (h : Dt H v d) (hB : IsL H B) (e : ExB B H H') (n : noL d = true) : Dt H' v d := Dt.monoB hB e d v n h
/-! ### picked ones, in order -/
def sel (f : Nat → Bool) (g : Nat → PyData) : Nat → List PyData
  | 0 => []
  | n + 1 => sel f g n ++ (if f n = true then [g n] else [])
theorem sel_yes {f : Nat → Bool} {g : Nat → PyData} {n : Nat} (h : f n = true) : sel f g (n + 1) = sel f g n ++ [g n] := by
  show sel f g n ++ (if f n = true then [g n] else []) = _
  rw [if_pos h]
theorem sel_no {f : Nat → Bool} {g : Nat → PyData} {n : Nat} (h : f n = false) : sel f g (n + 1) = sel f g n := by
  show sel f g n ++ (if f n = true then [g n] else []) = _
  rw [if_neg (by rw [h]; exact Bool.false_ne_true), List.append_nil]
theorem sel_len (f : Nat → Bool) (g : Nat → PyData) : ∀ n : Nat, (sel f g n).length ≤ n
  | 0 => Nat.le_refl 0
  | n + 1 => by
    have h := sel_len f g n
    cases e : f n with
    | true => rw [sel_yes e, List.length_append]; exact Nat.add_le_add h (Nat.le_refl 1)
    | false => rw [sel_no e]; omega
theorem sel_congr {f f' : Nat → Bool} {g g' : Nat → PyData} : ∀ n : Nat, (∀ i, i < n → f i = f' i) → (∀ i, i < n → g i = g' i) → sel f g n = sel f' g' n
  | 0, _, _ => rfl
  | n + 1, h1, h2 => by
    show sel f g n ++ (if f n = true then [g n] else []) = sel f' g' n ++ (if f' n = true then [g' n] else [])
    rw [sel_congr n (fun i hi => h1 i (by omega)) (fun i hi => h2 i (by omega)), h1 n (by omega), h2 n (by omega)]
theorem _root_.Evl.Ex.keepB {B : Addr} {H0 H H' : Hp} (a : Ex H0 H) (n : H0 B = none) (b : ExB B H H') : Ex H0 H' := fun x o h => b x o (ne_of_none h n) (a x o h)
/-! ### what an expression is worth, as data -/
def EvD (te : TE) (σ : L2.St) (H : Hp) (d : PyData) : Prop := ∀ H1, Ex H H1 → ∀ Q : VK, (∀ v H2, Ex H1 H2 → Dt H2 v d → Q v H2) → te σ H1 Q
def EvN (te : TE) (σ : L2.St) (H : Hp) (ds : List PyData) : Prop := ∀ H1, Ex H H1 → ∀ Q : VK, (∀ p H2, H1 p = none → Ex H1 H2 → AccL H2 p ds → Q (.ref p) H2) → te σ H1 Q
def EvDA (ta : TA) (σ : L2.St) (H : Hp) (ds : List PyData) : Prop := ∀ H1, Ex H H1 → ∀ Q : List V → Hp → Prop, (∀ vs H2, Ex H1 H2 → DtAll H2 vs ds → Q vs H2) → ta σ H1 Q
section
variable {K : PySem.W.Frag} {σ : L2.St} {H H' : Hp} {ta tb te tl : TE} {t u : TT} {d : PyData} {ds : List PyData}
theorem EvD.mono (e : Ex H H') (h : EvD te σ H d) : EvD te σ H' d := fun H1 a Q q => h H1 (e.trans a) Q q
theorem EvN.mono (e : Ex H H') (h : EvN te σ H ds) : EvN te σ H' ds := fun H1 a Q q => h H1 (e.trans a) Q q
theorem EvN.ed (h : EvN te σ H ds) : EvD te σ H (.list ds) := fun H1 e Q q => h H1 e Q fun p H2 _ e2 a => q _ H2 e2 a.dt
theorem ed_of {v : V} (h : Ev te σ H v) (hd : Dt H v d) : EvD te σ H d := fun H1 e Q q => h H1 e Q fun H2 e2 => q v H2 e2 (hd.up (e.trans e2))
theorem ed_var {v : V} {i : Nat} (h : σ[i]? = some (some v)) (hd : Dt H v d) : EvD (tVar i) σ H d := ed_of (ev_var h) hd
theorem ed_int {i : Int} (h : Ev te σ H (.int i)) : EvD te σ H (.int i) := ed_of h (.int i)
theorem ev_int {i : Int} (h : EvD te σ H (.int i)) : Ev te σ H (.int i) := fun H1 e Q q => h H1 e Q fun v H2 e2 hd => by
  rw [hd.int_eq]
  exact q H2 e2
theorem ev_bl {b : Bool} (h : EvD te σ H (.bool b)) : Ev te σ H (.bl b) := fun H1 e Q q => h H1 e Q fun v H2 e2 hd => by
  rw [hd.bl_eq]
  exact q H2 e2
theorem eda_nil : EvDA tNil σ H [] := fun H1 _ _ q => q [] H1 (Ex.refl H1) .nil
theorem eda_cons {tr : TA} (h : EvD te σ H d) (hr : EvDA tr σ H ds) : EvDA (tCons te tr) σ H (d :: ds) := fun H1 e _ q =>
  h H1 e _ fun v H2 e2 hv => hr H2 (e.trans e2) _ fun vs H3 e3 hvs => q (v :: vs) H3 (e2.trans e3) (.cons (hv.up e3) hvs)
theorem ed_tup {tr : TA} (h : EvDA tr σ H ds) (hl : ds.length ≤ 100000) : EvD (tTup tr) σ H (.tuple ds) := fun H1 e _ q =>
  h H1 e _ fun vs H2 e2 hv => ⟨sz_of (by rw [hv.len]; exact hl), fun p hp => q _ _ (e2.trans (Ex.new hp)) (.tup upd_same (hv.up (Ex.new hp)))⟩
theorem en_lst {tr : TA} (h : EvDA tr σ H ds) (hl : ds.length ≤ 100000) (hn : noLs ds = true) : EvN (tLst tr) σ H ds := fun H1 e _ q =>
  h H1 e _ fun vs H2 e2 hv => ⟨sz_of (by rw [hv.len]; exact hl), fun p hp => q p _ (fresh_back e2 hp) (e2.trans (Ex.new hp)) ⟨vs, upd_same, hv.up (Ex.new hp), hn⟩⟩
/-- one turn of a comprehension -/
theorem lc_turn {H1 H2 : Hp} {D : Addr} {dsi : List PyData} {b : Bool} {σ2 : L2.St} (p : Ex H1 H2 ∧ AccL H2 D dsi) (hD : H1 D = none) (hz : dsi.length < 50000) (ht : EvT t σ2 H1 b) (he : b = true → EvD te σ2 H1 d) (nd : b = true → noL d = true) :
    t σ2 H2 fun c H3 => if c = true then te σ2 H3 fun y H4 => ∃ acc, H4 D = some (.lst acc) ∧ acc.length < sizeLine ∧ (Ex H1 (upd H4 D (.lst (acc ++ [y]))) ∧ AccL (upd H4 D (.lst (acc ++ [y]))) D (dsi ++ (if b = true then [d] else []))) else (Ex H1 H3 ∧ AccL H3 D (dsi ++ (if b = true then [d] else []))) := by
  obtain ⟨e1, a1⟩ := p
  refine ht H2 e1 _ fun H3 e3 => ?_
  cases b with
  | true =>
    refine itT rfl (he rfl H3 (e1.trans e3) _ fun v H4 e4 hv => ?_)
    obtain ⟨acc, h1, h2, h3⟩ := a1.app (e3.trans e4) hv (nd rfl)
    exact ⟨acc, h1, sz_lt (by omega), Ex.mut ((e1.trans e3).trans e4) hD, h3⟩
  | false =>
    refine itF rfl ⟨e1.trans e3, ?_⟩
    rw [if_neg Bool.false_ne_true, List.append_nil]
    exact a1.up e3
theorem take_flt {α β : Type} (f : α → Bool) (g : α → β) {ds : List α} {i : Nat} {d : α} (h : ds[i]? = some d) : ((ds.take (i + 1)).filter f).map g = ((ds.take i).filter f).map g ++ (if f d = true then [g d] else []) := by
  rw [List.take_add_one, h, List.filter_append, List.map_append]
  congr 1
  cases e : f d with
  | true => simp [e]
  | false => simp [e]
theorem flt_len {α β : Type} (f : α → Bool) (g : α → β) (ds : List α) (i : Nat) : (((ds.take i).filter f).map g).length ≤ ds.length := by
  rw [List.length_map]
  have h1 := List.length_filter_le f (ds.take i)
  have h2 : (ds.take i).length ≤ ds.length := by
    rw [List.length_take]
    exact Nat.min_le_right _ _
  omega
/-- [te for x in tl if t] over a list of data -/
theorem en_lcD {j : Nat} {vs : List Nat} (f : PyData → Bool) (g : PyData → PyData) (h : EvD tl σ H (.list ds)) (hz : ds.length ≤ 40000) (hw : ∀ x, wipe ((wipe σ vs).set j (some x)) vs = wipe σ vs)
    (ht : ∀ H1 v d, Ex H H1 → d ∈ ds → Dt H1 v d → EvT t ((wipe σ vs).set j (some v)) H1 (f d)) (he : ∀ H1 v d, Ex H H1 → d ∈ ds → Dt H1 v d → f d = true → EvD te ((wipe σ vs).set j (some v)) H1 (g d)) (hn : ∀ d, d ∈ ds → f d = true → noL (g d) = true) :
    EvN (tLc (iList K tl) (gName j) t te vs) σ H ((ds.filter f).map g) := fun H0 e Q q => h H0 e _ fun v H1 e1 hv => by
  obtain ⟨a, xs, rfl, ha, hx⟩ := hv.lst_get
  refine ⟨a, rfl, ⟨xs, sq_of ha⟩, fun D hD => lc_list (xs := xs) (fun i H' => Ex H1 H' ∧ AccL H' D (((ds.take i).filter f).map g)) ⟨Ex.new hD, AccL.new⟩ (fun i H' _ p => sq_of (p.1 a _ ha)) (fun i x H' hi p => ?_) (fun H' p => ?_)⟩
  · obtain ⟨d, hd, hxd⟩ := hx.get i hi
    have hm := List.mem_of_getElem? hd
    refine ⟨hw x, ?_⟩
    show t _ H' fun c H3 => if c = true then te _ H3 fun y H4 => ∃ acc, H4 D = some (.lst acc) ∧ acc.length < sizeLine ∧ (Ex H1 (upd H4 D (.lst (acc ++ [y]))) ∧ AccL (upd H4 D (.lst (acc ++ [y]))) D (((ds.take (i + 1)).filter f).map g)) else (Ex H1 H3 ∧ AccL H3 D (((ds.take (i + 1)).filter f).map g))
    rw [take_flt f g hd]
    exact lc_turn p hD (by have := flt_len f g ds i; omega) (ht H1 x d (e.trans e1) hm hxd) (fun hf => he H1 x d (e.trans e1) hm hxd hf) (hn d hm)
  · rw [hx.len, List.take_length] at p
    exact q D H' (fresh_back e1 hD) (e1.trans p.1) p.2
/-- .. over a tuple of data -/
theorem en_lcT {j : Nat} {vs : List Nat} (f : PyData → Bool) (g : PyData → PyData) (h : EvD tl σ H (.tuple ds)) (hz : ds.length ≤ 40000) (hw : ∀ x, wipe ((wipe σ vs).set j (some x)) vs = wipe σ vs)
    (ht : ∀ H1 v d, Ex H H1 → d ∈ ds → Dt H1 v d → EvT t ((wipe σ vs).set j (some v)) H1 (f d)) (he : ∀ H1 v d, Ex H H1 → d ∈ ds → Dt H1 v d → f d = true → EvD te ((wipe σ vs).set j (some v)) H1 (g d)) (hn : ∀ d, d ∈ ds → f d = true → noL (g d) = true) :
    EvN (tLc (iTup K tl) (gName j) t te vs) σ H ((ds.filter f).map g) := fun H0 e Q q => h H0 e _ fun v H1 e1 hv => by
  obtain ⟨a, xs, rfl, ha, hx⟩ := hv.tup_get
  refine ⟨a, rfl, ⟨xs, st_of ha⟩, fun D hD => lc_tup (xs := xs) (fun i H' => Ex H1 H' ∧ AccL H' D (((ds.take i).filter f).map g)) ⟨Ex.new hD, AccL.new⟩ (fun i H' _ p => st_of (p.1 a _ ha)) (fun i x H' hi p => ?_) (fun H' p => ?_)⟩
  · obtain ⟨d, hd, hxd⟩ := hx.get i hi
    have hm := List.mem_of_getElem? hd
    refine ⟨hw x, ?_⟩
    show t _ H' fun c H3 => if c = true then te _ H3 fun y H4 => ∃ acc, H4 D = some (.lst acc) ∧ acc.length < sizeLine ∧ (Ex H1 (upd H4 D (.lst (acc ++ [y]))) ∧ AccL (upd H4 D (.lst (acc ++ [y]))) D (((ds.take (i + 1)).filter f).map g)) else (Ex H1 H3 ∧ AccL H3 D (((ds.take (i + 1)).filter f).map g))
    rw [take_flt f g hd]
    exact lc_turn p hD (by have := flt_len f g ds i; omega) (ht H1 x d (e.trans e1) hm hxd) (fun hf => he H1 x d (e.trans e1) hm hxd hf) (hn d hm)
  · rw [hx.len, List.take_length] at p
    exact q D H' (fresh_back e1 hD) (e1.trans p.1) p.2
/-- .. over a range -/
def irng (lo hi : Int) : List Int := (List.range (hi - lo).toNat).map fun (i : Nat) => lo + (i : Int)
theorem irng_get {lo hi : Int} {i : Nat} (h : i < (hi - lo).toNat) : (irng lo hi)[i]? = some (lo + (i : Int)) := by
  unfold irng
  rw [List.getElem?_map, List.getElem?_range h]
  rfl
theorem irng_len (lo hi : Int) : (irng lo hi).length = (hi - lo).toNat := by
  unfold irng
  rw [List.length_map, List.length_range]
theorem irng_mem {lo hi x : Int} : x ∈ irng lo hi ↔ lo ≤ x ∧ x < hi := by
  unfold irng
  rw [List.mem_map]
  constructor
  · rintro ⟨i, hi, rfl⟩
    have := List.mem_range.mp hi
    omega
  · rintro ⟨h1, h2⟩
    exact ⟨(x - lo).toNat, List.mem_range.mpr (by omega), by omega⟩
theorem en_lcR2 {ta : TA} {j : Nat} {vs : List Nat} {lo hi : Int} (f : Int → Bool) (g : Int → PyData) (h : EvA ta σ H [.int lo, .int hi]) (hz : -1000000 ≤ lo ∧ hi ≤ 1000000 ∧ hi - lo ≤ 40000 ∧ lo ≤ 1000000 ∧ -1000000 ≤ hi) (hw : ∀ x, wipe ((wipe σ vs).set j (some x)) vs = wipe σ vs)
    (ht : ∀ x, lo ≤ x → x < hi → EvT t ((wipe σ vs).set j (some (.int x))) H (f x)) (he : ∀ x, lo ≤ x → x < hi → f x = true → EvD te ((wipe σ vs).set j (some (.int x))) H (g x)) (hn : ∀ x, lo ≤ x → x < hi → f x = true → noL (g x) = true) :
    EvN (tLc (iRng2 ta) (gName j) t te vs) σ H (((irng lo hi).filter f).map g) := fun H0 e Q q => h H0 e _ fun H1 e1 => by
  refine ⟨lo, hi, rfl, ⟨by omega, by omega, by omega, by omega⟩, fun D hD => lc_range (lo := lo) (n := (hi - lo).toNat) (fun i H' => Ex H1 H' ∧ AccL H' D ((((irng lo hi).take i).filter f).map g)) ⟨Ex.new hD, AccL.new⟩ (fun i H' hi' p => ?_) (fun H' p => ?_)⟩
  · refine ⟨hw _, ?_⟩
    show t _ H' fun c H3 => if c = true then te _ H3 fun y H4 => ∃ acc, H4 D = some (.lst acc) ∧ acc.length < sizeLine ∧ (Ex H1 (upd H4 D (.lst (acc ++ [y]))) ∧ AccL (upd H4 D (.lst (acc ++ [y]))) D ((((irng lo hi).take (i + 1)).filter f).map g)) else (Ex H1 H3 ∧ AccL H3 D ((((irng lo hi).take (i + 1)).filter f).map g))
    rw [take_flt f g (irng_get hi')]
    refine lc_turn p hD ?_ ((ht _ (by omega) (by omega)).mono (e.trans e1)) (fun hf => (he _ (by omega) (by omega) hf).mono (e.trans e1)) (hn _ (by omega) (by omega))
    have := flt_len f g (irng lo hi) i
    rw [irng_len] at this
    omega
  · rw [List.take_of_length_le (by rw [irng_len]; exact Nat.le_refl _)] at p
    exact q D H' (fresh_back e1 hD) (e1.trans p.1) p.2
theorem en_lcR1 {ta : TA} {j : Nat} {vs : List Nat} {hi : Int} (f : Int → Bool) (g : Int → PyData) (h : EvA ta σ H [.int hi]) (hz : -1000000 ≤ hi ∧ hi ≤ 40000) (hw : ∀ x, wipe ((wipe σ vs).set j (some x)) vs = wipe σ vs)
    (ht : ∀ x, 0 ≤ x → x < hi → EvT t ((wipe σ vs).set j (some (.int x))) H (f x)) (he : ∀ x, 0 ≤ x → x < hi → f x = true → EvD te ((wipe σ vs).set j (some (.int x))) H (g x)) (hn : ∀ x, 0 ≤ x → x < hi → f x = true → noL (g x) = true) :
    EvN (tLc (iRng1 ta) (gName j) t te vs) σ H (((irng 0 hi).filter f).map g) := fun H0 e Q q => h H0 e _ fun H1 e1 => by
  refine ⟨hi, rfl, by omega, by omega, fun D hD => lc_range (lo := 0) (n := hi.toNat) (fun i H' => Ex H1 H' ∧ AccL H' D ((((irng 0 hi).take i).filter f).map g)) ⟨Ex.new hD, AccL.new⟩ (fun i H' hi' p => ?_) (fun H' p => ?_)⟩
  · refine ⟨hw _, ?_⟩
    show t _ H' fun c H3 => if c = true then te _ H3 fun y H4 => ∃ acc, H4 D = some (.lst acc) ∧ acc.length < sizeLine ∧ (Ex H1 (upd H4 D (.lst (acc ++ [y]))) ∧ AccL (upd H4 D (.lst (acc ++ [y]))) D ((((irng 0 hi).take (i + 1)).filter f).map g)) else (Ex H1 H3 ∧ AccL H3 D ((((irng 0 hi).take (i + 1)).filter f).map g))
    rw [take_flt f g (irng_get (lo := 0) (hi := hi) (by omega))]
    refine lc_turn p hD ?_ ((ht _ (by omega) (by omega)).mono (e.trans e1)) (fun hf => (he _ (by omega) (by omega) hf).mono (e.trans e1)) (hn _ (by omega) (by omega))
    have := flt_len f g (irng 0 hi) i
    rw [irng_len] at this
    omega
  · rw [List.take_of_length_le (by rw [irng_len]; omega)] at p
    exact q D H' (fresh_back e1 hD) (e1.trans p.1) p.2
end
/-! ### == of data -/
mutual
def flat1 : PyData → Bool
  | .none | .bool _ | .int _ => true
  | _ => false
end
theorem canLay_ints : ∀ ns : List Int, PyData.canLayAll0 (ns.map PyData.int) = true
  | [] => rfl
  | n :: ns => by
    show ((PyData.int n).canLay0 && PyData.canLayAll0 (ns.map PyData.int)) = true
    rw [canLay_ints ns]
    rfl
theorem depth_ints : ∀ ns : List Int, PyData.depthAll (ns.map PyData.int) = 0
  | [] => rfl
  | n :: ns => by
    show max (PyData.depth (.int n)) (PyData.depthAll (ns.map PyData.int)) = 0
    rw [depth_ints ns]
    rfl
theorem shaped_ints (ns : List Int) : SeqAt.shaped (.list (ns.map PyData.int)) = true := by
  show (PyData.canLayAll0 (ns.map PyData.int) && decide (PyData.depthAll (ns.map PyData.int) + 1 ≤ 64)) = true
  rw [canLay_ints, depth_ints]
  rfl
theorem shaped_intsT (ns : List Int) : SeqAt.shaped (.tuple (ns.map PyData.int)) = true := by
  show (PyData.canLayAll0 (ns.map PyData.int) && decide (PyData.depthAll (ns.map PyData.int) + 1 ≤ 64)) = true
  rw [canLay_ints, depth_ints]
  rfl
/-- a list (tuple) of things of at most k deep -/
theorem lay_all {ds : List PyData} {k : Nat} (h : ∀ d ∈ ds, d.canLay0 = true ∧ d.depth ≤ k) : PyData.canLayAll0 ds = true ∧ PyData.depthAll ds ≤ k := by
  induction ds with
  | nil => exact ⟨rfl, Nat.zero_le _⟩
  | cons d ds ih =>
    obtain ⟨h1, h2⟩ := h d List.mem_cons_self
    obtain ⟨h3, h4⟩ := ih fun x hx => h x (List.mem_cons_of_mem _ hx)
    refine ⟨?_, ?_⟩
    · show (d.canLay0 && PyData.canLayAll0 ds) = true
      rw [h1, h3]
      rfl
    · show max d.depth (PyData.depthAll ds) ≤ k
      omega
theorem lay_list {ds : List PyData} {k : Nat} (h : ∀ d ∈ ds, d.canLay0 = true ∧ d.depth ≤ k) : (PyData.list ds).canLay0 = true ∧ (PyData.list ds).depth ≤ k + 1 := by
  obtain ⟨h1, h2⟩ := lay_all h
  exact ⟨h1, Nat.succ_le_succ h2⟩
theorem lay_tup {ds : List PyData} {k : Nat} (h : ∀ d ∈ ds, d.canLay0 = true ∧ d.depth ≤ k) : (PyData.tuple ds).canLay0 = true ∧ (PyData.tuple ds).depth ≤ k + 1 := by
  obtain ⟨h1, h2⟩ := lay_all h
  exact ⟨h1, Nat.succ_le_succ h2⟩
theorem lay_pair (a b : Int) : (PyData.tuple [.int a, .int b]).canLay0 = true ∧ (PyData.tuple [.int a, .int b]).depth ≤ 1 := ⟨rfl, Nat.le_refl 1⟩
theorem shaped_of {d : PyData} {k : Nat} (h : d.canLay0 = true ∧ d.depth ≤ k) (hk : k ≤ 64) : SeqAt.shaped d = true := by
  show (d.canLay0 && decide (d.depth ≤ 64)) = true
  rw [h.1, decide_eq_true (by omega)]
  rfl
theorem eqv_self {d : PyData} (h : d.canLay0 = true) : PyData.eqv d d = true := SeqAt.eqv_refl d h
section
variable {K : PySem.W.Frag} {σ : L2.St} {H H' : Hp} {ta tb te tl : TE} {t u : TT} {d e : PyData} {ds : List PyData}
theorem rv_eqD {x y : V} (hx : Dt H x d) (hy : Dt H y e) (sd : SeqAt.shaped d = true) (se : SeqAt.shaped e = true) : RV (rEqD K) x y H (.bl (PyData.eqv d e)) := fun H1 a _ q =>
  ⟨d, e, (hx.up a).dp _ _ (SeqAt.canLay_of_shaped sd), (hy.up a).dp _ _ (SeqAt.canLay_of_shaped se), sd, se, q H1 (Ex.refl H1)⟩
theorem rv_neD {x y : V} (hx : Dt H x d) (hy : Dt H y e) (sd : SeqAt.shaped d = true) (se : SeqAt.shaped e = true) : RV (rNeD K) x y H (.bl (!PyData.eqv d e)) := fun H1 a _ q =>
  ⟨d, e, (hx.up a).dp _ _ (SeqAt.canLay_of_shaped sd), (hy.up a).dp _ _ (SeqAt.canLay_of_shaped se), sd, se, q H1 (Ex.refl H1)⟩
theorem ev_eqD (h1 : EvD ta σ H d) (h2 : EvD tb σ H e) (sd : SeqAt.shaped d = true) (se : SeqAt.shaped e = true) : Ev (tOp (rEqD K) ta tb) σ H (.bl (PyData.eqv d e)) := fun H1 a Q q =>
  h1 H1 a _ fun x H2 e2 hx => h2 H2 (a.trans e2) _ fun y H3 e3 hy => rv_eqD (hx.up e3) hy sd se H3 (Ex.refl H3) Q fun H4 e4 => q H4 ((e2.trans e3).trans e4)
theorem ev_neD (h1 : EvD ta σ H d) (h2 : EvD tb σ H e) (sd : SeqAt.shaped d = true) (se : SeqAt.shaped e = true) : Ev (tOp (rNeD K) ta tb) σ H (.bl (!PyData.eqv d e)) := fun H1 a Q q =>
  h1 H1 a _ fun x H2 e2 hx => h2 H2 (a.trans e2) _ fun y H3 e3 hy => rv_neD (hx.up e3) hy sd se H3 (Ex.refl H3) Q fun H4 e4 => q H4 ((e2.trans e3).trans e4)
/-- [..] == [], [..] != [] -/
theorem eqv_nil : PyData.eqv (.list ds) (.list []) = ds.isEmpty := by
  cases ds with
  | nil => rfl
  | cons d ds => rfl
theorem ev_eqNil (h1 : EvN ta σ H ds) (sd : SeqAt.shaped (.list ds) = true) : Ev (tOp (rEqD K) ta (tLst tNil)) σ H (.bl ds.isEmpty) := by
  have h := ev_eqD (K := K) h1.ed (EvN.ed (en_lst (H := H) (σ := σ) eda_nil (by decide) rfl)) sd rfl
  rw [eqv_nil] at h
  exact h
theorem ev_neNil (h1 : EvN ta σ H ds) (sd : SeqAt.shaped (.list ds) = true) : Ev (tOp (rNeD K) ta (tLst tNil)) σ H (.bl (!ds.isEmpty)) := by
  have h := ev_neD (K := K) h1.ed (EvN.ed (en_lst (H := H) (σ := σ) eda_nil (by decide) rfl)) sd rfl
  rw [eqv_nil] at h
  exact h
theorem ev_isi {c : String} {b : Bool} {v : V} (h : Ev te σ H v) (hd : Dt H v d) (k : kitB (tyN d) c = some b) : Ev (tCB (rIsi K) (tCons te (tCons (tC (.ty c)) tNil))) σ H (.bl b) := fun H1 a Q q =>
  h H1 a _ fun H2 e2 => rIsi_of (hd.up (a.trans e2)) k (q H2 e2)
end
/-! ### loops -/
theorem s_forZ {ta : TA} {j : Nat} {lo hi : Int} {tu : TS} {D : Ends} {σ : L2.St} {H : Hp} (h : EvA ta σ H [.int lo, .int hi]) (hb : -1000000 ≤ lo ∧ lo ≤ 1000000 ∧ -1000000 ≤ hi ∧ hi ≤ 1000000) (Pv : Nat → L2.St → Hp → Prop) (h0 : ∀ H1, Ex H H1 → Pv 0 σ H1)
    (hs : ∀ (i : Nat) σ' H', lo + (i : Int) < hi → Pv i σ' H' → tu { D with nx := Pv (i + 1), ct := Pv (i + 1), bk := D.nx } (σ'.set j (some (.int (lo + (i : Int))))) H') (hd : ∀ σ' H', Pv (hi - lo).toNat σ' H' → D.nx σ' H') : tFor (iRng2 ta) (gName j) tu D σ H :=
  h H (Ex.refl H) _ fun H1 e => ⟨lo, hi, rfl, ⟨by omega, by omega, by omega, by omega⟩, for_range (lo := lo) (n := (hi - lo).toNat) Pv (h0 H1 e) (fun i σ' H' hi p => hs i σ' H' (by omega) p) hd⟩
/-! ### the fractions within bounds -/
/-- the row of the fractions with the bottom b, tops from -n on, j of them looked at; all rows to the bottom i -/
def frow (n b : Int) (j : Nat) : List PyData := sel (fun t => decide (Int.gcd (-n + (t : Int)) b = 1)) (fun t => .tuple [.int (-n + (t : Int)), .int b]) j
def frows (n : Int) : Nat → List PyData
  | 0 => []
  | i + 1 => frows n i ++ frow n (1 + (i : Int)) (2 * n + 1).toNat
theorem frows_len {n : Int} (h0 : 0 ≤ n) (h : n ≤ 60) : ∀ i : Nat, (frows n i).length ≤ 121 * i
  | 0 => Nat.le_refl 0
  | i + 1 => by
    show (frows n i ++ frow n (1 + (i : Int)) (2 * n + 1).toNat).length ≤ _
    have h1 := frows_len h0 h i
    have h2 : (frow n (1 + (i : Int)) (2 * n + 1).toNat).length ≤ (2 * n + 1).toNat := sel_len _ _ _
    rw [List.length_append]
    omega
/-! ### statements over data -/
section
variable {K : PySem.W.Frag} {σ : L2.St} {H H' : Hp} {ta tb te tl : TE} {t u : TT} {d e : PyData} {ds : List PyData} {D : Ends} {tz : TS}
theorem q_asgN {i : Nat} (h : EvN te σ H ds) (k : ∀ p H1, H p = none → Ex H H1 → AccL H1 p ds → tz D (σ.set i (some (.ref p))) H1) : tSeq (tAsg te (gName i)) tz D σ H := h H (Ex.refl H) _ k
theorem s_asgN {i : Nat} (h : EvN te σ H ds) (k : ∀ p H1, H p = none → Ex H H1 → AccL H1 p ds → D.nx (σ.set i (some (.ref p))) H1) : tAsg te (gName i) D σ H := h H (Ex.refl H) _ k
theorem q_asgD {i : Nat} (h : EvD te σ H d) (k : ∀ v H1, Ex H H1 → Dt H1 v d → tz D (σ.set i (some v)) H1) : tSeq (tAsg te (gName i)) tz D σ H := h H (Ex.refl H) _ k
theorem s_asgD {i : Nat} (h : EvD te σ H d) (k : ∀ v H1, Ex H H1 → Dt H1 v d → D.nx (σ.set i (some v)) H1) : tAsg te (gName i) D σ H := h H (Ex.refl H) _ k
theorem s_retN (h : EvN te σ H ds) (k : ∀ p H1, H p = none → Ex H H1 → AccL H1 p ds → D.rt (.ref p) H1) : tRet te D σ H := h H (Ex.refl H) _ k
theorem s_retD (h : EvD te σ H d) (k : ∀ v H1, Ex H H1 → Dt H1 v d → D.rt v H1) : tRet te D σ H := h H (Ex.refl H) _ k
end
/-! ### the layer's rules, the written part told by name -/
section
variable {X : Cx} {tg l e : Expr} {tl te : TE} {pos : Pos}
theorem pi_listK (K : PySem.W.Frag) (hl : PE X l tl) (hK : X.K = K := by rfl) : PI X tg l (iList K tl) := by
  subst hK
  exact pi_list hl
theorem pi_tupK (K : PySem.W.Frag) (hl : PE X l tl) (hK : X.K = K := by rfl) : PI X tg l (iTup K tl) := by
  subst hK
  exact pi_tup hl
theorem pe_revLK {k : Nat} {p1 p2 p3 : Pos} (K : PySem.W.Frag) (he : PE X e te) (hK : X.K = K := by rfl) : PE X (.Subscript e (.Slice none none (some (.UnaryOp .USub (.Constant (.int 1) k p1) p2)) p3) pos) (tRevL K te) := by
  subst hK
  exact pe_revL he
end
/-! ### how many turns a law takes -/
theorem turns_ok (m L : Int) (hm : 1 ≤ m) (hL : 0 ≤ L) : 1 ≤ (if (if L < m then L else m) > 1 then (if L < m then L else m) else 1) ∧ (if (if L < m then L else m) > 1 then (if L < m then L else m) else 1) ≤ m := by
  split <;> split <;> omega
theorem PoolB.dr {H : Hp} {pa : Addr} {n : Nat} {p : Addr} {o : HO} (h : PoolB H pa n) (hp : H p = none) : PoolB (upd H p o) pa n := h.up (Ex.new hp)
/-! ### sizes of drawn numbers -/
def big (i : Nat) : Int := 1000000 ^ i
theorem big_succ (i : Nat) : big (i + 1) = big i * 1000000 := Int.pow_succ 1000000 i
theorem big_pos (i : Nat) : 0 < big i := Int.pow_pos (by decide)
theorem big_le : ∀ i : Nat, i < 6 → big i ≤ 1000000000000000000000000000000 := by decide +kernel
theorem big_far {v w : Int} {i : Nat} (h0 : 0 ≤ v) (h : v < big i) (w0 : 0 ≤ w) (w1 : w < 1000000) : 0 ≤ v * 1000000 + w ∧ v * 1000000 + w < big (i + 1) := by
  rw [big_succ]
  omega
/-! ### the primes below a thousand, as the laws find them -/
def primesL : List Int := (irng 2 1000).filter fun p => ((irng 2 32).filter fun d => decide (p % d = 0) && decide (d < p)).isEmpty
theorem primesL_len : primesL.length = 168 := by decide +kernel
/-- what is_prime reckons -/
def primeB (n : Int) : Bool := decide (2 ≤ n) && decide (n < 1000) && (irng 2 32).all fun k => decide (n < k * k) || !decide (n % k = 0)
theorem primesL_prime : ∀ p ∈ primesL, primeB p = true := by decide +kernel
theorem primeB_lo {n : Int} (h : primeB n = true) : 2 ≤ n ∧ n < 1000 := by
  unfold primeB at h
  obtain ⟨h, _⟩ := Bool.and_eq_true_iff.mp h
  obtain ⟨h1, h2⟩ := Bool.and_eq_true_iff.mp h
  exact ⟨of_decide_eq_true h1, of_decide_eq_true h2⟩
theorem primesL_lo {p : Int} (h : p ∈ primesL) : 2 ≤ p ∧ p < 1000 := primeB_lo (primesL_prime p h)
theorem primesL_get {i : Nat} (h : i < 168) : ∃ p, (primesL.map V.int)[i]? = some (.int p) ∧ p ∈ primesL := by
  have h2 : i < primesL.length := by rw [primesL_len]; exact h
  refine ⟨primesL[i], ?_, List.getElem_mem h2⟩
  rw [List.getElem?_map, List.getElem?_eq_getElem h2]
  rfl
/-! ### fractions and primes as data -/
def dFrac : PyData → Bool
  | .tuple [.int t, .int b] => decide (1 ≤ b) && decide (Int.gcd t b = 1)
  | _ => false
def dPrime : PyData → Bool
  | .int n => primeB n
  | _ => false
theorem dFrac_pair {d : PyData} (h : dPair d = false) : dFrac d = false := by
  match d, h with
  | .tuple [], _ => simp [dFrac]
  | .tuple [_], _ => simp [dFrac]
  | .tuple [_, _], h => exact nomatch h
  | .tuple (_ :: _ :: _ :: _), _ => simp [dFrac]
  | .none, _ => rfl
  | .bool _, _ => rfl
  | .int _, _ => rfl
  | .str _, _ => rfl
  | .list _, _ => rfl
  | .dict _, _ => rfl
theorem dFrac_get {d : PyData} (h : dFrac d = true) : ∃ t b : Int, d = .tuple [.int t, .int b] ∧ 1 ≤ b ∧ Int.gcd t b = 1 := by
  unfold dFrac at h
  split at h
  · obtain ⟨h1, h2⟩ := Bool.and_eq_true_iff.mp h
    exact ⟨_, _, rfl, of_decide_eq_true h1, of_decide_eq_true h2⟩
  · cases h
theorem dFrac_of {t b : Int} (h1 : 1 ≤ b) (h2 : Int.gcd t b = 1) : dFrac (.tuple [.int t, .int b]) = true := by
  show (decide (1 ≤ b) && decide (Int.gcd t b = 1)) = true
  rw [decide_eq_true h1, decide_eq_true h2]
  rfl
theorem primeB_no {n k : Int} (h1 : 2 ≤ k) (h2 : k * k ≤ n) (h3 : n % k = 0) : primeB n = false := by
  cases e : primeB n with
  | false => rfl
  | true =>
    have hn := primeB_lo e
    have hk : k < 32 := by
      by_cases z : k < 32
      · exact z
      · have : 32 * 32 ≤ k * k := Int.mul_le_mul (by omega) (by omega) (by decide) (by omega)
        omega
    unfold primeB at e
    obtain ⟨_, e⟩ := Bool.and_eq_true_iff.mp e
    have e := List.all_eq_true.mp e k (irng_mem.mpr ⟨h1, hk⟩)
    rw [decide_eq_false (by omega), decide_eq_true h3] at e
    exact nomatch e
theorem primeB_yes {n k : Int} (h0 : 2 ≤ n) (h1 : n < 1000) (hk : 2 ≤ k) (h2 : n < k * k) (h3 : ∀ j : Int, 2 ≤ j → j < k → n % j ≠ 0) : primeB n = true := by
  unfold primeB
  rw [decide_eq_true h0, decide_eq_true h1, Bool.true_and, Bool.true_and]
  refine List.all_eq_true.mpr fun j hj => ?_
  obtain ⟨j0, j1⟩ := irng_mem.mp hj
  by_cases z : j < k
  · rw [decide_eq_false (h3 j j0 z)]
    exact Bool.or_true _
  · have : k * k ≤ j * j := Int.mul_le_mul (by omega) (by omega) (by omega) (by omega)
    rw [decide_eq_true (by omega)]
    rfl
/-! a prime that does not divide has nothing in common -/
theorem primeB_div {p g : Int} (hp : primeB p = true) (hg : g ∣ p) (g0 : 0 < g) : g = 1 ∨ g = p := by
  obtain ⟨lo, hi⟩ := primeB_lo hp
  obtain ⟨c, hc⟩ := hg
  have hg2 : g ≤ p := Int.le_of_dvd (by omega) ⟨c, hc⟩
  have c0 : 0 < c := by
    by_cases z : 0 < c
    · exact z
    · have : g * c ≤ g * 0 := Int.mul_le_mul_of_nonneg_left (by omega) (by omega)
      omega
  by_cases z1 : g = 1
  · exact .inl z1
  · by_cases z2 : c = 1
    · rw [z2] at hc
      exact .inr (by omega)
    · exfalso
      by_cases z : g * g ≤ p
      · have := primeB_no (k := g) (by omega) z (Int.emod_eq_zero_of_dvd ⟨c, hc⟩)
        rw [hp] at this
        cases this
      · have hcg : c ≤ g := by
          by_cases y : c ≤ g
          · exact y
          · have : g * g ≤ g * c := Int.mul_le_mul_of_nonneg_left (by omega) (by omega)
            omega
        have : c * c ≤ g * c := Int.mul_le_mul_of_nonneg_right hcg (by omega)
        have := primeB_no (k := c) (n := p) (by omega) (by omega) (Int.emod_eq_zero_of_dvd ⟨g, by rw [hc, Int.mul_comm]⟩)
        rw [hp] at this
        cases this
theorem primeB_gcd {p b : Int} (hp : primeB p = true) (h : b % p ≠ 0) : Int.gcd b p = 1 := by
  have lo := primeB_lo hp
  have h0 : Int.gcd b p ≠ 0 := fun e => by
    have := Int.gcd_dvd_right b p
    rw [e] at this
    have := Int.zero_dvd.mp this
    omega
  rcases primeB_div hp (Int.gcd_dvd_right b p) (by omega) with e | e
  · omega
  · have hd := Int.gcd_dvd_left b p
    rw [e] at hd
    exact absurd (Int.emod_eq_zero_of_dvd hd) h
theorem dvd_left_of {p a b : Int} (d : p ∣ a * b) (h : Int.gcd p b = 1) : p ∣ a := by
  rw [← Int.natAbs_dvd_natAbs] at d ⊢
  rw [Int.natAbs_mul] at d
  rw [Int.gcd_eq_natAbs_gcd_natAbs] at h
  exact Nat.Coprime.dvd_of_dvd_mul_right h d
/-! ### Euclid's rows -/
structure EInv (m n ab l fa f t ta s : Int) : Prop where
  hl : l = f * n + t * m
  ha : ab = fa * n + ta * m
  hs : f * ta - fa * t = s
  sg : s = 1 ∨ s = -1
  l0 : 0 ≤ l
  la : l < ab
  am : ab ≤ m
  f1 : 1 ≤ s * f
  fa0 : s * fa ≤ 0
theorem EInv.tot {m n ab l fa f t ta s : Int} (h : EInv m n ab l fa f t ta s) : s * f * ab + (-(s * fa)) * l = m := by
  obtain ⟨hl, ha, hs, sg, _⟩ := h
  have e1 : f * ab - fa * l = m * s := by
    rw [ha, hl]
    grind
  rcases sg with rfl | rfl
  · grind
  · grind
theorem EInv.step {m n ab l fa f t ta s : Int} (h : EInv m n ab l fa f t ta s) (hl : 0 < l) : EInv m n l (ab - ab / l * l) f (fa - ab / l * f) (ta - ab / l * t) t (-s) := by
  obtain ⟨h1, h2, h3, sg, l0, la, am, f1, fa0⟩ := h
  have e := Int.emod_add_ediv_mul ab l
  have m0 := Int.emod_nonneg ab (show l ≠ 0 by omega)
  have m1 := Int.emod_lt_of_pos ab hl
  have q1 : 1 ≤ ab / l := by
    have := Int.ediv_le_ediv hl (show l ≤ ab by omega)
    rw [Int.ediv_self (by omega)] at this
    exact this
  refine ⟨?_, h1, ?_, ?_, by omega, by omega, by omega, ?_, ?_⟩
  · generalize ab / l = q at *
    grind
  · generalize ab / l = q at *
    grind
  · rcases sg with rfl | rfl
    · exact .inr rfl
    · exact .inl rfl
  · have : 1 * 1 ≤ ab / l * (s * f) := Int.mul_le_mul q1 f1 (by decide) (by omega)
    generalize ab / l = q at *
    have e2 : -s * (fa - q * f) = -(s * fa) + q * (s * f) := by grind
    rw [e2]
    omega
  · rw [Int.neg_mul]
    omega
theorem EInv.size {m n ab l fa f t ta s : Int} (h : EInv m n ab l fa f t ta s) : f.natAbs ≤ m.natAbs ∧ (0 < l → fa.natAbs ≤ m.natAbs) := by
  have tot := h.tot
  obtain ⟨_, _, _, sg, l0, la, am, f1, fa0⟩ := h
  have a1 : s * f * 1 ≤ s * f * ab := Int.mul_le_mul_of_nonneg_left (by omega) (by omega)
  have a2 : 0 ≤ -(s * fa) * l := Int.mul_nonneg (by omega) l0
  refine ⟨?_, fun hl => ?_⟩
  · rcases sg with rfl | rfl <;> omega
  · have a3 : -(s * fa) * 1 ≤ -(s * fa) * l := Int.mul_le_mul_of_nonneg_left (by omega) (by omega)
    rcases sg with rfl | rfl <;> omega
def Row (m n k l f : Int) : Prop := ∃ ab fa t ta s : Int, EInv m n ab l fa f t ta s ∧ l ≤ k ∧ (k < ab ∨ (f = 1 ∧ fa = 0 ∧ ab = m))
theorem row_inv {p a l f : Int} (h : Row p (a % p) 1 l f) (hp : 1 < p) (hg : Int.gcd a p = 1) : l = 1 ∧ f % p * a % p = 1 := by
  obtain ⟨ab, fa, t, ta, s, I, hk, hx⟩ := h
  have tot := I.tot
  have hl0 := I.l0
  have hg2 : Int.gcd p (a % p) = 1 := by rw [gcd_step, hg]
  have l1 : l = 1 := by
    by_cases z : l = 1
    · exact z
    · exfalso
      have z : l = 0 := by omega
      subst z
      have e := I.hl
      have d : p ∣ f * (a % p) := ⟨-t, by rw [Int.mul_neg, Int.mul_comm p t]; omega⟩
      have df : p ∣ f := dvd_left_of d hg2
      obtain ⟨c, hc⟩ := df
      have f1 := I.f1
      have sfp : p ≤ s * f := by
        refine Int.le_of_dvd (by omega) ⟨s * c, ?_⟩
        rw [hc]
        grind
      rw [Int.mul_zero, Int.add_zero] at tot
      rcases hx with h | ⟨rfl, _, _⟩
      · have : s * f * 2 ≤ s * f * ab := Int.mul_le_mul_of_nonneg_left (by omega) (by omega)
        omega
      · rcases I.sg with rfl | rfl <;> omega
  refine ⟨l1, ?_⟩
  have e := I.hl
  rw [l1] at e
  have h1 : f % p * a % p = f * (a % p) % p := by
    rw [Int.mul_emod, Int.emod_emod_of_dvd f (Int.dvd_refl p), ← Int.mul_emod, Int.mul_emod f (a % p), Int.emod_emod_of_dvd a (Int.dvd_refl p), ← Int.mul_emod]
  rw [h1, show f * (a % p) = 1 + p * (-t) by rw [Int.mul_neg, Int.mul_comm p t]; omega, Int.add_mul_emod_self_left]
  exact Int.emod_eq_of_lt (by decide) hp
/-! ### the rest of a fraction by a prime -/
def restI (t b p : Int) : Int := ((irng 0 p).find? fun r => decide ((r * b - t) % p = 0)).getD 0
def restD (t b p : Int) : PyData := if b % p = 0 then .none else .int (restI t b p)
theorem restI_eq {t b p r : Int} (hg : Int.gcd b p = 1) (r0 : 0 ≤ r) (r1 : r < p) (h : (r * b - t) % p = 0) : restI t b p = r := by
  unfold restI
  cases e : (irng 0 p).find? fun r => decide ((r * b - t) % p = 0) with
  | none =>
    have := List.find?_eq_none.mp e r (irng_mem.mpr ⟨r0, r1⟩)
    rw [decide_eq_true h] at this
    exact absurd rfl this
  | some x =>
    have h1 := List.find?_some e
    have h1 : (x * b - t) % p = 0 := of_decide_eq_true h1
    obtain ⟨x0, x1⟩ := irng_mem.mp (List.mem_of_find?_eq_some e)
    have d : p ∣ (x - r) * b := by
      have d1 := Int.dvd_sub (Int.dvd_of_emod_eq_zero h1) (Int.dvd_of_emod_eq_zero h)
      have : x * b - t - (r * b - t) = (x - r) * b := by grind
      rw [this] at d1
      exact d1
    have d2 : p ∣ x - r := dvd_left_of d (by rw [Int.gcd_comm]; exact hg)
    obtain ⟨c, hc⟩ := d2
    show x = r
    rcases Int.lt_trichotomy c 0 with z | z | z
    · have : p * c ≤ p * (-1) := Int.mul_le_mul_of_nonneg_left (by omega) (by omega)
      omega
    · rw [z] at hc
      omega
    · have : p * 1 ≤ p * c := Int.mul_le_mul_of_nonneg_left (by omega) (by omega)
      omega
theorem rest_ok {t b p i : Int} (hp : primeB p = true) (hb : b % p ≠ 0) (hi : i * b % p = 1) : restD t b p = .int (t * i % p) ∧ 0 ≤ t * i % p ∧ t * i % p < p ∧ (t * i % p * b - t) % p = 0 := by
  have lo := primeB_lo hp
  have r0 := Int.emod_nonneg (t * i) (show p ≠ 0 by omega)
  have r1 := Int.emod_lt_of_pos (t * i) (show 0 < p by omega)
  have h : (t * i % p * b - t) % p = 0 := by
    have e1 := Int.emod_add_mul_ediv (t * i) p
    have e2 := Int.emod_add_mul_ediv (i * b) p
    rw [hi] at e2
    generalize t * i / p = x at e1
    generalize i * b / p = y at e2
    generalize t * i % p = r at e1
    refine Int.emod_eq_zero_of_dvd ⟨t * y - x * b, ?_⟩
    grind
  refine ⟨?_, r0, r1, h⟩
  unfold restD
  rw [if_neg hb, restI_eq (primeB_gcd hp hb) r0 r1 h]
def dI0 : PyData → Int
  | .int i => i
  | _ => 0
theorem flt_ints (f : Int → Bool) (F : PyData → Bool) (h : ∀ n, F (.int n) = f n) (g : PyData → PyData) (hg : ∀ n, g (.int n) = .int n) : ∀ ns : List Int, ((ns.map PyData.int).filter F).map g = (ns.filter f).map PyData.int
  | [] => rfl
  | n :: ns => by
    rw [List.map_cons, List.filter_cons, List.filter_cons, h]
    cases f n with
    | true => simp only [if_true, List.map_cons]; rw [flt_ints f F h g hg ns, hg]
    | false => simp only [Bool.false_eq_true, if_false]; exact flt_ints f F h g hg ns
/-! ### what is sure to be there: a number that times another leaves 1 -/
theorem bez : ∀ (n : Nat) (a b : Int), 0 ≤ b → b.toNat ≤ n → ∃ x y : Int, a * x + b * y = (Int.gcd a b : Int)
  | 0, a, b, h0, h1 => by
    have e : b = 0 := by omega
    subst e
    rw [Int.gcd_zero_right]
    rcases Int.natAbs_eq a with z | z
    · exact ⟨1, 0, by omega⟩
    · exact ⟨-1, 0, by omega⟩
  | n + 1, a, b, h0, h1 => by
    by_cases z : b = 0
    · exact bez 0 a b h0 (by omega)
    · have m0 := Int.emod_nonneg a z
      have m1 := Int.emod_lt_of_pos a (show 0 < b by omega)
      obtain ⟨x, y, e⟩ := bez n b (a % b) m0 (by omega)
      rw [gcd_step] at e
      refine ⟨y, x - a / b * y, ?_⟩
      rw [← e]
      have := Int.emod_add_mul_ediv a b
      generalize a % b = r at *
      generalize a / b = q at *
      grind
theorem inv_ex {b p : Int} (hp : 1 < p) (hg : Int.gcd b p = 1) : ∃ i : Int, i * b % p = 1 := by
  obtain ⟨x, y, e⟩ := bez p.toNat b p (by omega) (Nat.le_refl _)
  rw [hg] at e
  refine ⟨x, ?_⟩
  rw [show x * b = 1 + p * (-y) by grind, Int.add_mul_emod_self_left]
  exact Int.emod_eq_of_lt (by decide) hp
theorem restD_ok {t b p : Int} (hp : primeB p = true) (hb : b % p ≠ 0) : ∃ r : Int, restD t b p = .int r ∧ 0 ≤ r ∧ r < p ∧ (r * b - t) % p = 0 := by
  have lo := primeB_lo hp
  obtain ⟨i, hi⟩ := inv_ex (by omega) (primeB_gcd hp hb)
  obtain ⟨h1, h2, h3, h4⟩ := rest_ok (t := t) hp hb hi
  exact ⟨_, h1, h2, h3, h4⟩
theorem restD_none {t b p : Int} (hb : b % p = 0) : restD t b p = .none := by
  unfold restD
  rw [if_pos hb]
/-! ### lists of drawn primes -/
def PrL (H : Hp) (a : Addr) (m : Nat) : Prop := ∃ qs : List Int, H a = some (.lst (qs.map V.int)) ∧ qs.length ≤ m ∧ ∀ x ∈ qs, x ∈ primesL
theorem PrL.up {H H' : Hp} {a : Addr} {m : Nat} (h : PrL H a m) (e : Ex H H') : PrL H' a m := by
  obtain ⟨qs, h1, h2, h3⟩ := h
  exact ⟨qs, e _ _ h1, h2, h3⟩
theorem PrL.dr {H H' : Hp} {a B : Addr} {m : Nat} (h : PrL H a m) (n : a ≠ B) (e : ExB B H H') : PrL H' a m := by
  obtain ⟨qs, h1, h2, h3⟩ := h
  exact ⟨qs, e _ _ n h1, h2, h3⟩
theorem PrL.less {H : Hp} {a : Addr} {m k : Nat} (h : PrL H a m) (l : m ≤ k) : PrL H a k := by
  obtain ⟨qs, h1, h2, h3⟩ := h
  exact ⟨qs, h1, by omega, h3⟩
theorem PoolB.ne {H : Hp} {pa p : Addr} {n : Nat} (h : PoolB H pa n) (hp : H p = none) : p ≠ pa := fun z => by
  obtain ⟨xs, hx⟩ := h.isL
  rw [z, hx] at hp
  cases hp
theorem cut_map (qs : List Int) (lo hi : Option Int) : ∃ rs : List Int, cutV (qs.map V.int) lo hi = rs.map V.int ∧ rs.length ≤ qs.length ∧ ∀ x ∈ rs, x ∈ qs := by
  unfold cutV
  rw [← List.map_drop, ← List.map_take]
  refine ⟨_, rfl, ?_, fun x hx => List.mem_of_mem_drop (List.mem_of_mem_take hx)⟩
  rw [List.length_take, List.length_drop]
  omega
theorem atI_of {α : Type} {xs : List α} {x : Int} {v : α} (h0 : 0 ≤ x) (h : xs[x.toNat]? = some v) : atI xs x = some v := by
  have e : x = ((x.toNat : Nat) : Int) := by omega
  rw [e]
  exact atI_nat (j := x.toNat) h
/-! ### one piece of a reading at its head -/
theorem gName_app {i : Nat} {v : V} {σ : L2.St} {H : Hp} {Q : L2.St → Hp → Prop} : gName i v σ H Q = Q (σ.set i (some v)) H := rfl
theorem go_asg {te : TE} {i : Nat} {tz : TS} {D : Ends} {σ : L2.St} {H : Hp} (h : te σ H fun x H1 => tz D (σ.set i (some x)) H1) : tSeq (tAsg te (gName i)) tz D σ H := h
theorem go_asgL {te : TE} {i : Nat} {D : Ends} {σ : L2.St} {H : Hp} (h : te σ H fun x H1 => D.nx (σ.set i (some x)) H1) : tAsg te (gName i) D σ H := h
theorem go_cons {te : TE} {tr : TA} {σ : L2.St} {H : Hp} {Q : List V → Hp → Prop} (h : te σ H fun x H1 => tr σ H1 fun xs H2 => Q (x :: xs) H2) : tCons te tr σ H Q := h
theorem go_cb {te : TE} {r : List V → Hp → VK → Prop} {σ : L2.St} {H : Hp} {Q : VK} (h : te σ H fun x H1 => r [x] H1 Q) : tCB r (tCons te tNil) σ H Q := h
/-- a drawn fraction -/
def FracOk (t b : Int) : Prop := 1 ≤ b ∧ b < 1000000000000000000000000000000 ∧ t < 1000000000000000000000000000000 ∧ -1000000000000000000000000000000 < t ∧ Int.gcd t b = 1
/-! ### whole numbers below a limit, primes from 3 to 97, degrees -/
def dBelow (m : Int) : PyData → Bool
  | .int r => decide (0 ≤ r) && decide (r < m)
  | _ => false
theorem dBelow_of {m r : Int} (h0 : 0 ≤ r) (h1 : r < m) : dBelow m (.int r) = true := by
  show (decide (0 ≤ r) && decide (r < m)) = true
  rw [decide_eq_true h0, decide_eq_true h1]
  rfl
theorem dBelow_get {m : Int} {d : PyData} (h : dBelow m d = true) : ∃ r : Int, d = .int r ∧ 0 ≤ r ∧ r < m := by
  cases d with
  | int r =>
    obtain ⟨h1, h2⟩ := Bool.and_eq_true_iff.mp (show (decide (0 ≤ r) && decide (r < m)) = true from h)
    exact ⟨r, rfl, of_decide_eq_true h1, of_decide_eq_true h2⟩
  | _ => exact nomatch h
def dField : PyData → Bool
  | .int n => primeB n && decide (3 ≤ n) && decide (n ≤ 97)
  | _ => false
theorem dField_get {d : PyData} (h : dField d = true) : ∃ n : Int, d = .int n ∧ primeB n = true ∧ 3 ≤ n ∧ n ≤ 97 := by
  cases d with
  | int n =>
    obtain ⟨h1, h3⟩ := Bool.and_eq_true_iff.mp (show (primeB n && decide (3 ≤ n) && decide (n ≤ 97)) = true from h)
    obtain ⟨h1, h2⟩ := Bool.and_eq_true_iff.mp h1
    exact ⟨n, rfl, h1, of_decide_eq_true h2, of_decide_eq_true h3⟩
  | _ => exact nomatch h
def dDegs : PyData → Bool
  | .tuple [a, b] => dBelow 5 a && dBelow 5 b
  | _ => false
theorem dDegs_pair {d : PyData} (h : dPair d = false) : dDegs d = false := by
  match d, h with
  | .tuple [], _ => simp [dDegs]
  | .tuple [_], _ => simp [dDegs]
  | .tuple [_, _], h => exact nomatch h
  | .tuple (_ :: _ :: _ :: _), _ => simp [dDegs]
  | .none, _ => rfl
  | .bool _, _ => rfl
  | .int _, _ => rfl
  | .str _, _ => rfl
  | .list _, _ => rfl
  | .dict _, _ => rfl
/-- the primes from 3 to 97, as the laws write them -/
def fieldL : List Int := [3, 5, 7, 11, 13, 17, 19, 23, 29, 31, 37, 41, 43, 47, 53, 59, 61, 67, 71, 73, 79, 83, 89, 97]
theorem fieldL_ok : ∀ p ∈ fieldL, dField (.int p) = true := by decide +kernel
theorem fieldL_len : fieldL.length = 24 := rfl
theorem fieldL_get {x : Int} (h0 : 0 ≤ x) (h : x < 24) : ∃ p, atI (fieldL.map V.int) x = some (.int p) ∧ p ∈ fieldL := by
  have h2 : x.toNat < fieldL.length := by rw [fieldL_len]; omega
  refine ⟨fieldL[x.toNat], ?_, List.getElem_mem h2⟩
  refine atI_of h0 ?_
  rw [List.getElem?_map, List.getElem?_eq_getElem h2]
  rfl
/-! ### repr of data: what stands in the model's heap -/
section
variable {X : Cx} {pins : List (Addr × Obj)} {σ : L2.St} {H : Hp} {s : Shared}
theorem kv_reads {h : Heap} : ∀ (ns : List (Int × Int)) (es : List DictEntry) (ws : List (Key × Value)), KV (ns.map fun p => ((Sum.inl p.1 : Key), V.int p.2)) ws → Pairs (mixKind X.prog X.w) es ws →
    ReadsAll h (es.map (·.key)) (ns.map fun p => PyData.int p.1) [] ∧ ReadsAll h (es.map (·.val)) (ns.map fun p => PyData.int p.2) []
  | [], _, _, .nil, .nil => ⟨.nil, .nil⟩
  | _ :: _, [], _, hk, hp => by
    cases hp
    exact nomatch hk
  | (a, b) :: ns, e :: es, kv :: ws, .cons r rs, .cons hk hv ps => by
    obtain ⟨i1, i2⟩ := kv_reads (h := h) ns es ws rs ps
    obtain ⟨r1, t, r2⟩ := r
    have k1 : keyIs kv.1 e.key = true := hk
    rw [← r1] at k1
    rcases keyIs_shape k1 with ⟨i, t2, e1, e2⟩ | ⟨x, t2, e1, _⟩
    · have e1 : a = i := Sum.inl.inj e1
      subst e1
      refine ⟨?_, ?_⟩
      · show ReadsAll h (e.key :: es.map (·.key)) (PyData.int a :: ns.map fun p => PyData.int p.1) ([] ++ [])
        rw [e2]
        exact .cons (.int a t2) i1
      · show ReadsAll h (e.val :: es.map (·.val)) (PyData.int b :: ns.map fun p => PyData.int p.2) ([] ++ [])
        rw [hv, r2]
        exact .cons (.int b t) i2
    · exact nomatch e1
mutual
theorem Dt.reads (I : Inv X pins σ H s) : ∀ (d : PyData) (v : V) (u : Value), Dt H v d → RelV v u → ∃ as, Reads s.heap u d as ∧ (noL d = true → sysModules ∉ as)
  | .none, _, _, h, r => by
    cases h
    cases r
    exact ⟨_, .none, fun _ z => nomatch z⟩
  | .bool b, _, _, h, r => by
    cases h
    cases r
    exact ⟨_, .bool b, fun _ z => nomatch z⟩
  | .int i, _, _, h, r => by
    cases h
    obtain ⟨t, rfl⟩ := r
    exact ⟨_, .int i t, fun _ z => nomatch z⟩
  | .str x, _, _, h, r => by
    cases h
    obtain ⟨t, rfl⟩ := r
    exact ⟨_, .str x t, fun _ z => nomatch z⟩
  | .list ds, _, _, h, r => by
    cases h with
    | lst hs ha =>
      cases r
      obtain ⟨its, rv, ⟨o, n, ho, hc, _, hd⟩, _⟩ := I.list (sq_of hs)
      obtain ⟨as, hr, _⟩ := DtAll.reads I ds _ its ha rv
      exact ⟨_, .list ho hc hd hr, fun z => nomatch z⟩
  | .tuple ds, _, _, h, r => by
    cases h with
    | tup hs ha =>
      cases r
      obtain ⟨its, rv, ⟨o, ho, hc, n, hd⟩, _⟩ := I.tuple (st_of hs)
      obtain ⟨as, hr, hn⟩ := DtAll.reads I ds _ its ha rv
      exact ⟨_, .tuple ho hc hd hr, hn⟩
  | .dict _, _, _, h, r => by
    cases h with
    | @dic a ns hs =>
      cases r
      obtain ⟨_, hsm, ws, kv, o, es, ep, h1, h2, h3, _, h5, _⟩ := (show ObjOk X.prog X.w H s.heap a (.dK (ns.map fun p => ((Sum.inl p.1 : Key), V.int p.2))) from I.hok a _ hs)
      obtain ⟨q1, q2⟩ := kv_reads (X := X) (h := s.heap) _ _ _ kv h5
      refine ⟨_, .dict (kvs := ns.map fun p => (PyData.int p.1, PyData.int p.2)) h1 h2.1 h3 (by rw [List.map_map]; exact q1) (by rw [List.map_map]; exact q2), fun _ z => ?_⟩
      have z : sysModules ∈ [a] := z
      have z := List.mem_singleton.mp z
      rw [← z] at hsm
      exact absurd hsm (by simp)
theorem DtAll.reads (I : Inv X pins σ H s) : ∀ (ds : List PyData) (vs : List V) (us : List Value), DtAll H vs ds → Vals vs us → ∃ as, ReadsAll s.heap us ds as ∧ (noLs ds = true → sysModules ∉ as)
  | [], _, _, h, r => by
    cases h
    cases r
    exact ⟨_, .nil, fun _ z => nomatch z⟩
  | d :: ds, _, _, h, r => by
    cases h with
    | cons h1 h2 =>
      cases r with
      | cons r1 r2 =>
        obtain ⟨as, q1, n1⟩ := Dt.reads I d _ _ h1 r1
        obtain ⟨bs, q2, n2⟩ := DtAll.reads I ds _ _ h2 r2
        refine ⟨_, .cons q1 q2, fun z m => ?_⟩
        obtain ⟨z1, z2⟩ := Bool.and_eq_true_iff.mp (show (noL d && noLs ds) = true from z)
        rcases List.mem_append.mp m with m | m
        · exact n1 z1 m
        · exact n2 z2 m
end
/-- what may be shown: sizes, and no list beside a dict -/
structure Shows (d : PyData) : Prop where
  sh : d.showable = true
  dp : d.depth ≤ 60
  ln : d.shown.length ≤ sizeLine
  dl : d.hasDict = true → noL d = true
def rRepr : List V → Hp → VK → Prop := fun xs H Q => ∃ v d, xs = [v] ∧ Dt H v d ∧ Shows d ∧ Q (.str d.shown) H
theorem call_reprD (hG : X.A.guards = some []) (hu : X.A.units + 64 < cLine) : CallR X (.builtin "repr") rRepr := by
  intro pins s σ H xs us Q I r h
  obtain ⟨v, d, rfl, hd, hs, q⟩ := h
  obtain ⟨u, rfl, rv⟩ := vals1 r
  have fin : ∀ (a : Addr), v = .ref a → wpAny (model X.prog X.w) X.A (call (.builtin "repr") [u]) (EP X pins σ Q) X.xe s := fun a e => by
    subst e
    have e2 : u = Value.ref a := rv
    subst e2
    obtain ⟨as, hr, hn⟩ := Dt.reads I d _ _ hd rv
    have := hs.dp
    refine repr_of_reads' hr hs.sh (fun z => hn (hs.dl z)) hG (by omega) (fun _ _ z => z) (fun h' t tk hk => ?_) hs.ln
    exact ⟨.str d.shown, H, I.kept (t' := tk) hk, ⟨t, rfl⟩, q⟩
  cases hd with
  | non =>
    cases (show u = Value.none from rv)
    exact PySem.P.repr_of_none ⟨.str _, H, I.tok _, ⟨_, rfl⟩, q⟩
  | bl b =>
    cases (show u = Value.bool b from rv)
    exact PySem.P.repr_of_bool ⟨.str _, H, I.tok _, ⟨_, rfl⟩, q⟩
  | int i =>
    obtain ⟨t, rfl⟩ := (show ∃ t, u = Value.int i t from rv)
    exact PySem.P.repr_of_int (of_decide_eq_true hs.sh) ⟨.str _, H, I.tok _, ⟨_, rfl⟩, q⟩
  | str x =>
    obtain ⟨t, rfl⟩ := (show ∃ t, u = Value.str x t from rv)
    exact PySem.P.repr_of_str ⟨.str _, H, I.tok _, ⟨_, rfl⟩, q⟩ hs.ln
  | lst a b => exact fin _ rfl
  | tup a b => exact fin _ rfl
  | dic a => exact fin _ rfl
end
/-! ### defs that are called where no repr is under way -/
structure FnG (P : Program) (w : World) (K : PySem.W.Frag) (mg : Str → Option Value) (base : Heap) (CX : CXT) (k : Nat) (f : Addr) (fd : FuncData) (ps : List Str) (sp : Sp) : Prop where
  len : ∀ vs H Q E, sp vs H Q E → vs.length = ps.length
  go : ∀ (A : Around) (out : List Env) (s : Shared) (H : Hp) (ar : Args) (us : List Value) (vs : List V) (Q : VK) (E : XK), A.guards = some [] → Room k A → Env0 P w K mg base A out s H →
    BindsTo s fd ar (ps.zip us) → Vals vs us → sp vs H Q E → codeAny (model P w) A (.call (.ref f) ar) (CR CX out P w H s Q E) s
section
variable {P : Program} {w : World} {K : PySem.W.Frag} {mg : Str → Option Value} {base : Heap} {x qual : Str} {params : Arguments} {body : List Stmt} {scope : Scope} {dvs : List V} {kws : List (Str × V)} {f : Addr} {fd : FuncData}
theorem okG {CX : CXT} {N ps : List Str} {k : Nat} {sp : Sp} (F : FunD K x qual params body scope dvs kws f fd) (S : FnScope N ps scope) (len : ∀ vs H Q E, sp vs H Q E → vs.length = ps.length)
    (hbody : ∀ (cdv : Value) (A : Around) (outer : List Env) (s : Shared) (H : Hp) (vs : List V) (Q : VK) (E : XK), A.guards = some [] → Room k (A.deeper (envOfC qual scope s.heap.objs.size f cdv)) → sp vs H Q E →
      ∃ t, PSs (cxOf CX P w K mg base N qual scope f cdv A outer s H E) body t ∧ t { nx := fun _ H' => Q .non H', rt := Q } (start N vs) H) : FnG P w K mg base CX (k + 1) f fd ps sp := by
  obtain ⟨oc, od, dV, kV, doc, pm, an, cdv, ct, osl, rfl, lk, hcd, _, _⟩ := F.ex
  refine ⟨len, fun A out s H ar us vs Q E hG hr e0 hb rv hs => ?_⟩
  have keep : ∀ b o, base.get? b = some o → s.heap.get? b = some o := fun b o e => (e0.bs b o e).1
  have KX := e0.mod.kin.keeps keep
  have kinds : ∀ y ∈ ps.zip us, scope.names.lookup y.1 = some .local ∨ (scope.names.lookup y.1 = some .cell ∧ ((cellsFrom (s.heap.objs.size + 1) scope.names []).lookup y.1).isSome = true) := by
    rintro ⟨n, v⟩ hy
    rcases S.par n (List.of_mem_zip hy).1 with c | c
    · exact .inl c
    · exact .inr ⟨c, PySem.W.cellsFrom_some _ _ _ (.inl c)⟩
  refine codeAny_call_function hr.depth (KX _ _ lk) rfl S.co S.gen rfl (PySem.W.codeRec_of KX hcd) (hb _ _ _ _ (wpAny_newFunctionEnv_cells S.kind kinds fun env he s1 x1 => ?_))
  subst he
  obtain ⟨t, ht, hq⟩ := hbody cdv A out s H vs Q E hG (hr.deeper _) hs
  refine ⟨(e0.mod.nolimit.keeps keep).keeps x1.toInCall.keep, codeAny_func ?_⟩
  refine wpAny_mono (ht.run [] s1 (start N vs) H _ (inv_start S hr.hd e0 (len _ _ _ _ hs) rv x1) hq) (fun fl s2 h2 => ?_) fun _ _ z => z
  cases fl with
  | ret u =>
    obtain ⟨v, σ2, H2, J, r2, q2⟩ := h2
    exact ⟨v, H2, J.os, J.bare, J.base, J.hok, r2, q2⟩
  | next =>
    obtain ⟨σ2, H2, J, q2⟩ := h2
    exact ⟨.non, H2, J.os, J.bare, J.base, J.hok, rfl, q2⟩
  | brk =>
    obtain ⟨_, _, _, z⟩ := h2
    exact z.elim
  | cont =>
    obtain ⟨_, _, _, z⟩ := h2
    exact z.elim
end
section
variable {X : Cx} {CX : CXT} {k : Nat} {f : Addr} {fd : FuncData} {ps : List Str} {sp : Sp} {dvs : List V} {ds : List Value} {E : XK} {x : Str} {p pos : Pos} {e : Expr} {es : List Expr} {t : TA}
theorem goG {pins : List (Addr × Obj)} {σ : L2.St} {H : Hp} {s : Shared} {Q : VK} {us : List Value} {vs : List V} (F : FnG X.prog X.w X.K X.mg X.base CX k f fd ps sp) (hG : X.A.guards = some []) (hr : Room k X.A) (hb : Binds X.K fd ps ds) (hd : Vals dvs ds) (hx : Passes CX X E)
    (I : Inv X pins σ H s) (r : Vals vs us) (h : sp (vs ++ dvs) H Q E) : wpAny (model X.prog X.w) X.A (call (.ref f) us) (EP X pins σ Q) X.xe s := by
  have rr : Vals (vs ++ dvs) (us ++ ds) := r.append hd
  have ll : (us ++ ds).length = ps.length := rr.length.symm.trans (F.len _ _ _ _ h)
  refine wpAny_call (codeAny_mono (F.go X.A X.stack s H ⟨us, []⟩ (us ++ ds) (vs ++ dvs) Q E hG hr I.env0 (hb s us I.kIn ll) rr h) fun res s2 h2 => ?_)
  match res, h2 with
  | .error er, h2 => exact hx pins σ H s er s2 I h2
  | .ok (.ret u), h2 => exact I.after h2
  | .ok .next, h2 => exact h2.elim
  | .ok .brk, h2 => exact h2.elim
  | .ok .cont, h2 => exact h2.elim
theorem pe_callG (F : FnG X.prog X.w X.K X.mg X.base CX k f fd ps sp) (hG : X.A.guards = some []) (hr : Room k X.A) (hg : Gl X x) (hm : X.mg x = some (.ref f)) (hk : PySem.W.keepIn X.K (.ref f) = true) (hb : Binds X.K fd ps ds) (hd : Vals dvs ds) (hx : Passes CX X E) (ha : PA X (e :: es) t)
    (hdb : (x == ("__debug__" : Str)) = false := by decide) (he : starEach (e :: es) X.env = (false, eval e X.env) :: starEach es X.env := by rfl) (hpl : (backTo pos (starEach es X.env)).any (·.1) = false := by rfl) :
    PE X (.Call (.Name x p) (e :: es) [] pos) (tCall sp dvs E t) := ⟨fun pins s σ H Q I h =>
  wpAny_Call_Name_kw (ld_glob I hg hm (PySem.W.callWith_K (h₀ := X.base) I.ok.mod.kin hk (thn (ha.run pos pins s σ H _ I h) fun _ _ ⟨_, _, I1, r, q⟩ => ⟨I1.kIn, goG F hG hr hb hd hx I1 r q⟩) he hpl) hdb)⟩
theorem pe_callG0 (F : FnG X.prog X.w X.K X.mg X.base CX k f fd ps sp) (hG : X.A.guards = some []) (hr : Room k X.A) (hg : Gl X x) (hm : X.mg x = some (.ref f)) (hk : PySem.W.keepIn X.K (.ref f) = true) (hb : Binds X.K fd ps ds) (hd : Vals dvs ds) (hx : Passes CX X E)
    (hdb : (x == ("__debug__" : Str)) = false := by decide) : PE X (.Call (.Name x p) [] [] pos) (tCall sp dvs E tNil) := ⟨fun pins s σ H Q I h =>
  wpAny_Call_Name_kw (ld_glob I hg hm (PySem.W.callWith_K0 I.kIn hk (goG (us := []) F hG hr hb hd hx I .nil h)) hdb)⟩
end
/-! ### the law's own call -/
theorem law_go {P : Program} {w : World} {K : PySem.W.Frag} {mg mb : Str → Option Value} {k : Nat} {fa a : Addr} {fd : FuncData} {x : Str} {sp : Sp} {s1 : Shared} {vs : List Value} {ns : List Int} (KX : K.In s1.heap) (hns : s1.heap.Ns mainGlobals mg)
    (hb : s1.heap.Ns builtinsNs mb) (hbb : ∀ x : Str, x ≠ "__name__" → mb x = bootBuiltins x) (hlim : s1.heap.NoLimit) (hg : s1.gens = #[]) (ha : s1.heap.get? a = some { cls := .type "list", data := .seq vs.toArray }) (hi : IntsAre vs ns) (hl : ns.length ≤ sizeLine) (hr : Room k callerA)
    (F : ∀ base : Heap, K.In base → base.Ns mainGlobals mg → FnG P w K mg base CX0 k fa fd [x] sp) (hbind : ∀ (s : Shared) (u : Value), BindsTo s fd ⟨[u], []⟩ [(x, u)])
    (hsp : ∀ H : Hp, Only H → SqL K H a (ns.map V.int) → sp [.ref a] H (fun v _ => v = .bl true) fun _ _ _ => False) :
    codeAny (model P w) callerA (.call (.ref fa) ⟨[.ref a], []⟩) (fun r s2 => r = .ok (.ret (.bool true)) ∧ OldK s1.heap s2.heap ∧ s2.os = s1.os ∧ AllBare s2.gens) s1 := by
  have rv := vals_ints hi
  have lenV := hi.length
  have main : ∀ H : Hp, Only H → SqL K H a (ns.map V.int) → HOk P w H s1.heap → (∀ b, H b ≠ none → b = a) → (H a ≠ none → K.lookup a = none) →
      codeAny (model P w) callerA (.call (.ref fa) ⟨[.ref a], []⟩) (fun r s2 => r = .ok (.ret (.bool true)) ∧ OldK s1.heap s2.heap ∧ s2.os = s1.os ∧ AllBare s2.gens) s1 := by
    intro H hO hS hok only hK
    have free : ∀ {b : Addr}, b ≠ a → H b = none := fun {b} z => by
      cases q : H b with
      | none => rfl
      | some u => exact absurd (only b (by rw [q]; exact Option.some_ne_none u)) z
    have dictFree : ∀ {b : Addr} {o : Obj} {es : Array DictEntry} {ep : Nat}, s1.heap.get? b = some o → o.data = .dict es ep → H b = none := fun {b o es ep} e d => free fun z => by
      rw [z, ha] at e
      cases e
      exact Data.noConfusion d
    have nsH : ∀ {b : Addr} {m : Str → Option Value}, s1.heap.Ns b m → (hidT s1.heap H).Ns b m := fun {b m} ⟨o, es, ep, e, d, r⟩ => ⟨o, es, ep, hidT_get e (dictFree e d), d, r⟩
    have KH : K.In (hidT s1.heap H) := fun b o e => hidT_get (KX b o e) (by
      cases q : H b with
      | none => rfl
      | some u =>
        have z : b = a := only b (by rw [q]; exact Option.some_ne_none u)
        rw [z] at q e
        rw [hK (by rw [q]; exact Option.some_ne_none u)] at e
        cases e)
    have lim : (hidT s1.heap H).NoLimit := by
      obtain ⟨mc, l1, l2⟩ := hlim
      exact ⟨mc, nsH l1, l2⟩
    have e0 : Env0 P w K mg (hidT s1.heap H) callerA [] s1 H := ⟨rfl, ⟨KH, nsH hns, ⟨mb, nsH hb, hbb⟩, lim⟩, fun b o e => of_hidT e, Nat.le_of_eq (hidT_size _ _), trivial, (fun b z => nomatch z), hok, .of_eq hg⟩
    refine codeAny_mono ((F _ KH (nsH hns)).go callerA [] s1 H ⟨[.ref a], []⟩ [.ref a] [.ref a] _ _ rfl hr e0 (hbind s1 (.ref a)) (.cons rfl .nil) (hsp H hO hS)) fun res s2 h2 => ?_
    match res, h2 with
    | .error _, h2 => exact h2.elim
    | .ok .next, h2 => exact h2.elim
    | .ok .brk, h2 => exact h2.elim
    | .ok .cont, h2 => exact h2.elim
    | .ok (.ret u), h2 =>
      obtain ⟨v, H2, os, bare, un, hok2, r2, q2⟩ := h2
      have q2 : v = .bl true := q2
      subst q2
      have r2 : u = Value.bool true := r2
      subst r2
      refine ⟨rfl, OldK.of_keep fun b o e => ?_, os, bare⟩
      rcases hO b with z | ⟨ob, xs, z⟩
      · exact un.keep b o e z (fun y => nomatch y) (fun y => nomatch y)
      · have f2 := un.frzs b ob _ z
        have c1 := (hok b _ z).1
        rw [e] at c1
        rw [Option.some.inj c1]
        exact (hok2 b _ f2).1
  cases hk : K.lookup a with
  | some o =>
    have e := (KX a o hk).symm.trans ha
    cases e
    refine main (fun _ => none) (fun _ => .inl rfl) (.inr ⟨_, vs.toArray, _, hk, rfl, rfl, rfl, ?_, ?_⟩) (fun _ _ z => nomatch z) (fun _ z => absurd rfl z) (fun z => absurd rfl z)
    · rw [List.size_toArray, lenV]
      exact hl
    · simpa using rv
  | none =>
    have at_a : ∀ {o : HO}, (fun b => if b = a then some o else none : Hp) a = some o := if_pos rfl
    refine main (fun b => if b = a then some (.frz { cls := .type "list", data := .seq vs.toArray } (.lst (ns.map V.int))) else none) (fun b => ?_) (.inl (.inr ⟨_, at_a⟩)) (fun b u z => ?_) (fun b z => ?_) (fun _ => hk)
    · by_cases y : b = a
      · exact .inr ⟨_, _, if_pos y⟩
      · exact .inl (if_neg y)
    · by_cases y : b = a
      · subst y
        cases at_a.symm.trans z
        exact ⟨ha, by rw [List.length_map]; exact hl, vs, _, rv, ha⟩
      · exact nomatch (if_neg y).symm.trans z
    · by_cases y : b = a
      · exact y
      · exact absurd (if_neg y) z
theorem walkG {l : PySem.W.OpenLaw} {n k : Nat} {q : Program} {loose : List Str} {XP : (Str → Option Value) → Heap → Prop} {YP : World → Heap → Prop} {d : DefRec} {x : Str} (hn : l.most = some n) (hn2 : n ≤ sizeLine) (hdf : d.params.defaults = []) (hr : Room k callerA)
    (F : ∀ (w : World) (mg : Str → Option Value) (fa : Addr) (h : Heap), YP w h → h.Ns mainGlobals mg → mg d.name = some (.ref fa) → ∃ (K : PySem.W.Frag) (fd : FuncData) (sp : Sp), K.In h ∧ (∀ (s : Shared) (u : Value), BindsTo s fd ⟨[u], []⟩ [(x, u)]) ∧
        (∀ (H : Hp) (a : Addr) (ns : List Int), ns.length ≤ n → Only H → SqL K H a (ns.map V.int) → sp [.ref a] H (fun v _ => v = .bl true) fun _ _ _ => False) ∧ ∀ base : Heap, K.In base → base.Ns mainGlobals mg → FnG l.prog w K mg base CX0 k fa fd [x] sp) :
    PySem.W.WalkO q loose XP YP l.row.toRowW d [] (fun f vs => PySem.call f vs) := by
  refine Att.attach_call hn hdf fun w s0 s1 mg mb fa o pm cd doc a vs ns G Y ho hd hcd hmg hobj hints hlen hg => ?_
  obtain ⟨K, fd, sp, KX, hb, hsp, hF⟩ := F w mg fa _ Y G.T.g hmg
  exact law_go KX G.T.g G.T.b G.T.builtins G.T.nolimit hg hobj hints (Nat.le_trans hlen hn2) hr hF hb (fun H hO hS => hsp H a ns hlen hO hS)
/-! ### how long what is shown is -/
def okS (x : Str) : Prop := ∀ c ∈ x.cps.toList, c < 16 ^ 8
theorem okS_of (z : String) : okS (Str.ofString z) := fun c hc => by
  rw [Str.ofString_eq_toList] at hc
  simp only [List.toList_toArray] at hc
  obtain ⟨a, _, rfl⟩ := List.mem_map.mp hc
  have h : a.toNat < 1114112 := by
    have := a.valid
    unfold Char.toNat
    rcases this with h | ⟨_, h⟩
    · exact Nat.lt_trans h (by decide)
    · exact h
  exact Nat.lt_trans h (by decide)
theorem okS_app {x y : Str} (hx : okS x) (hy : okS y) : okS (x ++ y) := fun c hc => by
  have hc : c ∈ (x.cps ++ y.cps).toList := hc
  rw [Array.toList_append] at hc
  rcases List.mem_append.mp hc with z | z
  · exact hx c z
  · exact hy c z
mutual
def wdt : PyData → Nat
  | .none => 4
  | .bool _ => 5
  | .int _ => 1921
  | .str x => 10 * x.length + 2
  | .list ds => 2 + wdts ds
  | .tuple ds => 3 + wdts ds
  | .dict kvs => 2 + wdtk kvs
def wdts : List PyData → Nat
  | [] => 0
  | d :: ds => wdt d + 2 + wdts ds
def wdtk : List (PyData × PyData) → Nat
  | [] => 0
  | (a, b) :: r => wdt a + wdt b + 4 + wdtk r
end
mutual
def txtOk : PyData → Prop
  | .str x => okS x
  | .list ds => txtOks ds
  | .tuple ds => txtOks ds
  | .dict kvs => txtOkk kvs
  | _ => True
def txtOks : List PyData → Prop
  | [] => True
  | d :: ds => txtOk d ∧ txtOks ds
def txtOkk : List (PyData × PyData) → Prop
  | [] => True
  | (a, b) :: r => txtOk a ∧ txtOk b ∧ txtOkk r
end
theorem from_len : ∀ (ts : List Str) (k : Nat) (acc : Str), (textFrom k acc ts).length ≤ acc.length + piled ts
  | [], k, acc => Nat.le_add_right _ _
  | t :: ts, k, acc => by
    have h := from_len ts (k + 1) (acc ++ (if k > 0 then ", " else "" : String) ++ t)
    rw [strLen_append, strLen_append] at h
    have e : (Str.ofString (if k > 0 then ", " else "")).length ≤ 2 := by
      split
      · exact Nat.le_of_ble_eq_true rfl
      · exact Nat.le_of_ble_eq_true rfl
    rw [piled_cons]
    show (textFrom (k + 1) _ ts).length ≤ _
    omega
theorem join_le (ts : List Str) : (Str.join ", " ts).length ≤ piled ts := by
  by_cases h : ts = []
  · subst h
    exact Nat.le_refl 0
  · have := join_length_add ts h
    omega
mutual
theorem shown_le : ∀ d : PyData, d.showable = true → txtOk d → d.shown.length ≤ wdt d
  | .none, _, _ => Nat.le_of_ble_eq_true rfl
  | .bool b, _, _ => by
    cases b
    · exact Nat.le_of_ble_eq_true rfl
    · exact Nat.le_of_ble_eq_true rfl
  | .int i, h, _ => by
    have h : i.natAbs.log2 < 1920 := of_decide_eq_true h
    exact PyProof.Rows.int_text_len_1921 h
  | .str x, _, h => StrLaws.reprText_len x h
  | .list ds, h, t => by
    have i := showns_le ds h t
    show (textFrom 0 "[" (PyData.shownAll ds) ++ "]").length ≤ 2 + wdts ds
    rw [strLen_append]
    have := from_len (PyData.shownAll ds) 0 "["
    have e1 : (Str.ofString "[").length = 1 := rfl
    have e2 : (Str.ofString "]").length = 1 := rfl
    omega
  | .tuple ds, h, t => by
    have i := showns_le ds h t
    show (tupleText (PyData.shownAll ds)).length ≤ 3 + wdts ds
    unfold tupleText
    rw [strLen_append, strLen_append]
    have := join_le (PyData.shownAll ds)
    have e1 : (Str.ofString "(").length = 1 := rfl
    have e2 : (Str.ofString (if (PyData.shownAll ds).length == 1 then ",)" else ")")).length ≤ 2 := by
      split
      · exact Nat.le_of_ble_eq_true rfl
      · exact Nat.le_of_ble_eq_true rfl
    omega
  | .dict kvs, h, t => by
    have i := shownk_le kvs h t
    show (dictText (PyData.shownKv kvs)).length ≤ 2 + wdtk kvs
    unfold dictText
    rw [strLen_append, strLen_append]
    have := join_le (PyData.shownKv kvs)
    have e1 : (Str.ofString "{").length = 1 := rfl
    have e2 : (Str.ofString "}").length = 1 := rfl
    omega
theorem showns_le : ∀ ds : List PyData, PyData.showableAll ds = true → txtOks ds → piled (PyData.shownAll ds) ≤ wdts ds
  | [], _, _ => Nat.le_refl 0
  | d :: ds, h, t => by
    obtain ⟨h1, h2⟩ := Bool.and_eq_true_iff.mp (show (d.showable && PyData.showableAll ds) = true from h)
    have i1 := shown_le d h1 t.1
    have i2 := showns_le ds h2 t.2
    show piled (d.shown :: PyData.shownAll ds) ≤ wdt d + 2 + wdts ds
    rw [piled_cons]
    omega
theorem shownk_le : ∀ kvs : List (PyData × PyData), PyData.showableKv kvs = true → txtOkk kvs → piled (PyData.shownKv kvs) ≤ wdtk kvs
  | [], _, _ => Nat.le_refl 0
  | (a, b) :: r, h, t => by
    obtain ⟨h1, h2⟩ := Bool.and_eq_true_iff.mp (show (a.showable && b.showable && PyData.showableKv r) = true from h)
    obtain ⟨h3, h4⟩ := Bool.and_eq_true_iff.mp h1
    have i1 := shown_le a h3 t.1
    have i2 := shown_le b h4 t.2.1
    have i3 := shownk_le r h2 t.2.2
    show piled ((a.shown ++ ": " ++ b.shown) :: PyData.shownKv r) ≤ wdt a + wdt b + 4 + wdtk r
    rw [piled_cons, strLen_append, strLen_append]
    have e1 : (Str.ofString ": ").length = 2 := rfl
    omega
end
theorem Shows.of {d : PyData} (h : d.showable = true) (t : txtOk d) (k : d.depth ≤ 60) (n : wdt d ≤ 100000) (l : d.hasDict = true → noL d = true) : Shows d := ⟨h, k, sz_of (Nat.le_trans (shown_le d h t) n), l⟩
theorem showI {i : Int} (h : i.natAbs.log2 < 1920) : (PyData.int i).showable = true := decide_eq_true h
theorem log_of {i : Int} {k : Nat} (h : i.natAbs < 2 ^ k) (hk : 0 < k) (hl : k ≤ 1920) : i.natAbs.log2 < 1920 := Nat.lt_of_lt_of_le (PySem.Flt.log2_lt_of hk h) hl
theorem shows_int {i : Int} (h : i.natAbs.log2 < 1920) : Shows (.int i) := .of (showI h) trivial (Nat.zero_le _) (Nat.le_of_ble_eq_true rfl) (fun z => nomatch z)
theorem shows_pair {a b : Int} (ha : a.natAbs.log2 < 1920) (hb : b.natAbs.log2 < 1920) : Shows (.tuple [.int a, .int b]) := .of (by
  show ((PyData.int a).showable && ((PyData.int b).showable && true)) = true
  rw [showI ha, showI hb]
  rfl) ⟨trivial, trivial, trivial⟩ (Nat.le_of_ble_eq_true rfl) (Nat.le_of_ble_eq_true rfl) (fun _ => rfl)
/-! ### displays -/
section
variable {K : PySem.W.Frag} {σ : L2.St} {H : Hp} {ta tb te : TE} {ds : List PyData}
theorem ed_lst {tr : TA} (h : EvDA tr σ H ds) (hl : ds.length ≤ 100000) : EvD (tLst tr) σ H (.list ds) := fun H1 e _ q =>
  h H1 e _ fun vs H2 e2 hv => ⟨sz_of (by rw [hv.len]; exact hl), fun p hp => q _ _ (e2.trans (Ex.new hp)) (.lst upd_same (hv.up (Ex.new hp)))⟩
theorem ed_str {x : Str} : EvD (tC (.str x)) σ H (.str x) := ed_of ev_c (.str x)
theorem ed_non : EvD (tC .non) σ H .none := ed_of ev_c .non
theorem ed_bl {b : Bool} : EvD (tC (.bl b)) σ H (.bool b) := ed_of ev_c (.bl b)
theorem ed_dict0 : EvD (fun _ H Q => ∀ p, H p = none → Q (.ref p) (upd H p (.dK []))) σ H (.dict []) := fun H1 _ _ q p hp => q _ _ (Ex.new hp) (.dic (ns := []) upd_same)
theorem ed_dict1 {a b : Int} (h1 : ∀ H, Ev ta σ H (.int a)) (h2 : ∀ H, Ev tb σ H (.int b)) : EvD (tDisp [(ta, tb)]) σ H (.dict [(.int a, .int b)]) := fun H1 e Q q p hp =>
  h1 _ _ (Ex.refl _) _ fun H2 e2 => h2 _ _ (Ex.refl _) _ fun H3 e3 => ⟨e3 _ _ (e2 _ _ upd_same), [((Sum.inl a : Key), V.int b)], rfl, Nat.le_of_ble_eq_true rfl, q _ _ (Ex.mut (((Ex.new hp).trans e2).trans e3) hp) (.dic (ns := [(a, b)]) upd_same)⟩
theorem ed_repr {d : PyData} (h : EvD te σ H d) (hs : Shows d) : EvD (tCB rRepr (tCons te tNil)) σ H (.str d.shown) := fun H1 e Q q =>
  h H1 e _ fun v H2 e2 hv => ⟨v, d, rfl, hv, hs, q _ H2 e2 (.str _)⟩
theorem ed_stri {i : Int} (h : Ev te σ H (.int i)) (hl : i.natAbs.log2 < 1920) : EvD (tCB (fun xs H Q => ∃ i, xs = [.int i] ∧ i.natAbs.log2 < 1920 ∧ Q (.str (toString i)) H) (tCons te tNil)) σ H (.str (toString i)) := fun H1 e Q q =>
  h H1 e _ fun H2 e2 => ⟨i, rfl, hl, q _ H2 e2 (.str _)⟩
theorem ev_pow {a b : Int} (h : CPow a b) : Ev (tOp (rI CPow fun i j => .int (i ^ j.toNat)) (tC (.int a)) (tC (.int b))) σ H (.int (a ^ b.toNat)) := ev_op ev_c ev_c (rv_I h)
theorem ev_add {a b : Int} (h1 : Ev ta σ H (.int a)) (h2 : Ev tb σ H (.int b)) : Ev (tOp (rI0 fun i j => .int (i + j)) ta tb) σ H (.int (a + b)) := ev_op h1 h2 rv_I0
theorem ev_sub {a b : Int} (h1 : Ev ta σ H (.int a)) (h2 : Ev tb σ H (.int b)) : Ev (tOp (rI0 fun i j => .int (i - j)) ta tb) σ H (.int (a - b)) := ev_op h1 h2 rv_I0
theorem ev_mulW {a b : Int} (h1 : Ev ta σ H (.int a)) (h2 : Ev tb σ H (.int b)) (h : CMulW a b) : Ev (tOp (rI CMulW fun i j => .int (i * j)) ta tb) σ H (.int (a * b)) := ev_op h1 h2 (rv_I h)
theorem ev_mulC {a b : Int} (h1 : Ev ta σ H (.int a)) (h2 : Ev tb σ H (.int b)) (h : CMul a b) : Ev (tOp (rI CMul fun i j => .int (i * j)) ta tb) σ H (.int (a * b)) := ev_op h1 h2 (rv_I h)
/-- some + [..], both lists of data -/
theorem ed_cat {es : List PyData} (h1 : EvD ta σ H (.list ds)) (h2 : EvD tb σ H (.list es)) (hl : ds.length + es.length ≤ 100000) : EvD (tOp rCat ta tb) σ H (.list (ds ++ es)) := fun H1 e Q q =>
  h1 H1 e _ fun v H2 e2 hv => h2 H2 (e.trans e2) _ fun u H3 e3 hu => by
    obtain ⟨a, xs, rfl, ha, hx⟩ := (hv.up e3).lst_get
    obtain ⟨b, ys, rfl, hb, hy⟩ := hu.lst_get
    refine ⟨a, b, xs, ys, rfl, rfl, ha, hb, sz_of (by rw [hx.len, hy.len]; exact hl), fun p hp => q _ _ ((e2.trans e3).trans (Ex.new hp)) (.lst upd_same ((hx.up (Ex.new hp)).app (hy.up (Ex.new hp))))⟩
end
/-- for x in [..]: a loop over a display of data, in which the heap grows alone -/
theorem q_forD {K : PySem.W.Frag} {tr : TA} {ds : List PyData} {j : Nat} {tu tz : TS} {D : Ends} {σ : L2.St} {H : Hp} (h : EvDA tr σ H ds) (hl : ds.length ≤ 100000) (Pv : Nat → L2.St → Hp → Prop) (h0 : ∀ H1, Ex H H1 → Pv 0 σ H1)
    (hs : ∀ i x d σ' H', ds[i]? = some d → Dt H' x d → Pv i σ' H' → tu { D with nx := fun σ3 H3 => Pv (i + 1) σ3 H3 ∧ Ex H' H3, ct := fun σ3 H3 => Pv (i + 1) σ3 H3 ∧ Ex H' H3, bk := tz D } (σ'.set j (some x)) H')
    (hd : ∀ σ' H', Pv ds.length σ' H' → tz D σ' H') : tSeq (tFor (iList K (tLst tr)) (gName j) tu) tz D σ H :=
  h H (Ex.refl H) _ fun vs H2 e2 hv => ⟨sz_of (by rw [hv.len]; exact hl), fun p hp => by
    have hp2 : (upd H2 p (.lst vs)) p = some (.lst vs) := upd_same
    have x2 : Ex H2 (upd H2 p (.lst vs)) := Ex.new hp
    refine ⟨p, rfl, ⟨_, sq_of hp2⟩, fun i m σ' H' => m = vs.length - i ∧ i ≤ vs.length ∧ Pv i σ' H' ∧ Ex (upd H2 p (.lst vs)) H', ⟨vs.length, rfl, Nat.zero_le _, h0 _ (e2.trans x2), Ex.refl _⟩, fun i m σ' H' hW => ?_⟩
    obtain ⟨rfl, hi, hP, eW⟩ := hW
    have hS : SqL K H' p vs := sq_of (eW _ _ hp2)
    by_cases z : i < vs.length
    · obtain ⟨d, hd1, hd2⟩ := hv.get i (List.getElem?_eq_getElem z)
      refine .inr ⟨⟨vs, vs[i], hS, List.getElem?_eq_getElem z⟩, fun σ3 H3 => Pv (i + 1) σ3 H3 ∧ Ex H' H3, fun σ3 H3 hN => ⟨vs.length - (i + 1), by omega, rfl, z, hN.1, eW.trans hN.2⟩, fun x H3 y => ?_⟩
      obtain ⟨rfl, y⟩ := y
      have ex : x = vs[i] := Option.some.inj ((y vs hS).symm.trans (List.getElem?_eq_getElem z))
      rw [ex]
      exact hs i _ d σ' _ hd1 (hd2.up (x2.trans eW)) hP
    · have e : i = vs.length := by omega
      subst e
      rw [hv.len] at hP
      exact .inl ⟨⟨vs, hS, Nat.le_refl _⟩, hd σ' H' hP⟩⟩
/-! ### what is seen of a heap, where some lists of it may change -/
/-- the heap without its lists -/
def hideL (H : Hp) : Hp := fun x => match H x with
  | some (.lst _) => none
  | o => o
theorem hideL_ex (H : Hp) : Ex (hideL H) H := fun a o h => by
  unfold hideL at h
  split at h
  · cases h
  · exact h
theorem hideL_of {H : Hp} {a : Addr} {o : HO} (h : H a = some o) (n : ∀ xs, o ≠ .lst xs) : hideL H a = some o := by
  unfold hideL
  split
  · rename_i xs e
    rw [h] at e
    exact absurd (Option.some.inj e) (n xs)
  · exact h
theorem hideL_lst {H : Hp} {a : Addr} (h : IsL H a) : hideL H a = none := by
  obtain ⟨xs, h⟩ := h
  unfold hideL
  rw [h]
mutual
theorem Dt.hid {H : Hp} : ∀ (d : PyData) (v : V), noL d = true → Dt H v d → Dt (hideL H) v d
  | .none, _, _, h => by cases h; exact .non
  | .bool b, _, _, h => by cases h; exact .bl b
  | .int i, _, _, h => by cases h; exact .int i
  | .str x, _, _, h => by cases h; exact .str x
  | .list ds, _, n, h => nomatch n
  | .tuple ds, _, n, h => by
    cases h with
    | tup hs ha => exact .tup (hideL_of hs fun _ z => nomatch z) (DtAll.hid ds _ n ha)
  | .dict _, _, _, h => by
    cases h with
    | dic hs => exact .dic (hideL_of hs fun _ z => nomatch z)
theorem DtAll.hid {H : Hp} : ∀ (ds : List PyData) (vs : List V), noLs ds = true → DtAll H vs ds → DtAll (hideL H) vs ds
  | [], _, _, h => by cases h; exact .nil
  | d :: ds, _, n, h => by
    obtain ⟨n1, n2⟩ := Bool.and_eq_true_iff.mp (show (noL d && noLs ds) = true from n)
    cases h with
    | cons h1 h2 => exact .cons (Dt.hid d _ n1 h1) (DtAll.hid ds _ n2 h2)
end
/-- W2 is W with what is new in H2 -/
structure Grow (W H1 W2 H2 : Hp) : Prop where
  w : Ex W W2
  h : Ex W2 H2
  hh : Ex H1 H2
  n : ∀ b, H1 b ≠ none → W b = none → W2 b = none
theorem Grow.refl {W H : Hp} (e : Ex W H) : Grow W H W H := ⟨Ex.refl W, e, Ex.refl H, fun _ _ z => z⟩
theorem Grow.trans {W H W1 H1 W2 H2 : Hp} (a : Grow W H W1 H1) (b : Grow W1 H1 W2 H2) : Grow W H W2 H2 := ⟨a.w.trans b.w, b.h, a.hh.trans b.hh, fun x h z => b.n x (fun y => h (fresh_back a.hh y)) (a.n x h z)⟩
theorem Grow.new {W H : Hp} (e : Ex W H) {p : Addr} {o : HO} (hp : H p = none) : Grow W H (upd W p o) (upd H p o) := by
  have hw : W p = none := fresh_back e hp
  refine ⟨Ex.new hw, fun a u h => ?_, Ex.new hp, fun b h z => ?_⟩
  · by_cases y : a = p
    · subst y
      rw [upd_same] at h ⊢
      exact h
    · rw [upd_ne y] at h ⊢
      exact e _ _ h
  · have y : b ≠ p := fun y => by
      rw [y] at h
      exact h hp
    rw [upd_ne y]
    exact z
def EvF (te : TE) (σ : L2.St) (W0 : Hp) (d : PyData) : Prop := ∀ W H1, Ex W0 W → Ex W H1 → ∀ Q : VK, (∀ v W2 H2, Grow W H1 W2 H2 → Dt W2 v d → Q v H2) → te σ H1 Q
def EvFA (ta : TA) (σ : L2.St) (W0 : Hp) (ds : List PyData) : Prop := ∀ W H1, Ex W0 W → Ex W H1 → ∀ Q : List V → Hp → Prop, (∀ vs W2 H2, Grow W H1 W2 H2 → DtAll W2 vs ds → Q vs H2) → ta σ H1 Q
section
variable {K : PySem.W.Frag} {σ : L2.St} {W0 : Hp} {ta tb te : TE} {d : PyData} {ds es : List PyData}
theorem ef_var {v : V} {i : Nat} (h : σ[i]? = some (some v)) (hd : Dt W0 v d) : EvF (tVar i) σ W0 d := fun W H1 e0 e1 Q q => ⟨v, h, q v W H1 (.refl e1) (hd.up e0)⟩
theorem ef_c {v : V} (hd : ∀ H, Dt H v d) : EvF (tC v) σ W0 d := fun W H1 _ e1 Q q => q v W H1 (.refl e1) (hd W)
/-- a number that is reckoned without a new object -/
theorem ef_int {i : Int} (h : ∀ (H : Hp) (Q : VK), Q (.int i) H → te σ H Q) : EvF te σ W0 (.int i) := fun W H1 _ e1 Q q => h H1 Q (q _ W H1 (.refl e1) (.int i))
theorem ef_str {x : Str} (h : ∀ (H : Hp) (Q : VK), Q (.str x) H → te σ H Q) : EvF te σ W0 (.str x) := fun W H1 _ e1 Q q => h H1 Q (q _ W H1 (.refl e1) (.str x))
theorem efa_nil : EvFA tNil σ W0 [] := fun W H1 _ e1 _ q => q [] W H1 (.refl e1) .nil
theorem efa_cons {tr : TA} (h : EvF te σ W0 d) (hr : EvFA tr σ W0 ds) : EvFA (tCons te tr) σ W0 (d :: ds) := fun W H1 e0 e1 _ q =>
  h W H1 e0 e1 _ fun v W2 H2 g2 hv => hr W2 H2 (e0.trans g2.w) g2.h _ fun vs W3 H3 g3 hvs => q (v :: vs) W3 H3 (g2.trans g3) (.cons (hv.up g3.w) hvs)
theorem ef_tup {tr : TA} (h : EvFA tr σ W0 ds) (hl : ds.length ≤ 100000) : EvF (tTup tr) σ W0 (.tuple ds) := fun W H1 e0 e1 _ q =>
  h W H1 e0 e1 _ fun vs W2 H2 g2 hv => ⟨sz_of (by rw [hv.len]; exact hl), fun p hp => by
    have g3 := Grow.new (o := .tup vs) g2.h hp
    exact q _ _ _ (g2.trans g3) (.tup upd_same (hv.up g3.w))⟩
theorem ef_lst {tr : TA} (h : EvFA tr σ W0 ds) (hl : ds.length ≤ 100000) : EvF (tLst tr) σ W0 (.list ds) := fun W H1 e0 e1 _ q =>
  h W H1 e0 e1 _ fun vs W2 H2 g2 hv => ⟨sz_of (by rw [hv.len]; exact hl), fun p hp => by
    have g3 := Grow.new (o := .lst vs) g2.h hp
    exact q _ _ _ (g2.trans g3) (.lst upd_same (hv.up g3.w))⟩
theorem ef_dict0 : EvF tDNewK σ W0 (.dict []) := fun W H1 e0 e1 _ q p hp => q _ _ _ (Grow.new e1 hp) (.dic (ns := []) upd_same)
theorem ef_dict1 {a b : Int} (h1 : ∀ (H : Hp) (Q : VK), Q (.int a) H → ta σ H Q) (h2 : ∀ (H : Hp) (Q : VK), Q (.int b) H → tb σ H Q) : EvF (tDisp [(ta, tb)]) σ W0 (.dict [(.int a, .int b)]) := fun W H1 e0 e1 Q q p hp =>
  h1 _ _ (h2 _ _ ⟨upd_same, [((Sum.inl a : Key), V.int b)], rfl, Nat.le_of_ble_eq_true rfl, by
    rw [show upd (upd H1 p (.dK [])) p (.dK (mergeK [] [((Sum.inl a : Key), V.int b)])) = upd H1 p (.dK [((Sum.inl a : Key), V.int b)]) from upd_upd]
    exact q _ _ _ (Grow.new e1 hp) (.dic (ns := [(a, b)]) upd_same)⟩)
theorem ef_cat (h1 : EvF ta σ W0 (.list ds)) (h2 : EvF tb σ W0 (.list es)) (hl : ds.length + es.length ≤ 100000) : EvF (tOp rCat ta tb) σ W0 (.list (ds ++ es)) := fun W H1 e0 e1 Q q =>
  h1 W H1 e0 e1 _ fun v W2 H2 g2 hv => h2 W2 H2 (e0.trans g2.w) g2.h _ fun u W3 H3 g3 hu => by
    obtain ⟨a, xs, rfl, ha, hx⟩ := (hv.up g3.w).lst_get
    obtain ⟨b, ys, rfl, hb, hy⟩ := hu.lst_get
    refine ⟨a, b, xs, ys, rfl, rfl, g3.h _ _ ha, g3.h _ _ hb, sz_of (by rw [hx.len, hy.len]; exact hl), fun p hp => ?_⟩
    have g4 := Grow.new (o := .lst (xs ++ ys)) g3.h hp
    exact q _ _ _ ((g2.trans g3).trans g4) (.lst upd_same ((hx.up g4.w).app (hy.up g4.w)))
end
theorem rep_dt {H : Hp} {vs : List V} {ds : List PyData} (h : DtAll H vs ds) : ∀ n : Nat, DtAll H (List.replicate n vs).flatten (List.replicate n ds).flatten
  | 0 => .nil
  | n + 1 => by
    rw [List.replicate_succ, List.replicate_succ, List.flatten_cons, List.flatten_cons]
    exact h.app (rep_dt h n)
/-! ### [..] != [], whatever stands in the list -/
def rNeE : R2 := fun x y H Q => ∃ a b xs, x = .ref a ∧ y = .ref b ∧ H a = some (.lst xs) ∧ H b = some (.lst []) ∧ Q (.bl (!xs.isEmpty)) H
theorem op_neE {X : Cx} (hu : X.A.units + 64 < cLine) : OpR X (compareOp .NotEq) rNeE := by
  intro pins s σ H x y v u Q I rx ry h
  obtain ⟨a, b, xs, rfl, rfl, ha, hb, q⟩ := h
  cases (show v = Value.ref a from rx)
  cases (show u = Value.ref b from ry)
  obtain ⟨_, its, n, r, hl, e⟩ := I.lstM ha
  obtain ⟨_, its2, n2, r2, hl2, e2⟩ := I.lstM hb
  cases r2
  have L1 : s.heap.IsList a its.toArray := ⟨_, e, rfl, n, rfl⟩
  have L2 : s.heap.IsList b ([] : List Value).toArray := ⟨_, e2, rfl, n2, rfl⟩
  cases xs with
  | nil =>
    cases r
    exact SeqAt.RcNeAt.lists (e := fun _ => true) L1 L2 rfl (by omega) (fun j h1 _ => absurd h1 (Nat.not_lt_zero j)) X.prog X.w X.xe _ ⟨.bl false, H, I, rfl, q⟩
  | cons x0 xs0 =>
    refine SeqAt.RcNeAt.lists_lengths L1 L2 ?_ (by omega) X.prog X.w X.xe _ ⟨.bl true, H, I, rfl, q⟩
    cases r
    simp
/-! ### what may be shown, built piece by piece -/
structure Sh (k n : Nat) (d : PyData) : Prop where
  sh : d.showable = true
  tx : txtOk d
  dp : d.depth ≤ k
  wd : wdt d ≤ n
  nd : d.hasDict = false
structure ShA (k n : Nat) (ds : List PyData) : Prop where
  sh : PyData.showableAll ds = true
  tx : txtOks ds
  dp : PyData.depthAll ds ≤ k
  wd : wdts ds ≤ n
  nd : PyData.hasDictAll ds = false
theorem Sh.shows {k n : Nat} {d : PyData} (h : Sh k n d) (hk : k ≤ 60) (hn : n ≤ 100000) : Shows d := .of h.sh h.tx (Nat.le_trans h.dp hk) (Nat.le_trans h.wd hn) (fun z => by rw [h.nd] at z; cases z)
theorem sh_int {i : Int} (h : i.natAbs.log2 < 1920) : Sh 0 1921 (.int i) := ⟨showI h, trivial, Nat.le_refl 0, Nat.le_refl _, rfl⟩
theorem sh_non : Sh 0 4 .none := ⟨rfl, trivial, Nat.le_refl 0, Nat.le_refl _, rfl⟩
theorem sh_bl {b : Bool} : Sh 0 5 (.bool b) := ⟨rfl, trivial, Nat.le_refl 0, Nat.le_refl _, rfl⟩
theorem sh_str {x : Str} {m : Nat} (h : okS x) (hl : x.length ≤ m) : Sh 0 (10 * m + 2) (.str x) := ⟨rfl, h, Nat.le_refl 0, (show 10 * x.length + 2 ≤ 10 * m + 2 by omega), rfl⟩
theorem sha_nil : ShA 0 0 [] := ⟨rfl, trivial, Nat.le_refl 0, Nat.le_refl _, rfl⟩
theorem sha_cons {k n k2 m : Nat} {d : PyData} {ds : List PyData} (h : Sh k n d) (r : ShA k2 m ds) : ShA (max k k2) (n + 2 + m) (d :: ds) := by
  refine ⟨?_, ⟨h.tx, r.tx⟩, ?_, ?_, ?_⟩
  · show (d.showable && PyData.showableAll ds) = true
    rw [h.sh, r.sh]
    rfl
  · show max d.depth (PyData.depthAll ds) ≤ max k k2
    have := h.dp
    have := r.dp
    omega
  · show wdt d + 2 + wdts ds ≤ n + 2 + m
    have := h.wd
    have := r.wd
    omega
  · show (d.hasDict || PyData.hasDictAll ds) = false
    rw [h.nd, r.nd]
    rfl
theorem sh_tup {k n : Nat} {ds : List PyData} (h : ShA k n ds) : Sh (k + 1) (3 + n) (.tuple ds) := ⟨h.sh, h.tx, Nat.succ_le_succ h.dp, Nat.add_le_add_left h.wd 3, h.nd⟩
theorem sh_lst {k n : Nat} {ds : List PyData} (h : ShA k n ds) : Sh (k + 1) (2 + n) (.list ds) := ⟨h.sh, h.tx, Nat.succ_le_succ h.dp, Nat.add_le_add_left h.wd 2, h.nd⟩
theorem shows_dict1 {a b : Int} (ha : a.natAbs.log2 < 1920) (hb : b.natAbs.log2 < 1920) : Shows (.dict [(.int a, .int b)]) := .of (by
  show ((PyData.int a).showable && (PyData.int b).showable && true) = true
  rw [showI ha, showI hb]
  rfl) ⟨trivial, trivial, trivial⟩ (Nat.le_of_ble_eq_true rfl) (Nat.le_of_ble_eq_true rfl) (fun z => rfl)
section
variable {K : PySem.W.Frag} {σ : L2.St} {W0 H : Hp} {ta tb te : TE} {d : PyData} {ds es : List PyData} {D : Ends} {tz : TS}
theorem ef_rep {k : Nat} (h : EvF ta σ W0 (.list ds)) (hl : ds.length * k ≤ 100000) (hk : k ≤ 1000) : EvF (tOp rRep ta (tC (.int (k : Int)))) σ W0 (.list (List.replicate k ds).flatten) := fun W H1 e0 e1 Q q =>
  h W H1 e0 e1 _ fun v W2 H2 g2 hv => by
    obtain ⟨a, xs, rfl, ha, hx⟩ := hv.lst_get
    refine ⟨a, (k : Int), xs, rfl, rfl, g2.h _ _ ha, by omega, by omega, sz_of (by rw [hx.len]; exact hl), fun p hp => ?_⟩
    have g3 := Grow.new (o := .lst (List.replicate ((k : Int)).toNat xs).flatten) g2.h hp
    exact q _ _ _ (g2.trans g3) (.lst upd_same ((rep_dt hx k).up g3.w))
theorem q_asgF {i : Nat} (h : EvF te σ W0 d) (e : Ex W0 H) (k : ∀ v W2 H2, Grow W0 H W2 H2 → Dt W2 v d → tz D (σ.set i (some v)) H2) : tSeq (tAsg te (gName i)) tz D σ H := h W0 H (Ex.refl W0) e _ k
theorem ef_stri {i : Int} {j : Nat} (h : σ[j]? = some (some (.int i))) (hl : i.natAbs.log2 < 1920) : EvF (tCB (fun xs H Q => ∃ i, xs = [.int i] ∧ i.natAbs.log2 < 1920 ∧ Q (.str (toString i)) H) (tCons (tVar j) tNil)) σ W0 (.str (toString i)) :=
  ef_str fun H Q q => ⟨_, h, i, rfl, hl, q⟩
theorem ef_vi {i : Int} {j : Nat} (h : σ[j]? = some (some (.int i))) : EvF (tVar j) σ W0 (.int i) := ef_int fun H Q q => ⟨_, h, q⟩
theorem ef_ci {i : Int} : EvF (tC (.int i)) σ W0 (.int i) := ef_int fun H Q q => q
theorem ef_cb {b : Bool} : EvF (tC (.bl b)) σ W0 (.bool b) := ef_c fun _ => .bl b
theorem ef_cn : EvF (tC .non) σ W0 .none := ef_c fun _ => .non
theorem ef_cs {x : Str} : EvF (tC (.str x)) σ W0 (.str x) := ef_c fun _ => .str x
/-- a comprehension over a tuple of whatever data: whether it gives any -/
theorem lcT_any {a : Addr} {xs : List V} {tl : TE} {t : TT} {j : Nat} {vs : List Nat} {Q : VK} (f : PyData → Bool) (h : Ev tl σ H (.ref a)) (ha : H a = some (.tup xs)) (hx : DtAll H xs ds) (hz : ds.length ≤ 40000) (hw : ∀ x, wipe ((wipe σ vs).set j (some x)) vs = wipe σ vs) (hj : ∀ x, ((wipe σ vs).set j (some x))[j]? = some (some x))
    (ht : ∀ H1 v d, Ex H H1 → d ∈ ds → Dt H1 v d → EvT t ((wipe σ vs).set j (some v)) H1 (f d)) (q : ∀ p H2 acc, H p = none → Ex H H2 → H2 p = some (.lst acc) → acc.length = (ds.filter f).length → Q (.ref p) H2) : tLc (iTup K tl) (gName j) t (tVar j) vs σ H Q :=
  h H (Ex.refl H) _ fun H1 e1 => ⟨a, rfl, ⟨xs, st_of (e1 _ _ ha)⟩, fun Dl hD => lc_tup (xs := xs) (fun i H' => Ex H1 H' ∧ ∃ acc, H' Dl = some (.lst acc) ∧ acc.length = ((ds.take i).filter f).length) ⟨Ex.new hD, [], upd_same, rfl⟩ (fun i H' _ p => st_of (p.1 _ _ (e1 _ _ ha))) (fun i x H' hi p => ⟨hw x, by
      obtain ⟨p1, acc, p2, p3⟩ := p
      obtain ⟨d, hd, hxd⟩ := hx.get i hi
      have hm := List.mem_of_getElem? hd
      have hlen : ((ds.take i).filter f).length ≤ ds.length := by
        have h1 := List.length_filter_le f (ds.take i)
        rw [List.length_take] at h1
        omega
      have hstep : ((ds.take (i + 1)).filter f).length = ((ds.take i).filter f).length + (if f d = true then 1 else 0) := by
        rw [List.take_add_one, hd, List.filter_append, List.length_append]
        congr 1
        cases z : f d with
        | true => simp [z]
        | false => simp [z]
      refine ht H1 x d e1 hm (hxd.up e1) H' p1 _ fun H3 e3 => ?_
      cases z : f d with
      | true =>
        refine itT rfl ⟨x, hj x, acc, e3 _ _ p2, sz_lt (by omega), Ex.mut (p1.trans e3) hD, acc ++ [x], upd_same, ?_⟩
        rw [hstep, z, List.length_append, p3]
        rfl
      | false =>
        refine itF rfl ⟨p1.trans e3, acc, e3 _ _ p2, ?_⟩
        rw [hstep, z, p3]
        rfl⟩) (fun H' p => by
      obtain ⟨p1, acc, p2, p3⟩ := p
      rw [hx.len, List.take_length] at p3
      exact q Dl H' acc (fresh_back e1 hD) (e1.trans p1) p2 p3)⟩
end
theorem tNext_app {D : Ends} {σ : L2.St} {H : Hp} : tNext D σ H = D.nx σ H := rfl
theorem go_ifop {r : R2} {ta tb : TE} {t1 t2 tz : TS} {D : Ends} {σ : L2.St} {H : Hp} (h : ta σ H fun x H1 => tb σ H1 fun y H2 => r x y H2 fun z H3 => ∃ k, z = .bl k ∧ if k = true then t1 { D with nx := tz D } σ H3 else t2 { D with nx := tz D } σ H3) : tSeq (tIfS (tTest (tOp r ta tb)) t1 t2) tz D σ H := h
/-! ### loops in which the heap grows alone -/
theorem loopK {K : PySem.W.Frag} {a : Addr} {vs : List V} {j : Nat} {tu : TS} {D : Ends} {σ : L2.St} {H : Hp} (ha : H a = some (.lst vs)) (Pv : Nat → L2.St → Hp → Prop) (h0 : Pv 0 σ H)
    (hs : ∀ i x σ' H', vs[i]? = some x → Ex H H' → Pv i σ' H' → tu { D with nx := fun σ3 H3 => Pv (i + 1) σ3 H3 ∧ Ex H' H3, ct := fun σ3 H3 => Pv (i + 1) σ3 H3 ∧ Ex H' H3, bk := D.nx } (σ'.set j (some x)) H')
    (hd : ∀ σ' H', Pv vs.length σ' H' → Ex H H' → D.nx σ' H') : tFor (fun _ H R => R (Itl K a) H) (gName j) tu D σ H := by
  refine ⟨fun i m σ' H' => m = vs.length - i ∧ i ≤ vs.length ∧ Pv i σ' H' ∧ Ex H H', ⟨vs.length, rfl, Nat.zero_le _, h0, Ex.refl _⟩, fun i m σ' H' hW => ?_⟩
  obtain ⟨rfl, hi, hP, eW⟩ := hW
  have hS : SqL K H' a vs := sq_of (eW _ _ ha)
  by_cases z : i < vs.length
  · refine .inr ⟨⟨vs, vs[i], hS, List.getElem?_eq_getElem z⟩, fun σ3 H3 => Pv (i + 1) σ3 H3 ∧ Ex H' H3, fun σ3 H3 hN => ⟨vs.length - (i + 1), by omega, rfl, z, hN.1, eW.trans hN.2⟩, fun x H3 y => ?_⟩
    obtain ⟨rfl, y⟩ := y
    have ex : x = vs[i] := Option.some.inj ((y vs hS).symm.trans (List.getElem?_eq_getElem z))
    rw [ex]
    exact hs i _ σ' _ (List.getElem?_eq_getElem z) eW hP
  · have e : i = vs.length := by omega
    subst e
    exact .inl ⟨⟨vs, hS, Nat.le_refl _⟩, hd σ' H' hP eW⟩
theorem go_forI {K : PySem.W.Frag} {tl : TE} {g : TG} {tu tz : TS} {D : Ends} {σ : L2.St} {H : Hp} (h : tl σ H fun x H1 => ∃ a, x = .ref a ∧ (∃ xs, SqL K H1 a xs) ∧ tFor (fun _ H R => R (Itl K a) H) g tu { D with nx := tz D } σ H1) : tSeq (tFor (iList K tl) g tu) tz D σ H := h
theorem q_forE {K : PySem.W.Frag} {tl : TE} {ds : List PyData} {j : Nat} {tu tz : TS} {D : Ends} {σ : L2.St} {H : Hp} (h : EvD tl σ H (.list ds)) (Pv : Nat → L2.St → Hp → Prop) (h0 : ∀ H1, Ex H H1 → Pv 0 σ H1)
    (hs : ∀ i x d σ' H', ds[i]? = some d → Dt H' x d → Pv i σ' H' → tu { D with nx := fun σ3 H3 => Pv (i + 1) σ3 H3 ∧ Ex H' H3, ct := fun σ3 H3 => Pv (i + 1) σ3 H3 ∧ Ex H' H3, bk := tz D } (σ'.set j (some x)) H')
    (hd : ∀ σ' H', Pv ds.length σ' H' → tz D σ' H') : tSeq (tFor (iList K tl) (gName j) tu) tz D σ H :=
  go_forI (h H (Ex.refl H) _ fun v H2 e2 hv => by
    obtain ⟨a, xs, rfl, ha, hx⟩ := hv.lst_get
    refine ⟨a, rfl, ⟨_, sq_of ha⟩, loopK (D := { D with nx := tz D }) ha Pv (h0 H2 e2) (fun i x σ' H' hi e hP => ?_) (fun σ' H' hP e => ?_)⟩
    · obtain ⟨d, hd1, hd2⟩ := hx.get i hi
      exact hs i x d σ' H' hd1 (hd2.up e) hP
    · rw [hx.len] at hP
      exact hd σ' H' hP)
theorem s_forE {K : PySem.W.Frag} {tl : TE} {ds : List PyData} {j : Nat} {tu : TS} {D : Ends} {σ : L2.St} {H : Hp} (h : EvD tl σ H (.list ds)) (Pv : Nat → L2.St → Hp → Prop) (h0 : ∀ H1, Ex H H1 → Pv 0 σ H1)
    (hs : ∀ i x d σ' H', ds[i]? = some d → Dt H' x d → Pv i σ' H' → tu { D with nx := fun σ3 H3 => Pv (i + 1) σ3 H3 ∧ Ex H' H3, ct := fun σ3 H3 => Pv (i + 1) σ3 H3 ∧ Ex H' H3, bk := D.nx } (σ'.set j (some x)) H')
    (hd : ∀ σ' H', Pv ds.length σ' H' → D.nx σ' H') : tFor (iList K tl) (gName j) tu D σ H := q_forE (tz := tNext) h Pv h0 hs hd
theorem primeB_mem {n : Int} : n ∈ primesL ↔ primeB n = true := by
  constructor
  · exact primesL_prime n
  · intro h
    have lo := primeB_lo h
    unfold primesL
    rw [List.mem_filter]
    refine ⟨irng_mem.mpr lo, ?_⟩
    rw [List.isEmpty_iff, List.filter_eq_nil_iff]
    intro d hd z
    obtain ⟨d0, d1⟩ := irng_mem.mp hd
    obtain ⟨z1, z2⟩ := Bool.and_eq_true_iff.mp z
    have z1 : n % d = 0 := of_decide_eq_true z1
    have z2 : d < n := of_decide_eq_true z2
    rcases primeB_div h (Int.dvd_of_emod_eq_zero z1) (by omega) with e | e <;> omega
def thereK : List (Key × V) := mergeK [] (primesL.map fun p => ((Sum.inl p : Key), V.bl true))
theorem val_some (kvs : List (Key × V)) (k : Key) : (valV kvs k).isSome = kvs.any fun kv => decide (kv.1 = k) := by
  induction kvs with
  | nil => rfl
  | cons p r ih =>
    rw [List.any_cons]
    by_cases e : p.1 = k
    · rw [valV_pos e, decide_eq_true e]
      rfl
    · rw [decide_eq_false e, Bool.false_or, ← ih]
      unfold valV
      rw [List.find?_cons, decide_eq_false e]
theorem put_any (kvs : List (Key × V)) (k k2 : Key) (v : V) : ((putK kvs k v).any fun kv => decide (kv.1 = k2)) = ((kvs.any fun kv => decide (kv.1 = k2)) || decide (k = k2)) := by
  unfold putK
  split
  · rename_i h
    rw [List.any_map]
    have e : ((fun kv : Key × V => decide (kv.1 = k2)) ∘ fun kv : Key × V => if kv.1 = k then (kv.1, v) else kv) = fun kv => decide (kv.1 = k2) := by
      funext kv
      show decide ((if kv.1 = k then (kv.1, v) else kv).1 = k2) = _
      split <;> rfl
    rw [e]
    by_cases z : k = k2
    · subst z
      rw [h]
      rfl
    · rw [decide_eq_false z, Bool.or_false]
  · rw [List.any_append]
    simp
theorem merge_any (k2 : Key) : ∀ (more acc : List (Key × V)), ((mergeK acc more).any fun kv => decide (kv.1 = k2)) = ((acc.any fun kv => decide (kv.1 = k2)) || more.any fun kv => decide (kv.1 = k2))
  | [], acc => by
    show (acc.any fun kv => decide (kv.1 = k2)) = _
    rw [List.any_nil, Bool.or_false]
  | p :: r, acc => by
    show ((mergeK (putK acc p.1 p.2) r).any fun kv => decide (kv.1 = k2)) = _
    rw [merge_any k2 r, put_any, List.any_cons, Bool.or_assoc]
theorem there_get (n : Int) : (valV thereK (Sum.inl n)).isSome = primeB n := by
  rw [val_some]
  unfold thereK
  rw [merge_any, List.any_nil, Bool.false_or, List.any_map]
  cases h : primeB n with
  | true =>
    rw [List.any_eq_true]
    exact ⟨n, primeB_mem.mpr h, decide_eq_true rfl⟩
  | false =>
    rw [List.any_eq_false]
    intro x hx z
    have z : (Sum.inl x : Key) = Sum.inl n := of_decide_eq_true z
    have z := Sum.inl.inj z
    rw [z] at hx
    rw [primeB_mem.mp hx] at h
    cases h
theorem pairs_of {K : PySem.W.Frag} {H : Hp} : ∀ (ps : List Int) (acc : List V), DtAll H acc (ps.map fun p => PyData.tuple [.int p, .bool true]) →
    ∃ as : List Addr, acc = as.map V.ref ∧ Paired (fun p kv => SqT K H p [kV kv.1, kv.2]) as (ps.map fun p => ((Sum.inl p : Key), V.bl true))
  | [], _, h => by
    cases h
    exact ⟨[], rfl, .nil⟩
  | p :: ps, _, h => by
    cases h with
    | cons h1 h2 =>
      obtain ⟨as, e, hp⟩ := pairs_of (K := K) ps _ h2
      obtain ⟨a, xs, rfl, ha, hx⟩ := h1.tup_get
      cases hx with
      | cons x1 hx => cases hx with
        | cons x2 hx =>
          cases hx
          cases x1
          cases x2
          exact ⟨a :: as, by rw [e]; rfl, .cons (.inl (.inl ha)) hp⟩
def topS (i : Nat) : Stmt := PySem.Challenge.pw_toldback_k02_what_is_a_prime.main.body.getD i (.Pass ⟨0, 0, 0, 0⟩)
abbrev s_is_whole : Stmt := topS 1
abbrev N_is_whole : List Str := ["thing"]
theorem sc_is_whole : FnScope N_is_whole ["thing"] (defScope s_is_whole) := ⟨rfl, rfl, rfl, by decide +kernel, rfl, by decide +kernel, by decide +kernel⟩
abbrev s_is_prime : Stmt := topS 4
abbrev N_is_prime : List Str := ["thing", "divisor"]
theorem sc_is_prime : FnScope N_is_prime ["thing"] (defScope s_is_prime) := ⟨rfl, rfl, rfl, by decide +kernel, rfl, by decide +kernel, by decide +kernel⟩
abbrev s__law_pool : Stmt := topS 6
abbrev N__law_pool : List Str := ["script", "k", "cell"]
theorem sc__law_pool : FnScope N__law_pool ["script", "k"] (defScope s__law_pool) := ⟨rfl, rfl, rfl, by decide +kernel, rfl, by decide +kernel, by decide +kernel⟩
abbrev s__law_take : Stmt := topS 7
abbrev N__law_take : List Str := ["pool", "many", "found", "step", "mark"]
theorem sc__law_take : FnScope N__law_take ["pool", "many"] (defScope s__law_take) := ⟨rfl, rfl, rfl, by decide +kernel, rfl, by decide +kernel, by decide +kernel⟩
abbrev s__law_far : Stmt := topS 8
abbrev N__law_far : List Str := ["pool", "turns", "found", "turn"]
theorem sc__law_far : FnScope N__law_far ["pool", "turns"] (defScope s__law_far) := ⟨rfl, rfl, rfl, by decide +kernel, rfl, by decide +kernel, by decide +kernel⟩
abbrev s__law_all_primes : Stmt := topS 9
abbrev N__law_all_primes : List Str := ["p", "d"]
theorem sc__law_all_primes : FnScope N__law_all_primes [] (defScope s__law_all_primes) := ⟨rfl, rfl, rfl, by decide +kernel, rfl, by decide +kernel, by decide +kernel⟩
abbrev s__law_prime : Stmt := topS 10
abbrev N__law_prime : List Str := ["pool", "primes", "way"]
theorem sc__law_prime : FnScope N__law_prime ["pool", "primes"] (defScope s__law_prime) := ⟨rfl, rfl, rfl, by decide +kernel, rfl, by decide +kernel, by decide +kernel⟩
abbrev s__law_right : Stmt := topS 11
abbrev N__law_right : List Str := ["there", "thing", "kept", "found", "due"]
theorem sc__law_right : FnScope N__law_right ["there", "thing"] (defScope s__law_right) := ⟨rfl, rfl, rfl, by decide +kernel, rfl, by decide +kernel, by decide +kernel⟩
abbrev s_law : Stmt := topS 12
abbrev N_law : List Str := ["script", "primes", "there", "k", "pool", "p", "q", "far", "some", "thing", "number"]
theorem sc_law : FnScope N_law ["script"] (defScope s_law) := ⟨rfl, rfl, rfl, by decide +kernel, rfl, by decide +kernel, by decide +kernel⟩
abbrev FnP (K : PySem.W.Frag) (x : Str) (st : Stmt) (f : Addr) (fd : FuncData) : Prop := FunD K x x (defArgs st) (defBody st) (defScope st) [] [] f fd
structure Ad where
  a_is_whole : Addr
  d_is_whole : FuncData
  a_is_prime : Addr
  d_is_prime : FuncData
  a__law_pool : Addr
  d__law_pool : FuncData
  a__law_take : Addr
  d__law_take : FuncData
  a__law_far : Addr
  d__law_far : FuncData
  a__law_all_primes : Addr
  d__law_all_primes : FuncData
  a__law_prime : Addr
  d__law_prime : FuncData
  a__law_right : Addr
  d__law_right : FuncData
  a_law : Addr
  d_law : FuncData
  t_PRIME_LIMIT : Tok
structure Txt (K : PySem.W.Frag) (mg : Str → Option Value) (z : Ad) : Prop where
  F_is_whole : FnP K "is_whole" s_is_whole z.a_is_whole z.d_is_whole
  g_is_whole : mg "is_whole" = some (.ref z.a_is_whole)
  b_is_whole : Binds K z.d_is_whole ["thing"] []
  F_is_prime : FnP K "is_prime" s_is_prime z.a_is_prime z.d_is_prime
  g_is_prime : mg "is_prime" = some (.ref z.a_is_prime)
  b_is_prime : Binds K z.d_is_prime ["thing"] []
  F__law_pool : FnP K "_law_pool" s__law_pool z.a__law_pool z.d__law_pool
  g__law_pool : mg "_law_pool" = some (.ref z.a__law_pool)
  b__law_pool : Binds K z.d__law_pool ["script", "k"] []
  F__law_take : FnP K "_law_take" s__law_take z.a__law_take z.d__law_take
  g__law_take : mg "_law_take" = some (.ref z.a__law_take)
  b__law_take : Binds K z.d__law_take ["pool", "many"] []
  F__law_far : FnP K "_law_far" s__law_far z.a__law_far z.d__law_far
  g__law_far : mg "_law_far" = some (.ref z.a__law_far)
  b__law_far : Binds K z.d__law_far ["pool", "turns"] []
  F__law_all_primes : FnP K "_law_all_primes" s__law_all_primes z.a__law_all_primes z.d__law_all_primes
  g__law_all_primes : mg "_law_all_primes" = some (.ref z.a__law_all_primes)
  b__law_all_primes : Binds K z.d__law_all_primes [] []
  F__law_prime : FnP K "_law_prime" s__law_prime z.a__law_prime z.d__law_prime
  g__law_prime : mg "_law_prime" = some (.ref z.a__law_prime)
  b__law_prime : Binds K z.d__law_prime ["pool", "primes"] []
  F__law_right : FnP K "_law_right" s__law_right z.a__law_right z.d__law_right
  g__law_right : mg "_law_right" = some (.ref z.a__law_right)
  b__law_right : Binds K z.d__law_right ["there", "thing"] []
  F_law : FnP K "law" s_law z.a_law z.d_law
  g_law : mg "law" = some (.ref z.a_law)
  b_law : Binds K z.d_law ["script"] []
  m_isinstance : mg "isinstance" = none
  m_bool : mg "bool" = none
  m_int : mg "int" = none
  m_len : mg "len" = none
  m_range : mg "range" = none
  m_repr : mg "repr" = none
  m_dict : mg "dict" = none
  m_max : mg "max" = none
  m_min : mg "min" = none
  m_str : mg "str" = none
  c_PRIME_LIMIT : mg "PRIME_LIMIT" = some (.int 1000 z.t_PRIME_LIMIT)
section
variable {P : Program} {w : World} {K : PySem.W.Frag} {mg : Str → Option Value} {base : Heap} {z : Ad}
def sp_is_whole : Sp := fun vs H Q _ => ∃ v d, vs = [v] ∧ Dt H v d ∧ Q (.bl (dWhole d)) H
theorem ok_is_whole (T : Txt K mg z) : FnOk P w K mg base CX0 1 z.a_is_whole z.d_is_whole ["thing"] (sp_is_whole) := by
  refine T.F_is_whole.ok sc_is_whole (fun vs H Q E h => ?_) (fun cdv A outer s H vs Q E hr h => ?_)
  · obtain ⟨v, d, rfl, _⟩ := h
    rfl
  · obtain ⟨v, d, rfl, hd, q⟩ := h
    refine ⟨_, (PSs.nox (pss_one (ps_ret (pe_and (pe_callB (r := rIsi K) call_isi (by rfl) T.m_isinstance (by decide +kernel) (pa_cons (pv 0) (pa_cons (pe_bltn (v := .ty "int") (by rfl) T.m_int (by decide +kernel) rfl) pa_nil))) (pe_one (pe_not (pe_callB (r := rIsi K) call_isi (by rfl) T.m_isinstance (by decide +kernel) (pa_cons (pv 0) (pa_cons (pe_bltn (v := .ty "bool") (by rfl) T.m_bool (by decide +kernel) rfl) pa_nil))))))))), ?_⟩
    refine ⟨v, rfl, _, _, _, _, _, rfl, .ty _, (hd).ty, kit_ty ( kit_int d), dInt d, rfl, ?_⟩
    cases d with
    | int i => exact itT rfl ⟨v, rfl, _, _, _, _, _, rfl, .ty _, (hd).ty, kit_ty ( kit_bool _), _, rfl, q⟩
    | bool b => exact itT rfl ⟨v, rfl, _, _, _, _, _, rfl, .ty _, (hd).ty, kit_ty ( kit_bool _), _, rfl, q⟩
    | none => exact itF rfl q
    | str x => exact itF rfl q
    | list x => exact itF rfl q
    | tuple x => exact itF rfl q
    | dict x => exact itF rfl q
def sp_is_prime : Sp := fun vs H Q _ => ∃ v d, vs = [v] ∧ Dt H v d ∧ Q (.bl (dPrime d)) H
theorem primeB_out {n : Int} (h : n < 2 ∨ 1000 ≤ n) : primeB n = false := by
  cases e : primeB n with
  | false => rfl
  | true =>
    have := primeB_lo e
    omega
theorem ok_is_prime (T : Txt K mg z) : FnOk P w K mg base CX0 2 z.a_is_prime z.d_is_prime ["thing"] (sp_is_prime) := by
  refine T.F_is_prime.ok sc_is_prime (fun vs H Q E h => ?_) (fun cdv A outer s H vs Q E hr h => ?_)
  · obtain ⟨v, d, rfl, _⟩ := h
    rfl
  · obtain ⟨v, d, rfl, hd, q⟩ := h
    refine ⟨_, (PSs.nox (pss_cons (ps_if (PW.pt (pw_or (pt_not (pt_val (pe_call (ok_is_whole T) hr (by rfl) T.g_is_whole T.F_is_whole.kp T.b_is_whole .nil pass0 (pa_cons (pv 0) pa_nil)))) (pw_or (pt_cmpR op_lt (pv 0) pe_int (nomark _)) (pw_or1 (pt_cmpR op_ge (pv 0) (pe_glob (v := .int 1000) (by rfl) T.c_PRIME_LIMIT ⟨_, rfl⟩) (nomark _)))))) (pss_one (ps_ret pe_bl)) pss_nil)
      (pss_cons (ps_set (i := 1) sc_is_prime.nd rfl (.inl rfl) pe_int)
      (pss_cons (ps_while PassesOwn.never (pt_cmpR op_le (pe_op op_mulW (pv 1) (pv 1)) (pv 0) (nomark _)) (pss_cons (ps_if (pt_cmpR op_eq (pe_op op_mod (pv 0) (pv 1)) pe_int (nomark _)) (pss_one (ps_ret pe_bl)) pss_nil)
      (pss_one (ps_aug (i := 1) sc_is_prime.nd rfl (.inl rfl) pe_int ip_add))))
      (pss_one (ps_ret pe_bl)))))), ?_⟩
    refine ⟨v, rfl, v, d, rfl, hd, _, rfl, it2 (fun e => ?_) (fun e => ?_)⟩
    · have z : dPrime d = false := by
        cases d <;> first | rfl | exact nomatch e
      rw [z] at q
      exact itT rfl q
    · have e : dWhole d = true := by simpa using e
      obtain ⟨n, rfl⟩ := dWhole_get e
      cases hd
      refine ⟨.int n, rfl, n, 2, rfl, rfl, _, rfl, it2 (fun e1 => ?_) (fun e1 => ?_)⟩
      · rw [show dPrime (.int n) = false from primeB_out (.inl (of_decide_eq_true e1))] at q
        exact itT rfl q
      · have e1 : ¬ n < 2 := of_decide_eq_false e1
        refine ⟨.int n, rfl, n, 1000, rfl, rfl, _, rfl, it2 (fun e2 => ?_) (fun e2 => ?_)⟩
        · rw [show dPrime (.int n) = false from primeB_out (.inr (of_decide_eq_true e2))] at q
          exact q
        · have e2 : ¬ (1000 : Int) ≤ n := of_decide_eq_false e2
          refine ⟨fun c σ H' => ∃ k : Int, σ = [some (.int n), some (.int k)] ∧ H' = H ∧ 2 ≤ k ∧ k ≤ 1000 ∧ (∀ j : Int, 2 ≤ j → j < k → n % j ≠ 0) ∧ c = (1000 - k).toNat, ⟨998, 2, rfl, rfl, by decide, by decide, fun j h1 h2 => by omega, rfl⟩, fun c σ H' hW => ?_⟩
          obtain ⟨k, rfl, rfl, k0, k1, hk, rfl⟩ := hW
          refine ⟨.int k, rfl, .int k, rfl, k, k, rfl, rfl, wide_mul (a := 20) (b := 20) (by omega) (by omega) (by decide) (by decide) (by decide), .int n, rfl, k * k, n, rfl, rfl, _, rfl, it2 (fun e3 => ?_) (fun e3 => ?_)⟩
          · have e3 : k * k ≤ n := of_decide_eq_true e3
            have hk2 : k < 1000 := by
              have : k * 2 ≤ k * k := Int.mul_le_mul_of_nonneg_left k0 (by omega)
              omega
            refine ⟨fun σ2 H2 => σ2 = [some (.int n), some (.int (k + 1))] ∧ H2 = H' ∧ n % k ≠ 0, fun σ2 H2 hn => ?_, ?_⟩
            · obtain ⟨rfl, rfl, hnk⟩ := hn
              refine ⟨(1000 - (k + 1)).toNat, by omega, k + 1, rfl, rfl, by omega, by omega, fun j h1 h2 => ?_, rfl⟩
              by_cases z : j = k
              · rw [z]
                exact hnk
              · exact hk j h1 (by omega)
            · refine ⟨.int n, rfl, .int k, rfl, n, k, rfl, rfl, (show 0 < k by omega), rfl, _, rfl, it2 (fun e4 => ?_) (fun e4 => ?_)⟩
              · rw [dI] at e4
                rw [show dPrime (.int n) = false from primeB_no k0 e3 (of_decide_eq_true e4)] at q
                exact q
              · rw [dI] at e4
                exact ⟨.int k, rfl, k, 1, rfl, rfl, rfl, rfl, of_decide_eq_false e4⟩
          · have e3 : ¬ k * k ≤ n := of_decide_eq_false e3
            rw [show dPrime (.int n) = true from primeB_yes (by omega) (by omega) k0 (by omega) hk] at q
            exact q
def sp__law_pool (K : PySem.W.Frag) : Sp := fun vs H Q _ => ∃ (sa : Addr) (ns : List Int) (k : Int), vs = [.ref sa, .int k] ∧ SqL K H sa (ns.map V.int) ∧ 0 ≤ k ∧ k < 100 ∧
  ∀ p H', H p = none → Ex H H' → PoolB H' p 1000000000 → Q (.ref p) H'
theorem ok__law_pool (T : Txt K mg z) : FnOk P w K mg base CX0 1 z.a__law_pool z.d__law_pool ["script", "k"] (sp__law_pool K) := by
  refine T.F__law_pool.ok sc__law_pool (fun vs H Q E h => ?_) (fun cdv A outer s H vs Q E hr h => ?_)
  · obtain ⟨sa, ns, k, rfl, _⟩ := h
    rfl
  · obtain ⟨sa, ns, k, rfl, hS, hk, hk2, q⟩ := h
    refine ⟨_, (PSs.nox (pss_cons (ps_set (i := 2) sc__law_pool.nd rfl (.inl rfl) pe_int)
      (pss_cons (ps_if (pt_cmpR op_lt (pv 1) (pe_callB (r := rLenS K) call_len_seq (by rfl) T.m_len (by decide +kernel) (pa_cons (pv 0) pa_nil)) (nomark _)) (pss_one (ps_set (i := 2) sc__law_pool.nd rfl (.inl rfl) (pe_ix (r := rIxL K) ix_list (pv 0) (pv 1) (fun _ _ => rfl)))) pss_nil)
      (pss_cons (ps_if (pt_cmpR op_ge (pv 2) (pe_op op_pow pe_int pe_int) (nomark _)) (pss_one (ps_ret (pe_lst (pa_cons (pe_op op_sub (pv 2) (pe_op op_pow pe_int pe_int)) (pa_cons pe_int (pa_cons pe_int pa_nil)))))) pss_nil)
      (pss_one (ps_ret (pe_lst (pa_cons (pv 2) (pa_cons pe_int (pa_cons (pe_op op_mul pe_int (pv 1)) pa_nil)))))))))), ?_⟩
    have fin : ∀ cell : Int, (tSeq (tIfS (tTest (tOp (rI0 fun i j => .bl (decide (j ≤ i))) (tVar 2) (tOp (rI CPow fun i j => .int (i ^ j.toNat)) (tC (.int 10)) (tC (.int 18))))) (tRet (tLst (tCons (tOp (rI0 fun i j => .int (i - j)) (tVar 2) (tOp (rI CPow fun i j => .int (i ^ j.toNat)) (tC (.int 10)) (tC (.int 18)))) (tCons (tC (.int 1)) (tCons (tC (.int 0)) tNil))))) tNext) (tRet (tLst (tCons (tVar 2) (tCons (tC (.int 0)) (tCons (tOp (rI CMul fun i j => .int (i * j)) (tC (.int 61)) (tVar 1)) tNil)))))) { nx := fun _ H' => Q .non H', rt := Q } [some (.ref sa), some (.int k), some (.int cell)] H := by
      intro cell
      refine ⟨.int cell, rfl, 10, 18, rfl, rfl, ⟨by decide, by decide, by decide⟩, cell, _, rfl, rfl, _, rfl, it2 (fun e => ?_) (fun e => ?_)⟩
      · refine ⟨.int cell, rfl, 10, 18, rfl, rfl, ⟨by decide, by decide, by decide⟩, cell, _, rfl, rfl, sz_of (Nat.le_of_ble_eq_true rfl), fun p hp => ?_⟩
        exact q p _ hp (Ex.new hp) ⟨_, _, _, upd_same, by decide, by decide⟩
      · refine ⟨.int cell, rfl, .int k, rfl, 61, k, rfl, rfl, .inl ⟨by decide, by decide⟩, sz_of (Nat.le_of_ble_eq_true rfl), fun p hp => ?_⟩
        exact q p _ hp (Ex.new hp) ⟨_, _, _, upd_same, by omega, by omega⟩
    refine ⟨.int k, rfl, .ref sa, rfl, sa, _, rfl, .inl hS, k, _, rfl, rfl, _, rfl, it2 (fun e => ?_) (fun e => ?_)⟩
    · have e : k < ((ns.map V.int).length : Int) := of_decide_eq_true e
      rw [List.length_map] at e
      obtain ⟨cell, g⟩ : ∃ cell, (ns.map V.int)[k.toNat]? = some (.int cell) := by
        refine ⟨ns[k.toNat]'(by omega), ?_⟩
        rw [List.getElem?_map, List.getElem?_eq_getElem (by omega)]
        rfl
      refine ⟨.ref sa, rfl, .int k, rfl, sa, _, k, .int cell, rfl, rfl, hS, ?_, fin cell⟩
      have z : k = ((k.toNat : Nat) : Int) := by omega
      rw [z]
      exact atI_nat (j := k.toNat) g
    · exact fin 0
def sp__law_take : Sp := fun vs H Q _ => ∃ (pa : Addr) (m : Int) (n : Nat), vs = [.ref pa, .int m] ∧ 0 < m ∧ m < 1099511627776 ∧ PoolB H pa (n + 1) ∧
  ∀ v H', 0 ≤ v → v < m → PoolB H' pa n → ExB pa H H' → Q (.int v) H'
theorem ok__law_take (T : Txt K mg z) : FnOk P w K mg base CX0 1 z.a__law_take z.d__law_take ["pool", "many"] (sp__law_take) := by
  refine T.F__law_take.ok sc__law_take (fun vs H Q E h => ?_) (fun cdv A outer s H vs Q E hr h => ?_)
  · obtain ⟨pa, m, n, rfl, _⟩ := h
    rfl
  · obtain ⟨pa, m, n, rfl, hm, hm2, ⟨a, b, c, hp, hc, hn⟩, q⟩ := h
    have hS : SqL K H pa [.int a, .int b, .int c] := .inl (.inl hp)
    refine ⟨_, (PSs.nox (pss_cons (ps_if (pt_cmpR op_eq (pe_ix (r := rIxL K) ix_list (pv 0) pe_int (fun _ _ => rfl)) pe_int (nomark _)) (pss_cons (ps_set (i := 2) sc__law_take.nd rfl (.inl rfl) (pe_op op_mod (pe_ix (r := rIxL K) ix_list (pv 0) pe_int (fun _ _ => rfl)) (pv 1)))
      (pss_cons (ps_asg (pe_op op_fdivW (pe_ix (r := rIxL K) ix_list (pv 0) pe_int (fun _ _ => rfl)) (pv 1)) (pg_sub (pv 0) pe_int set_list))
      (pss_one (ps_ret (pv 2))))) pss_nil)
      (pss_cons (ps_asg (pe_op op_add (pe_ix (r := rIxL K) ix_list (pv 0) pe_int (fun _ _ => rfl)) pe_int) (pg_sub (pv 0) pe_int set_list))
      (pss_cons (ps_set (i := 3) sc__law_take.nd rfl (.inl rfl) (pe_ix (r := rIxL K) ix_list (pv 0) pe_int (fun _ _ => rfl)))
      (pss_cons (ps_set (i := 4) sc__law_take.nd rfl (.inl rfl) (pe_op op_mulW (pe_op op_add (pe_op op_mod (pe_ix (r := rIxL K) ix_list (pv 0) pe_int (fun _ _ => rfl)) pe_int) pe_int) (pe_op op_add (pe_op op_mul pe_int (pv 3)) pe_int)))
      (pss_cons (ps_set (i := 4) sc__law_take.nd rfl (.inl rfl) (pe_op op_add (pv 4) (pe_op op_mulW (pe_op op_mul pe_int (pv 3)) (pv 3))))
      (pss_cons (ps_set (i := 4) sc__law_take.nd rfl (.inl rfl) (pe_op op_mod (pe_op op_mulW (pv 4) (pv 4)) pe_int))
      (pss_one (ps_ret (pe_op op_mod (pe_op op_fdivW (pe_op op_mod (pe_op op_mulW (pv 4) (pe_op op_add (pv 4) pe_int)) pe_int) pe_int) (pv 1))))))))))), ?_⟩
    refine ⟨.ref pa, rfl, pa, _, 1, .int b, rfl, rfl, hS, rfl, rfl, _, rfl, it2 (fun e => ?_) (fun e => ?_)⟩
    · refine ⟨.ref pa, rfl, pa, _, 0, .int a, rfl, rfl, hS, rfl, .int m, rfl, a, m, rfl, rfl, hm, ?_⟩
      refine ⟨.ref pa, rfl, pa, _, 0, .int a, rfl, rfl, hS, rfl, .int m, rfl, a, m, rfl, rfl, wide_div (b := 40) hm (by omega) (by decide) (by decide), ?_⟩
      refine ⟨.ref pa, rfl, pa, _, 0, 0, rfl, rfl, hp, rfl, ?_⟩
      exact ⟨_, rfl, q _ _ (Int.emod_nonneg a (by omega)) (Int.emod_lt_of_pos a hm) ⟨a / m, b, c, upd_same, hc, by omega⟩ ExB.upd⟩
    · refine ⟨.ref pa, rfl, pa, _, 2, .int c, rfl, rfl, hS, rfl, c, 1, rfl, rfl, ?_⟩
      refine ⟨.ref pa, rfl, pa, _, 2, 2, rfl, rfl, hp, rfl, ?_⟩
      generalize hH2 : upd H pa _ = H2
      have hp2 : H2 pa = some (.lst [.int a, .int b, .int (c + 1)]) := by
        rw [← hH2]
        exact upd_same
      have e2 : ExB pa H H2 := by
        rw [← hH2]
        exact ExB.upd
      have hS2 : SqL K H2 pa [.int a, .int b, .int (c + 1)] := .inl (.inl hp2)
      refine ⟨.ref pa, rfl, pa, _, 2, .int (c + 1), rfl, rfl, hS2, rfl, ?_⟩
      have m1 := Int.emod_nonneg a (show (9999999517 : Int) ≠ 0 by decide)
      have m2 := Int.emod_lt_of_pos a (show (0 : Int) < 9999999517 by decide)
      have w1 : (a % 9999999517 + 1031).natAbs < 2 ^ 40 := by omega
      have w2 : (53 * (c + 1) + 83).natAbs < 2 ^ 60 := by omega
      have w3 : (3607 * (c + 1)).natAbs < 2 ^ 60 := by omega
      have w4 : (c + 1).natAbs < 2 ^ 60 := by omega
      refine ⟨.ref pa, rfl, pa, _, 0, .int a, rfl, rfl, hS2, rfl, a, _, rfl, rfl, (show (0 : Int) < 9999999517 by decide), _, _, rfl, rfl, .int (c + 1), rfl, _, _, rfl, rfl, .inl ⟨by decide, by decide⟩, _, _, rfl, rfl, _, _, rfl, rfl, wide_mul w1 w2 (by decide) (by decide) (by decide), ?_⟩
      have w5 := wide_lt w1 w2
      try dsimp only
      generalize (a % 9999999517 + 1031) * (53 * (c + 1) + 83) = k1 at w5 ⊢
      refine ⟨.int k1, rfl, .int (c + 1), rfl, _, _, rfl, rfl, .inl ⟨by decide, by decide⟩, .int (c + 1), rfl, _, _, rfl, rfl, wide_mul w3 w4 (by decide) (by decide) (by decide), _, _, rfl, rfl, ?_⟩
      have w6 := wide_lt w3 w4
      try dsimp only
      generalize 3607 * (c + 1) * (c + 1) = k2 at w6 ⊢
      have w7 : (k1 + k2).natAbs < 2 ^ 130 := by omega
      try dsimp only
      generalize k1 + k2 = k3 at w7 ⊢
      refine ⟨.int k3, rfl, .int k3, rfl, _, _, rfl, rfl, wide_mul w7 w7 (by decide) (by decide) (by decide), _, _, rfl, rfl, (show (0 : Int) < 99999999563 by decide), ?_⟩
      have m3 := Int.emod_nonneg (k3 * k3) (show (99999999563 : Int) ≠ 0 by decide)
      have m4 := Int.emod_lt_of_pos (k3 * k3) (show (0 : Int) < 99999999563 by decide)
      try dsimp only
      generalize k3 * k3 % 99999999563 = k4 at m3 m4 ⊢
      have w8 : k4.natAbs < 2 ^ 40 := by omega
      have w9 : (k4 + 67).natAbs < 2 ^ 40 := by omega
      refine ⟨.int k4, rfl, .int k4, rfl, _, _, rfl, rfl, _, _, rfl, rfl, wide_mul w8 w9 (by decide) (by decide) (by decide), _, _, rfl, rfl, (show (0 : Int) < 99999999853 by decide), _, _, rfl, rfl, wide_div (b := 40) (by decide) (by decide) (by decide) (by decide), .int m, rfl, _, _, rfl, rfl, hm, ?_⟩
      exact q _ _ (Int.emod_nonneg _ (by omega)) (Int.emod_lt_of_pos _ hm) ⟨a, b, c + 1, hp2, by omega, by omega⟩ e2
def sp__law_far : Sp := fun vs H Q _ => ∃ (pa : Addr) (m n : Nat), vs = [.ref pa, .int (m : Int)] ∧ m ≤ 5 ∧ PoolB H pa (n + m) ∧ ∀ v H', 0 ≤ v → v < big m → PoolB H' pa n → ExB pa H H' → Q (.int v) H'
theorem ok__law_far (T : Txt K mg z) : FnOk P w K mg base CX0 2 z.a__law_far z.d__law_far ["pool", "turns"] (sp__law_far) := by
  refine T.F__law_far.ok sc__law_far (fun vs H Q E h => ?_) (fun cdv A outer s H vs Q E hr h => ?_)
  · obtain ⟨pa, m, n, rfl, _⟩ := h
    rfl
  · obtain ⟨pa, m, n, rfl, hm, pb, q⟩ := h
    refine ⟨_, (PSs.nox (pss_cons (ps_set (i := 2) sc__law_far.nd rfl (.inl rfl) pe_int)
      (pss_cons (ps_for PassesOwn.never rfl (pi_range1 (by rfl) T.m_range (pa_cons (pv 1) pa_nil)) (pg_name (i := 3) sc__law_far.nd rfl (.inl rfl)) (pss_one (ps_set (i := 2) sc__law_far.nd rfl (.inl rfl) (pe_op op_add (pe_op op_mulW (pv 2) (pe_op op_pow pe_int pe_int)) (pe_call (ok__law_take T) hr (by rfl) T.g__law_take T.F__law_take.kp T.b__law_take .nil pass0 (pa_cons (pv 0) (pa_cons (pe_op op_pow pe_int pe_int) pa_nil)))))))
      (pss_one (ps_ret (pv 2)))))), ?_⟩
    refine ⟨.int (m : Int), rfl, (m : Int), rfl, by omega, by omega, for_range (lo := 0) (n := (m : Int).toNat) (fun i σ H' => (∃ v y3, σ = [some (.ref pa), some (.int (m : Int)), some (.int v), y3] ∧ 0 ≤ v ∧ v < big i) ∧ i ≤ m ∧ PoolB H' pa (n + (m - i)) ∧ ExB pa H H') ⟨⟨0, none, rfl, by decide, by decide⟩, Nat.zero_le _, pb, ExB.refl _ _⟩ (fun i σ H1 hi hP => ?_) (fun σ H1 hP => ?_)⟩
    · obtain ⟨⟨v, y3, rfl, v0, v1⟩, hi2, pb1, e1⟩ := hP
      have hi3 : i < m := by omega
      have hb := big_le i (by omega)
      refine ⟨.int v, rfl, 10, 6, rfl, rfl, ⟨by decide, by decide, by decide⟩, v, 10 ^ (6 : Int).toNat, rfl, rfl, wide_mul (a := 100) (b := 20) (by omega) (by decide) (by decide) (by decide) (by decide), ?_⟩
      refine ⟨.ref pa, rfl, 10, 6, rfl, rfl, ⟨by decide, by decide, by decide⟩, pa, 10 ^ (6 : Int).toNat, n + (m - (i + 1)), rfl, by decide, by decide, ?_, fun w H2 w0 w1 pb2 e2 => ?_⟩
      · rw [show n + (m - (i + 1)) + 1 = n + (m - i) by omega]
        exact pb1
      · have w1 : w < 1000000 := w1
        obtain ⟨g0, g1⟩ := big_far v0 v1 w0 w1
        exact ⟨_, _, rfl, rfl, ⟨v * 1000000 + w, _, rfl, g0, g1⟩, hi3, pb2, e1.trans e2⟩
    · obtain ⟨⟨v, y3, rfl, v0, v1⟩, hi2, pb1, e1⟩ := hP
      rw [show (m : Int).toNat = m by omega] at v1 pb1
      rw [show n + (m - m) = n by omega] at pb1
      exact ⟨.int v, rfl, q v H1 v0 v1 pb1 e1⟩
def sp__law_all_primes : Sp := fun vs H Q _ => vs = [] ∧ ∀ p H', H p = none → Ex H H' → AccL H' p (primesL.map PyData.int) → Q (.ref p) H'
theorem ok__law_all_primes (T : Txt K mg z) : FnOk P w K mg base CX0 1 z.a__law_all_primes z.d__law_all_primes [] (sp__law_all_primes) := by
  refine T.F__law_all_primes.ok sc__law_all_primes (fun vs H Q E h => ?_) (fun cdv A outer s H vs Q E hr h => ?_)
  · obtain ⟨rfl, _⟩ := h
    rfl
  · obtain ⟨rfl, q⟩ := h
    refine ⟨_, (PSs.nox (pss_one (ps_ret (pe_lc (own := [("p", 0)]) (by rfl) sc__law_all_primes.nd (pi_range2 (by rfl) T.m_range (pa_cons pe_int (pa_cons pe_int pa_nil))) (blkOk_by (own := [("p", 0)]) (N := N__law_all_primes) (sc := (defScope s__law_all_primes)) (by decide +kernel)) (fun _ _ _ _ _ => (pg_name (i := 0) sc__law_all_primes.nd rfl (.inr rfl))) (fun _ _ _ _ _ => (pts_one (pt_cmpR (r := rEqD K) (op_eqD hr.units) (pe_lc (own := [("d", 1)]) (by rfl) sc__law_all_primes.nd (pi_range2 (by rfl) T.m_range (pa_cons pe_int (pa_cons pe_int pa_nil))) (blkOk_by (own := [("d", 1)]) (N := N__law_all_primes) (sc := (relS ({ kind := .function, names := [(".0", .local), ("p", .cell), ("range", .globalImplicit)], isGenerator := false, isCoroutine := false, more := [] } : Scope) (defScope s__law_all_primes))) (by decide +kernel)) (fun _ _ _ _ _ => (pg_name (i := 1) sc__law_all_primes.nd rfl (.inl rfl))) (fun _ _ _ _ _ => (pts_one (PW.pt (pw_and (pt_cmpR op_eq (pe_op op_mod (pv 0) (pv 1)) pe_int (nomark _)) (pw_and1 (pt_cmpR op_lt (pv 1) (pv 0) (nomark _))))))) (fun _ _ _ _ _ => (pv 1))) (pe_lst pa_nil) (nomark _)))) (fun _ _ _ _ _ => (pv 0)))))), ?_⟩
    refine s_retN (ds := primesL.map PyData.int) ?_ q
    refine en_lcR2 (lo := 2) (hi := 1000) (fun p => ((irng 2 32).filter fun d => decide (p % d = 0) && decide (d < p)).isEmpty) PyData.int (ea_cons ev_c (ea_cons ev_c ea_nil)) ⟨by decide, by decide, by decide, by decide, by decide⟩ ?hw ?ht ?he ?hn
    case hw => exact fun _ => rfl
    case he => exact fun x _ _ _ => ed_int (ev_var rfl)
    case hn => exact fun _ _ _ _ => rfl
    case ht =>
      intro p p0 p1
      have hN := en_lcR2 (ta := tCons (tC (.int 2)) (tCons (tC (.int 32)) tNil)) (j := 1) (vs := [1]) (σ := [some (.int p), none]) (H := H) (t := tAnd (tTest (tOp rEq (tOp (rI (fun _ j => 0 < j) fun i j => .int (i % j)) (tVar 0) (tVar 1)) (tC (.int 0)))) (tTest (tOp (rI0 fun i j => .bl (decide (i < j))) (tVar 1) (tVar 0)))) (te := tVar 1) (lo := 2) (hi := 32)
        (fun d => decide (p % d = 0) && decide (d < p)) PyData.int (ea_cons ev_c (ea_cons ev_c ea_nil)) ⟨by decide, by decide, by decide, by decide, by decide⟩ (fun _ => rfl) (fun d d0 d1 => ?_) (fun d _ _ _ => ed_int (ev_var rfl)) (fun _ _ _ _ => rfl)
      · have h := ev_eqNil (K := K) hN (shaped_ints _)
        rw [show (((irng 2 32).filter fun d => decide (p % d = 0) && decide (d < p)).map PyData.int).isEmpty = ((irng 2 32).filter fun d => decide (p % d = 0) && decide (d < p)).isEmpty from by cases ((irng 2 32).filter fun d => decide (p % d = 0) && decide (d < p)) <;> rfl] at h
        exact et_test h
      · have h := rv_eq (H := H) (x := .int (p % d)) (y := .int 0) rfl
        rw [dI] at h
        exact et_and (et_test (ev_op (ev_op (ev_var (v := .int p) rfl) (ev_var (v := .int d) rfl) (rv_I (C := fun _ j => 0 < j) (show (0 : Int) < d by omega))) ev_c h)) fun _ => et_test (ev_op (ev_var (v := .int d) rfl) (ev_var (v := .int p) rfl) rv_I0)
def sp__law_prime : Sp := fun vs H Q _ => ∃ (pa la : Addr) (n : Nat), vs = [.ref pa, .ref la] ∧ H la = some (.lst (primesL.map V.int)) ∧ la ≠ pa ∧ PoolB H pa (n + 2) ∧ ∀ p H', p ∈ primesL → PoolB H' pa n → ExB pa H H' → Q (.int p) H'
theorem ok__law_prime (T : Txt K mg z) : FnOk P w K mg base CX0 2 z.a__law_prime z.d__law_prime ["pool", "primes"] (sp__law_prime) := by
  refine T.F__law_prime.ok sc__law_prime (fun vs H Q E h => ?_) (fun cdv A outer s H vs Q E hr h => ?_)
  · obtain ⟨pa, la, n, rfl, _⟩ := h
    rfl
  · obtain ⟨pa, la, n, rfl, hl, hne, pb, q⟩ := h
    refine ⟨_, (PSs.nox (pss_cons (ps_set (i := 2) sc__law_prime.nd rfl (.inl rfl) (pe_call (ok__law_take T) hr (by rfl) T.g__law_take T.F__law_take.kp T.b__law_take .nil pass0 (pa_cons (pv 0) (pa_cons pe_int pa_nil))))
      (pss_cons (ps_if (pt_cmpR op_eq (pv 2) pe_int (nomark _)) (pss_one (ps_ret (pe_ix (r := rIxL K) ix_list (pv 1) (pe_call (ok__law_take T) hr (by rfl) T.g__law_take T.F__law_take.kp T.b__law_take .nil pass0 (pa_cons (pv 0) (pa_cons pe_int pa_nil))) (fun _ _ => rfl)))) pss_nil)
      (pss_cons (ps_if (pt_cmpR op_eq (pv 2) pe_int (nomark _)) (pss_one (ps_ret (pe_ix (r := rIxL K) ix_list (pv 1) (pe_call (ok__law_take T) hr (by rfl) T.g__law_take T.F__law_take.kp T.b__law_take .nil pass0 (pa_cons (pv 0) (pa_cons pe_int pa_nil))) (fun _ _ => rfl)))) pss_nil)
      (pss_one (ps_ret (pe_ix (r := rIxL K) ix_list (pv 1) (pe_op op_sub pe_int (pe_call (ok__law_take T) hr (by rfl) T.g__law_take T.F__law_take.kp T.b__law_take .nil pass0 (pa_cons (pv 0) (pa_cons pe_int pa_nil)))) (fun _ _ => rfl)))))))), ?_⟩
    refine ⟨.ref pa, rfl, pa, 3, n + 1, rfl, by decide, by decide, pb, fun way H1 l1 u1 pb1 e1 => ?_⟩
    have hl1 := e1 _ _ hne hl
    have fin : ∀ (v : Int) (H2 : Hp), 0 ≤ v → v < 168 → PoolB H2 pa n → ExB pa H1 H2 → rIxL K (.ref la) (.int v) H2 Q := fun v H2 v0 v1 pb2 e2 => by
      obtain ⟨p, h1, h2⟩ := primesL_get (i := v.toNat) (by omega)
      refine ⟨la, _, v, .int p, rfl, rfl, .inl (.inl (e2 _ _ hne hl1)), ?_, q p H2 h2 pb2 (e1.trans e2)⟩
      rw [show v = ((v.toNat : Nat) : Int) by omega]
      exact atI_nat (j := v.toNat) h1
    refine ⟨.int way, rfl, rfl, _, rfl, it2 (fun _ => ?_) (fun c1 => ?_)⟩
    · exact ⟨.ref la, rfl, .ref pa, rfl, pa, 8, n, rfl, by decide, by decide, pb1, fun v H2 l2 u2 pb2 e2 => fin v H2 l2 (by omega) pb2 e2⟩
    refine ⟨.int way, rfl, rfl, _, rfl, it2 (fun _ => ?_) (fun c2 => ?_)⟩
    · exact ⟨.ref la, rfl, .ref pa, rfl, pa, 168, n, rfl, by decide, by decide, pb1, fun v H2 l2 u2 pb2 e2 => fin v H2 l2 (by omega) pb2 e2⟩
    · exact ⟨.ref la, rfl, .ref pa, rfl, pa, 12, n, rfl, by decide, by decide, pb1, fun v H2 l2 u2 pb2 e2 => ⟨167, v, rfl, rfl, fin (167 - v) H2 (by omega) (by omega) pb2 e2⟩⟩
/-- [_law_prime(pool, primes) for turn in range(m)] -/
theorem lc_primes {ta : TA} {j ip il : Nat} {σ : L2.St} {H : Hp} {pa la : Addr} {m : Int} {n : Nat} {Q : VK} (hA : EvA ta σ H [.int m]) (hm : 0 ≤ m ∧ m ≤ 1000) (hw : ∀ x, wipe ((wipe σ [j]).set j (some x)) [j] = wipe σ [j])
    (hi : ∀ x, ((wipe σ [j]).set j (some x))[ip]? = some (some (.ref pa))) (hil : ∀ x, ((wipe σ [j]).set j (some x))[il]? = some (some (.ref la))) (hl : H la = some (.lst (primesL.map V.int))) (hne : la ≠ pa) (pb : PoolB H pa (n + 2 * m.toNat))
    (q : ∀ (D : Addr) (qs : List Int) (H' : Hp), H D = none → qs.length = m.toNat → (∀ x ∈ qs, x ∈ primesL) → H' D = some (.lst (qs.map V.int)) → PoolB H' pa n → ExB pa H H' → Q (.ref D) H') :
    tLc (iRng1 ta) (gName j) tYes (tCall sp__law_prime [] E0 (tCons (tVar ip) (tCons (tVar il) tNil))) [j] σ H Q := hA H (Ex.refl H) _ fun H1 e1 => by
  refine ⟨m, rfl, by omega, by omega, fun D hD => lc_range (lo := 0) (n := m.toNat) (fun i H' => ∃ qs : List Int, qs.length = i ∧ (∀ x ∈ qs, x ∈ primesL) ∧ H' D = some (.lst (qs.map V.int)) ∧ i ≤ m.toNat ∧ PoolB H' pa (n + 2 * (m.toNat - i)) ∧ ExB pa H H')
    ⟨[], rfl, (fun x hx => nomatch hx), upd_same, Nat.zero_le _, (pb.up e1).dr hD, ExB.of (e1.trans (Ex.new hD))⟩ (fun i H2 hi2 hP => ?_) (fun H2 hP => ?_)⟩
  · obtain ⟨qs, h1, h2, h3, h4, pb2, e2⟩ := hP
    refine ⟨hw _, ?_⟩
    have hDp : D ≠ pa := (pb.up e1).ne hD
    refine ⟨.ref pa, hi _, .ref la, hil _, pa, la, n + 2 * (m.toNat - (i + 1)), rfl, e2 _ _ hne hl, hne, ?_, fun p H4 hp pb4 e4 => ?_⟩
    · rw [show n + 2 * (m.toNat - (i + 1)) + 2 = n + 2 * (m.toNat - i) by omega]
      exact pb2
    · refine ⟨_, e4 _ _ hDp h3, sz_lt ?_, qs ++ [p], ?_, ?_, ?_, by omega, ?_, ?_⟩
      · rw [List.length_map]
        omega
      · rw [List.length_append, h1]
        rfl
      · intro x hx
        rcases List.mem_append.mp hx with z | z
        · exact h2 x z
        · rcases List.mem_cons.mp z with z | z
          · rw [z]
            exact hp
          · cases z
      · rw [upd_same, List.map_append]
        rfl
      · obtain ⟨a, b, c, h, k⟩ := pb4
        exact ⟨a, b, c, by rw [upd_ne (Ne.symm hDp)]; exact h, k⟩
      · intro x o hx hox
        have hxD : x ≠ D := ne_of_none hox (fresh_back e1 hD)
        rw [upd_ne hxD]
        exact e4 _ _ hx (e2 _ _ hx hox)
  · obtain ⟨qs, h1, h2, h3, h4, pb2, e2⟩ := hP
    rw [show n + 2 * (m.toNat - m.toNat) = n by omega] at pb2
    exact q D qs H2 (fresh_back e1 hD) h1 h2 h3 pb2 e2
def sp__law_right : Sp := fun vs H Q _ => ∃ (da : Addr) (v : V) (d : PyData), vs = [.ref da, v] ∧ H da = some (.dK thereK) ∧ Dt H v d ∧ Shows d ∧ Q (.bl true) H
theorem ok__law_right (T : Txt K mg z) : FnG P w K mg base CX0 3 z.a__law_right z.d__law_right ["there", "thing"] (sp__law_right) := by
  refine okG T.F__law_right sc__law_right (fun vs H Q E h => ?_) (fun cdv A outer s H vs Q E hG hr h => ?_)
  · obtain ⟨da, v, d, rfl, _⟩ := h
    rfl
  · obtain ⟨da, v, d, rfl, hda, hd, hs, q⟩ := h
    refine ⟨_, (PSs.nox (pss_cons (ps_set (i := 2) sc__law_right.nd rfl (.inl rfl) (pe_callB (r := rRepr) (call_reprD hG hr.units) (by rfl) T.m_repr (by decide +kernel) (pa_cons (pv 1) pa_nil)))
      (pss_cons (ps_set (i := 3) sc__law_right.nd rfl (.inl rfl) (pe_call (ok_is_prime T) hr (by rfl) T.g_is_prime T.F_is_prime.kp T.b_is_prime .nil pass0 (pa_cons (pv 1) pa_nil)))
      (pss_cons (ps_set (i := 4) sc__law_right.nd rfl (.inl rfl) (pe_and (pe_callB (r := rIsi K) call_isi (by rfl) T.m_isinstance (by decide +kernel) (pa_cons (pv 1) (pa_cons (pe_bltn (v := .ty "int") (by rfl) T.m_int (by decide +kernel) rfl) pa_nil))) (pe_and (pe_not (pe_callB (r := rIsi K) call_isi (by rfl) T.m_isinstance (by decide +kernel) (pa_cons (pv 1) (pa_cons (pe_bltn (v := .ty "bool") (by rfl) T.m_bool (by decide +kernel) rfl) pa_nil)))) (pe_one (pe_cmp (pc_din (hu_of hr) (pv 1) (pv 0)) rfl)))))
      (pss_one (ps_ret (pe_and (pe_callB (r := rIsi K) call_isi (by rfl) T.m_isinstance (by decide +kernel) (pa_cons (pv 3) (pa_cons (pe_bltn (v := .ty "bool") (by rfl) T.m_bool (by decide +kernel) rfl) pa_nil))) (pe_and (pe_cmpR op_eq (pv 3) (pv 4) (nomark _)) (pe_one (pe_cmpR op_eq (pe_callB (r := rRepr) (call_reprD hG hr.units) (by rfl) T.m_repr (by decide +kernel) (pa_cons (pv 1) pa_nil)) (pv 2) (nomark _))))))))))), ?_⟩
    refine ⟨v, rfl, v, d, rfl, hd, hs, ?_⟩
    refine ⟨v, rfl, v, d, rfl, hd, ?_⟩
    refine ⟨v, rfl, _, _, _, _, _, rfl, .ty _, (hd).ty, kit_ty ( kit_int d), dInt d, rfl, ?_⟩
    have fin : ∀ b : Bool, b = dPrime d → tRet (tAndV (tCB (rIsi K) (tCons (tVar 3) (tCons (tC (.ty "bool")) tNil))) (tAndV (tOp rEq (tVar 3) (tVar 4)) (tOp rEq (tCB rRepr (tCons (tVar 1) tNil)) (tVar 2)))) { nx := fun _ H' => Q .non H', rt := Q } [some (.ref da), some v, some (.str d.shown), some (.bl (dPrime d)), some (.bl b)] H := by
      intro b e
      subst e
      refine ⟨_, rfl, _, _, _, _, _, rfl, .ty _, ((Dt.bl (H := H) (dPrime d))).ty, kit_ty ( kit_bool _), true, rfl, itT rfl ?_⟩
      refine ⟨_, rfl, _, rfl, rfl, true, ?_, itT rfl ?_⟩
      · rw [decide_eq_true rfl]
      refine ⟨v, rfl, v, d, rfl, hd, hs, _, rfl, rfl, ?_⟩
      rw [decide_eq_true rfl]
      exact q
    cases d with
    | int n =>
      cases hd
      refine itT rfl ⟨_, rfl, _, _, _, _, _, rfl, .ty _, ((Dt.int (H := H) n)).ty, kit_ty ( kit_bool _), false, rfl, true, rfl, itT rfl ?_⟩
      exact ⟨.int n, rfl, .ref da, rfl, da, _, rfl, DGet.k (k := Sum.inl n) hda, fin _ (there_get n)⟩
    | bool b => exact itT rfl ⟨_, rfl, _, _, _, _, _, rfl, .ty _, (hd).ty, kit_ty ( kit_bool _), true, rfl, false, rfl, itF rfl (fin false rfl)⟩
    | none => exact itF rfl (fin false rfl)
    | str x => exact itF rfl (fin false rfl)
    | list x => exact itF rfl (fin false rfl)
    | tuple x => exact itF rfl (fin false rfl)
    | dict x => exact itF rfl (fin false rfl)
theorem shows_l1 {a : Int} (ha : a.natAbs.log2 < 1920) : Shows (.list [.int a]) := .of (by
  show ((PyData.int a).showable && true) = true
  rw [showI ha]
  rfl) ⟨trivial, trivial⟩ (Nat.le_of_ble_eq_true rfl) (Nat.le_of_ble_eq_true rfl) (fun z => nomatch z)
theorem shows_t1 {a : Int} (ha : a.natAbs.log2 < 1920) : Shows (.tuple [.int a]) := .of (by
  show ((PyData.int a).showable && true) = true
  rw [showI ha]
  rfl) ⟨trivial, trivial⟩ (Nat.le_of_ble_eq_true rfl) (Nat.le_of_ble_eq_true rfl) (fun z => rfl)
theorem shows_l2 {a b : Int} (ha : a.natAbs.log2 < 1920) (hb : b.natAbs.log2 < 1920) : Shows (.list [.int a, .int b]) := .of (by
  show ((PyData.int a).showable && ((PyData.int b).showable && true)) = true
  rw [showI ha, showI hb]
  rfl) ⟨trivial, trivial, trivial⟩ (Nat.le_of_ble_eq_true rfl) (Nat.le_of_ble_eq_true rfl) (fun z => nomatch z)
theorem shows_d1 {a b : Int} (ha : a.natAbs.log2 < 1920) (hb : b.natAbs.log2 < 1920) : Shows (.dict [(.int a, .int b)]) := .of (by
  show ((PyData.int a).showable && (PyData.int b).showable && true) = true
  rw [showI ha, showI hb]
  rfl) ⟨trivial, trivial, trivial⟩ (Nat.le_of_ble_eq_true rfl) (Nat.le_of_ble_eq_true rfl) (fun z => rfl)
theorem shows_str {x : Str} (h : okS x) (hl : x.length ≤ 9000) : Shows (.str x) := .of rfl h (Nat.zero_le _) (show 10 * x.length + 2 ≤ 100000 by omega) (fun z => nomatch z)
theorem okS_list {a : Int} : okS (PyData.list [.int a]).shown := okS_app (okS_app (okS_app (okS_of _) (okS_of _)) (okS_of _)) (okS_of _)
def sp_law (K : PySem.W.Frag) : Sp := fun vs H Q _ => ∃ (a : Addr) (ns : List Int), vs = [.ref a] ∧ SqL K H a (ns.map V.int) ∧ ∀ H', Q (.bl true) H'
theorem law_start {H : Hp} {a : Addr} {ns : List Int} (hl : ns.length ≤ 63) (ho : Only H) (hS : SqL K H a (ns.map V.int)) : sp_law K [.ref a] H (fun v _ => v = .bl true) fun _ _ _ => False := ⟨a, ns, rfl, hS, fun _ => rfl⟩
theorem right_no {σ : L2.St} {H : Hp} {da : Addr} {i : Nat} {v : V} {d : PyData} (h2 : σ[2]? = some (some (.ref da))) (hi : σ[i]? = some (some v)) (hda : H da = some (.dK thereK)) (hv : Dt H v d) (hs : Shows d) : EvT (tNot (tB (tCall sp__law_right [] E0 (tCons (tVar 2) (tCons (tVar i) tNil))))) σ H false :=
  et_not (a := true) (et_B (ev_call (vs := [.ref da, v]) (ea_cons (ev_var h2) (ea_cons (ev_var hi) ea_nil)) fun H1 e1 Q' q' E' => ⟨da, v, d, rfl, e1 _ _ hda, hv.up e1, hs, q' H1 (Ex.refl H1)⟩))
theorem none_left {σ : L2.St} {H : Hp} {da : Addr} {tl : TE} {ds : List PyData} (hl : EvD tl σ H (.list ds)) (hz : ds.length ≤ 40000) (h2 : ∀ x, ((wipe σ [9]).set 9 (some x))[2]? = some (some (.ref da))) (h9 : ∀ x, ((wipe σ [9]).set 9 (some x))[9]? = some (some x)) (hw : ∀ x, wipe ((wipe σ [9]).set 9 (some x)) [9] = wipe σ [9]) (hda : H da = some (.dK thereK)) (hs : ∀ d ∈ ds, Shows d) :
    EvT (tTest (tOp (rNeD K) (tLc (iList K tl) (gName 9) (tNot (tB (tCall sp__law_right [] E0 (tCons (tVar 2) (tCons (tVar 9) tNil))))) (tVar 9) [9]) (tLst tNil))) σ H false := by
  have hN := en_lcD (K := K) (tl := tl) (j := 9) (vs := [9]) (te := tVar 9) (t := tNot (tB (tCall sp__law_right [] E0 (tCons (tVar 2) (tCons (tVar 9) tNil))))) (fun _ => false) id hl hz hw (fun H1 v d e1 hm hv => right_no (h2 v) (h9 v) (e1 _ _ hda) hv (hs d hm)) (fun _ _ _ _ _ _ z => nomatch z) (fun _ _ z => nomatch z)
  rw [List.filter_eq_nil_iff.mpr (fun _ _ => Bool.false_ne_true)] at hN
  exact et_test (ev_neNil hN rfl)
theorem ok_law (T : Txt K mg z) : FnG P w K mg base CX0 4 z.a_law z.d_law ["script"] (sp_law K) := by
  refine okG T.F_law sc_law (fun vs H Q E h => ?_) (fun cdv A outer s H vs Q E hG hr h => ?_)
  · obtain ⟨a, ns, rfl, _⟩ := h
    rfl
  · obtain ⟨a, ns, rfl, hS, q⟩ := h
    refine ⟨_, (PSs.nox (pss_cons (ps_set (i := 1) sc_law.nd rfl (.inl rfl) (pe_call0 (ok__law_all_primes T) (hr.mono (by decide)) (by rfl) T.g__law_all_primes T.F__law_all_primes.kp T.b__law_all_primes .nil pass0))
      (pss_cons (ps_set (i := 2) sc_law.nd rfl (.inr rfl) (pe_callTy (call_dictP rfl) (by rfl) T.m_dict (by decide +kernel) (pa_cons (pe_lc (own := [("p", 5)]) (by rfl) sc_law.nd (pi_listK K (pv 1)) (blkOk_by (own := [("p", 5)]) (N := N_law) (sc := (defScope s_law)) (by decide +kernel)) (fun _ _ _ _ _ => (pg_name (i := 5) sc_law.nd rfl (.inl rfl))) (fun _ _ _ _ _ => pts_nil) (fun _ _ _ _ _ => (pe_tup (pa_cons (pv 5) (pa_cons pe_bl pa_nil))))) pa_nil)))
      (pss_cons (ps_if (pt_cmpR (r := rNeD K) (op_neD hr.units) (pe_lc (own := [("number", 10)]) (by rfl) sc_law.nd (pi_range2 (by rfl) T.m_range (pa_cons (pe_un un_neg pe_int) (pa_cons pe_int pa_nil))) (blkOk_by (own := [("number", 10)]) (N := N_law) (sc := (defScope s_law)) (by decide +kernel)) (fun _ _ _ _ _ => (pg_name (i := 10) sc_law.nd rfl (.inl rfl))) (fun _ _ _ _ _ => (pts_one (pt_not (pt_val (pe_callG (ok__law_right T) hG hr (by rfl) T.g__law_right T.F__law_right.kp T.b__law_right .nil pass0 (pa_cons (pv 2) (pa_cons (pv 10) pa_nil))))))) (fun _ _ _ _ _ => (pv 10))) (pe_lst pa_nil) (nomark _)) (pss_one (ps_ret pe_bl)) pss_nil)
      (pss_cons (ps_for PassesOwn.never rfl (pi_range1 (by rfl) T.m_range (pa_cons (pe_callB (call_max2 rfl) (by rfl) T.m_max (by decide +kernel) (pa_cons pe_int (pa_cons (pe_callB (call_min2 rfl) (by rfl) T.m_min (by decide +kernel) (pa_cons pe_int (pa_cons (pe_callB (r := rLenS K) call_len_seq (by rfl) T.m_len (by decide +kernel) (pa_cons (pv 0) pa_nil)) pa_nil))) pa_nil))) pa_nil)) (pg_name (i := 3) sc_law.nd rfl (.inl rfl)) (pss_cons (ps_set (i := 4) sc_law.nd rfl (.inl rfl) (pe_call (ok__law_pool T) (hr.mono (by decide)) (by rfl) T.g__law_pool T.F__law_pool.kp T.b__law_pool .nil pass0 (pa_cons (pv 0) (pa_cons (pv 3) pa_nil))))
      (pss_cons (ps_set (i := 5) sc_law.nd rfl (.inl rfl) (pe_call (ok__law_prime T) (hr.mono (by decide)) (by rfl) T.g__law_prime T.F__law_prime.kp T.b__law_prime .nil pass0 (pa_cons (pv 4) (pa_cons (pv 1) pa_nil))))
      (pss_cons (ps_set (i := 6) sc_law.nd rfl (.inl rfl) (pe_call (ok__law_prime T) (hr.mono (by decide)) (by rfl) T.g__law_prime T.F__law_prime.kp T.b__law_prime .nil pass0 (pa_cons (pv 4) (pa_cons (pv 1) pa_nil))))
      (pss_cons (ps_set (i := 7) sc_law.nd rfl (.inl rfl) (pe_call (ok__law_far T) (hr.mono (by decide)) (by rfl) T.g__law_far T.F__law_far.kp T.b__law_far .nil pass0 (pa_cons (pv 4) (pa_cons pe_int pa_nil))))
      (pss_cons (ps_set (i := 8) sc_law.nd rfl (.inl rfl) (pe_lst (pa_cons (pv 5) (pa_cons (pv 6) (pa_cons (pe_op op_mulW (pv 5) (pv 6)) (pa_cons (pe_op op_mulW (pv 5) (pv 5)) (pa_cons (pe_op op_mulW (pe_op op_mulW (pv 5) (pv 6)) (pv 5)) (pa_cons (pe_op op_sub pe_int (pv 5)) (pa_cons (pe_op op_add (pv 5) pe_int) (pa_cons (pe_op op_mul pe_int (pv 5)) (pa_cons (pe_op op_add (pv 5) (pe_op op_mul pe_int (pv 7))) (pa_cons (pv 7) (pa_cons (pe_op op_sub pe_int (pv 7)) (pa_cons (pe_op op_add (pv 5) (pe_op op_pow pe_int pe_int)) pa_nil))))))))))))))
      (pss_cons (ps_set (i := 8) sc_law.nd rfl (.inl rfl) (pe_op op_cat (pv 8) (pe_lst (pa_cons (pe_callTy call_str_int (by rfl) T.m_str (by decide +kernel) (pa_cons (pv 5) pa_nil)) (pa_cons (pe_lst (pa_cons (pv 5) pa_nil)) (pa_cons (pe_tup (pa_cons (pv 5) pa_nil)) (pa_cons (pe_disp (pps_cons (pv 5) (pv 6) pps_nil) (by rfl) (by rfl) (fun z => by cases z) (by decide)) (pa_cons (pe_tup (pa_cons (pv 5) (pa_cons (pv 6) pa_nil))) (pa_cons (pe_lst (pa_cons (pv 5) (pa_cons (pv 6) pa_nil))) (pa_cons (pe_callB (r := rRepr) (call_reprD hG hr.units) (by rfl) T.m_repr (by decide +kernel) (pa_cons (pe_lst (pa_cons (pv 5) pa_nil)) pa_nil)) (pa_cons (pe_op op_mulW (pv 5) (pe_op op_pow pe_int pe_int)) pa_nil)))))))))))
      (pss_one (ps_if (pt_cmpR (r := rNeD K) (op_neD hr.units) (pe_lc (own := [("thing", 9)]) (by rfl) sc_law.nd (pi_listK K (pv 8)) (blkOk_by (own := [("thing", 9)]) (N := N_law) (sc := (defScope s_law)) (by decide +kernel)) (fun _ _ _ _ _ => (pg_name (i := 9) sc_law.nd rfl (.inl rfl))) (fun _ _ _ _ _ => (pts_one (pt_not (pt_val (pe_callG (ok__law_right T) hG hr (by rfl) T.g__law_right T.F__law_right.kp T.b__law_right .nil pass0 (pa_cons (pv 2) (pa_cons (pv 9) pa_nil))))))) (fun _ _ _ _ _ => (pv 9))) (pe_lst pa_nil) (nomark _)) (pss_one (ps_ret pe_bl)) pss_nil)))))))))
      (pss_cons (ps_for PassesOwn.never rfl (pi_listK K (pe_lst (pa_cons pe_non (pa_cons pe_bl (pa_cons pe_bl (pa_cons pe_str (pa_cons pe_str (pa_cons (pe_tup pa_nil) (pa_cons (pe_lst pa_nil) (pa_cons pe_dnewK (pa_cons (pe_tup (pa_cons pe_int pa_nil)) (pa_cons (pe_lst (pa_cons pe_int pa_nil)) (pa_cons pe_int (pa_cons pe_int (pa_cons pe_int (pa_cons pe_int (pa_cons pe_int (pa_cons (pe_op op_sub (pe_op op_pow pe_int pe_int) pe_int) pa_nil)))))))))))))))))) (pg_name (i := 9) sc_law.nd rfl (.inl rfl)) (pss_one (ps_if (pt_not (pt_val (pe_callG (ok__law_right T) hG hr (by rfl) T.g__law_right T.F__law_right.kp T.b__law_right .nil pass0 (pa_cons (pv 2) (pa_cons (pv 9) pa_nil))))) (pss_one (ps_ret pe_bl)) pss_nil)))
      (pss_one (ps_ret (pe_and (pe_cmpR op_isBl (pe_call (ok_is_prime T) (hr.mono (by decide)) (by rfl) T.g_is_prime T.F_is_prime.kp T.b_is_prime .nil pass0 (pa_cons pe_int pa_nil)) pe_bl (nomark _)) (pe_and (pe_cmpR op_isBl (pe_call (ok_is_prime T) (hr.mono (by decide)) (by rfl) T.g_is_prime T.F_is_prime.kp T.b_is_prime .nil pass0 (pa_cons pe_int pa_nil)) pe_bl (nomark _)) (pe_and (pe_cmpR op_isBl (pe_call (ok_is_prime T) (hr.mono (by decide)) (by rfl) T.g_is_prime T.F_is_prime.kp T.b_is_prime .nil pass0 (pa_cons pe_int pa_nil)) pe_bl (nomark _)) (pe_one (pe_cmpR op_isBl (pe_call (ok_is_prime T) (hr.mono (by decide)) (by rfl) T.g_is_prime T.F_is_prime.kp T.b_is_prime .nil pass0 (pa_cons pe_int pa_nil)) pe_bl (nomark _)))))))))))))), ?_⟩
    refine ⟨rfl, fun la H0 hla0 e0 aa0 => ?_⟩
    obtain ⟨acc0, hl0, hdt0, _⟩ := aa0
    have ei0 := DtAll.ints_eq _ hdt0
    subst ei0
    -- there = dict([(p, True) for p in primes])
    have hN : EvN (tLc (iList K (tVar 1)) (gName 5) tYes (tTup (tCons (tVar 5) (tCons (tC (.bl true)) tNil))) [5]) [some (.ref a), some (.ref la), none, none, none, none, none, none, none, none, none] H0 (primesL.map fun p => PyData.tuple [.int p, .bool true]) := by
      have e : (primesL.map fun p => PyData.tuple [.int p, .bool true]) = ((primesL.map PyData.int).filter fun _ => true).map fun x => PyData.tuple [.int (dI0 x), .bool true] := by
        rw [List.filter_eq_self.mpr (fun _ _ => rfl), List.map_map]
        rfl
      rw [e]
      refine en_lcD (fun _ => true) (fun x => PyData.tuple [.int (dI0 x), .bool true]) (ed_var (v := .ref la) rfl (.lst hl0 hdt0)) ?_ (fun _ => rfl) (fun H1 v d _ _ _ H2 _ Q' q' => q' H2 (Ex.refl H2)) (fun H1 v d e1 hm hv _ => ?_) (fun d _ _ => rfl)
      · rw [List.length_map, primesL_len]
        decide
      · obtain ⟨p, hp, rfl⟩ := List.mem_map.mp hm
        cases hv
        exact ed_tup (eda_cons (ed_int (ev_var rfl)) (eda_cons ed_bl eda_nil)) (Nat.le_of_ble_eq_true rfl)
    dsimp only [gName_app]
    refine go_asg (go_cb (hN H0 (Ex.refl H0) _ fun D H1 hD e1 aD => ?_))
    obtain ⟨accD, hD1, hDt, _⟩ := aD
    obtain ⟨as, eas, hpa⟩ := pairs_of (K := K) primesL accD hDt
    subst eas
    refine ⟨D, as, _, rfl, sq_of hD1, hpa, fun da hda => ?_⟩
    have e2 : Ex H0 (upd H1 da (.dK thereK)) := e1.trans (Ex.new hda)
    have hda2 : (upd H1 da (.dK thereK)) da = some (.dK thereK) := upd_same
    show tSeq _ _ _ [some (.ref a), some (.ref la), some (.ref da), none, none, none, none, none, none, none, none] (upd H1 da (.dK thereK))
    generalize upd H1 da (.dK thereK) = H2 at e2 hda2
    -- range(-40, 1041)
    have hR := en_lcR2 (H := H2) (σ := [some (.ref a), some (.ref la), some (.ref da), none, none, none, none, none, none, none, none]) (ta := tCons (tUn (rU fun i => .int (-i)) (tC (.int 40))) (tCons (tC (.int 1041)) tNil)) (j := 10) (vs := [10]) (te := tVar 10) (t := tNot (tB (tCall sp__law_right [] E0 (tCons (tVar 2) (tCons (tVar 10) tNil)))))
      (lo := -40) (hi := 1041) (fun _ => false) PyData.int (ea_cons (ev_un ev_c ru_neg) (ea_cons ev_c ea_nil)) ⟨by decide, by decide, by decide, by decide, by decide⟩ (fun _ => rfl) (fun x x0 x1 => right_no (i := 10) (v := .int x) rfl rfl hda2 (.int x) (shows_int (log_of (k := 20) (by omega) (by decide) (by decide)))) (fun _ _ _ z => nomatch z) (fun _ _ _ z => nomatch z)
    rw [List.filter_eq_nil_iff.mpr (fun _ _ => Bool.false_ne_true)] at hR
    refine q_when (et_test (ev_neNil (K := K) hR rfl)) (fun z => nomatch z) (fun _ H3 e3 => ?_)
    have g3 := e2.trans e3
    have hda3 := e3 _ _ hda2
    obtain ⟨t1, t2⟩ := turns_ok 15 ((ns.map V.int).length : Int) (by decide) (Int.natCast_nonneg _)
    refine ⟨.ref a, rfl, a, _, rfl, .inl (ex_l (e0.trans g3) hS), 15, _, rfl, 1, _, rfl, _, rfl, ?_, ?_, ?_⟩
    · show -(2 ^ 62) ≤ (if (if ((ns.map V.int).length : Int) < 15 then ((ns.map V.int).length : Int) else 15) > 1 then (if ((ns.map V.int).length : Int) < 15 then ((ns.map V.int).length : Int) else 15) else 1)
      omega
    · show (if (if ((ns.map V.int).length : Int) < 15 then ((ns.map V.int).length : Int) else 15) > 1 then (if ((ns.map V.int).length : Int) < 15 then ((ns.map V.int).length : Int) else 15) else 1) < 2 ^ 62
      omega
    generalize (if (if ((ns.map V.int).length : Int) < 15 then ((ns.map V.int).length : Int) else 15) > 1 then (if ((ns.map V.int).length : Int) < 15 then ((ns.map V.int).length : Int) else 15) else 1) = J at t1 t2
    have hl3 := g3 _ _ hl0
    have hS3 := ex_l (e0.trans g3) hS
    refine for_range (lo := 0) (n := J.toNat) (fun i σ H' => (∃ y3 y4 y5 y6 y7 y8, σ = [some (.ref a), some (.ref la), some (.ref da), y3, y4, y5, y6, y7, y8, none, none]) ∧ Ex H3 H') ⟨⟨none, none, none, none, none, none, rfl⟩, Ex.refl H3⟩ (fun i σ H4 hi hP => ?_) (fun σ H4 hP => ?_)
    · obtain ⟨⟨y3, y4, y5, y6, y7, y8, rfl⟩, e4⟩ := hP
      have hk : (0 : Int) ≤ 0 + (i : Int) ∧ 0 + (i : Int) < 100 := by omega
      generalize (0 : Int) + (i : Int) = k at hk ⊢
      refine ⟨.ref a, rfl, .int k, rfl, a, ns, k, rfl, ex_l e4 hS3, hk.1, hk.2, fun pa H5 hpa e5 pb => ?_⟩
      have hpa3 : H3 pa = none := fresh_back e4 hpa
      have g5 : Ex H3 H5 := e4.trans e5
      have hne : la ≠ pa := fun z => by
        rw [← z, hl3] at hpa3
        cases hpa3
      refine ⟨.ref pa, rfl, .ref la, rfl, pa, la, 999999998, rfl, g5 _ _ hl3, hne, pb, fun p H6 hp pb6 e6 => ?_⟩
      have g6 := g5.keepB hpa3 e6
      refine ⟨.ref pa, rfl, .ref la, rfl, pa, la, 999999996, rfl, g6 _ _ hl3, hne, pb6, fun qq H7 hqq pb7 e7 => ?_⟩
      have g7 := g6.keepB hpa3 e7
      refine ⟨.ref pa, rfl, pa, 5, 999999991, rfl, by decide, pb7, fun far H8 f0 f1 pb8 e8 => ?_⟩
      have g8 := g7.keepB hpa3 e8
      have f1 : far < 1000000000000000000000000000000 := f1
      have lp := primesL_lo hp
      have lq := primesL_lo hqq
      have hda8 := g8 _ _ hda3
      have wp : p.natAbs < 2 ^ 10 := by omega
      have wq : qq.natAbs < 2 ^ 10 := by omega
      have wpq := wide_lt wp wq
      have wpp := wide_lt wp wp
      have wpqp := wide_lt wpq wp
      have lgp : p.natAbs.log2 < 1920 := log_of wp (by decide) (by decide)
      have lgq : qq.natAbs.log2 < 1920 := log_of wq (by decide) (by decide)
      -- some = [..]
      have hP1 : ∀ (H : Hp), Ev (tVar 5) [some (.ref a), some (.ref la), some (.ref da), some (.int k), some (.ref pa), some (.int p), some (.int qq), some (.int far), y8, none, none] H (.int p) := fun H => ev_var rfl
      have hQ1 : ∀ (H : Hp), Ev (tVar 6) [some (.ref a), some (.ref la), some (.ref da), some (.int k), some (.ref pa), some (.int p), some (.int qq), some (.int far), y8, none, none] H (.int qq) := fun H => ev_var rfl
      have hF1 : ∀ (H : Hp), Ev (tVar 7) [some (.ref a), some (.ref la), some (.ref da), some (.int k), some (.ref pa), some (.int p), some (.int qq), some (.int far), y8, none, none] H (.int far) := fun H => ev_var rfl
      dsimp only [gName_app]
      refine q_asgD (d := .list [PyData.int p, .int qq, .int (p * qq), .int (p * p), .int (p * qq * p), .int (0 - p), .int (p + 1000), .int (10 * p), .int (p + 1000 * far), .int far, .int (0 - far), .int (p + 10 ^ (29 : Int).toNat)]) ?d1 ?k1
      case d1 => exact ed_lst (eda_cons (ed_int (hP1 H8)) (eda_cons (ed_int (hQ1 H8)) (eda_cons (ed_int (ev_mulW (hP1 H8) (hQ1 H8) (wide_mul wp wq (by decide) (by decide) (by decide)))) (eda_cons (ed_int (ev_mulW (hP1 H8) (hP1 H8) (wide_mul wp wp (by decide) (by decide) (by decide))))
        (eda_cons (ed_int (ev_mulW (ev_mulW (hP1 H8) (hQ1 H8) (wide_mul wp wq (by decide) (by decide) (by decide))) (hP1 H8) (wide_mul wpq wp (by decide) (by decide) (by decide)))) (eda_cons (ed_int (ev_sub ev_c (hP1 H8))) (eda_cons (ed_int (ev_add (hP1 H8) ev_c)) (eda_cons (ed_int (ev_mulC ev_c (hP1 H8) (.inl ⟨by decide, by decide⟩)))
        (eda_cons (ed_int (ev_add (hP1 H8) (ev_mulC ev_c (hF1 H8) (.inl ⟨by decide, by decide⟩)))) (eda_cons (ed_int (hF1 H8)) (eda_cons (ed_int (ev_sub ev_c (hF1 H8))) (eda_cons (ed_int (ev_add (hP1 H8) (ev_pow ⟨by decide, by decide, by decide⟩))) eda_nil)))))))))))) (Nat.le_of_ble_eq_true rfl)
      case k1 =>
      intro v9 H9 e9 hv9
      have s1 : ∀ d ∈ [PyData.int p, .int qq, .int (p * qq), .int (p * p), .int (p * qq * p), .int (0 - p), .int (p + 1000), .int (10 * p), .int (p + 1000 * far), .int far, .int (0 - far), .int (p + 10 ^ (29 : Int).toNat)], Shows d := by
        have hb : ∀ x : Int, x.natAbs < 2 ^ 200 → Shows (.int x) := fun x h => shows_int (log_of h (by decide) (by decide))
        have z29 : (10 : Int) ^ (29 : Int).toNat = 100000000000000000000000000000 := by decide
        rw [z29]
        intro d hd
        simp only [List.mem_cons, List.not_mem_nil, or_false] at hd
        rcases hd with rfl | rfl | rfl | rfl | rfl | rfl | rfl | rfl | rfl | rfl | rfl | rfl
        · exact hb _ (by omega)
        · exact hb _ (by omega)
        · exact hb _ (Nat.lt_trans wpq (by decide))
        · exact hb _ (Nat.lt_trans wpp (by decide))
        · exact hb _ (Nat.lt_trans wpqp (by decide))
        · exact hb _ (by omega)
        · exact hb _ (by omega)
        · exact hb _ (by omega)
        · exact hb _ (by omega)
        · exact hb _ (by omega)
        · exact hb _ (by omega)
        · exact hb _ (by omega)
      -- some = some + [..]
      have hP2 : ∀ (H : Hp), Ev (tVar 5) [some (.ref a), some (.ref la), some (.ref da), some (.int k), some (.ref pa), some (.int p), some (.int qq), some (.int far), some v9, none, none] H (.int p) := fun H => ev_var rfl
      have hQ2 : ∀ (H : Hp), Ev (tVar 6) [some (.ref a), some (.ref la), some (.ref da), some (.int k), some (.ref pa), some (.int p), some (.int qq), some (.int far), some v9, none, none] H (.int qq) := fun H => ev_var rfl
      refine q_asgD (d := .list ([PyData.int p, .int qq, .int (p * qq), .int (p * p), .int (p * qq * p), .int (0 - p), .int (p + 1000), .int (10 * p), .int (p + 1000 * far), .int far, .int (0 - far), .int (p + 10 ^ (29 : Int).toNat)] ++ [PyData.str (toString p), .list [.int p], .tuple [.int p], .dict [(.int p, .int qq)], .tuple [.int p, .int qq], .list [.int p, .int qq], .str (PyData.list [.int p]).shown, .int (p * 10 ^ (25 : Int).toNat)])) ?d2 ?k2
      case d2 => exact ed_cat (ed_var rfl hv9) (ed_lst (H := H9) (eda_cons (ed_stri (hP2 H9) lgp) (eda_cons (ed_lst (eda_cons (ed_int (hP2 H9)) eda_nil) (Nat.le_of_ble_eq_true rfl)) (eda_cons (ed_tup (eda_cons (ed_int (hP2 H9)) eda_nil) (Nat.le_of_ble_eq_true rfl)) (eda_cons (ed_dict1 hP2 hQ2)
        (eda_cons (ed_tup (eda_cons (ed_int (hP2 H9)) (eda_cons (ed_int (hQ2 H9)) eda_nil)) (Nat.le_of_ble_eq_true rfl)) (eda_cons (ed_lst (eda_cons (ed_int (hP2 H9)) (eda_cons (ed_int (hQ2 H9)) eda_nil)) (Nat.le_of_ble_eq_true rfl)) (eda_cons (ed_repr (ed_lst (eda_cons (ed_int (hP2 H9)) eda_nil) (Nat.le_of_ble_eq_true rfl)) (shows_l1 lgp)) (eda_cons (ed_int (ev_mulW (hP2 H9) (ev_pow ⟨by decide, by decide, by decide⟩) (wide_mul (b := 100) wp (by decide) (by decide) (by decide) (by decide)))) eda_nil)))))))) (Nat.le_of_ble_eq_true rfl)) (Nat.le_of_ble_eq_true rfl)
      case k2 =>
      intro v10 H10 e10 hv10
      have s2 : ∀ d ∈ [PyData.str (toString p), .list [.int p], .tuple [.int p], .dict [(.int p, .int qq)], .tuple [.int p, .int qq], .list [.int p, .int qq], .str (PyData.list [.int p]).shown, .int (p * 10 ^ (25 : Int).toNat)], Shows d := by
        intro d hd
        simp only [List.mem_cons, List.not_mem_nil, or_false] at hd
        rcases hd with rfl | rfl | rfl | rfl | rfl | rfl | rfl | rfl
        · exact shows_str (okS_of _) (Nat.le_trans (PyProof.Rows.int_text_len_1921 lgp) (by decide))
        · exact shows_l1 lgp
        · exact shows_t1 lgp
        · exact shows_d1 lgp lgq
        · exact shows_pair lgp lgq
        · exact shows_l2 lgp lgq
        · exact shows_str okS_list (Nat.le_trans (shown_le _ (shows_l1 lgp).sh ⟨trivial, trivial⟩) (Nat.le_of_ble_eq_true rfl))
        · exact shows_int (log_of (k := 150) (Nat.lt_trans (wide_lt (b := 100) wp (by decide)) (by decide)) (by decide) (by decide))
      refine s_when (none_left (da := da) (ed_var rfl hv10) (Nat.le_of_ble_eq_true rfl) (fun _ => rfl) (fun _ => rfl) (fun _ => rfl) (e10 _ _ (e9 _ _ hda8)) (fun d hd => ?_)) (fun z => nomatch z) (fun _ H11 e11 => ?_)
      · rcases List.mem_append.mp hd with z | z
        · exact s1 d z
        · exact s2 d z
      · exact ⟨⟨_, _, _, _, _, _, rfl⟩, ((g8.trans e9).trans e10).trans e11⟩
    · obtain ⟨⟨y3, y4, y5, y6, y7, y8, rfl⟩, e4⟩ := hP
      -- for thing in [..]
      have s3 : ∀ d ∈ [PyData.none, .bool true, .bool false, .str "", .str "2", .tuple [], .list [], .dict [], .tuple [.int 2], .list [.int 2], .int 1009, .int 1013, .int 7919, .int 10007, .int 1000003, .int (2 ^ (61 : Int).toNat - 1)], Shows d := by
        have hb : ∀ x : Int, x.natAbs < 2 ^ 200 → Shows (.int x) := fun x h => shows_int (log_of h (by decide) (by decide))
        intro d hd
        simp only [List.mem_cons, List.not_mem_nil, or_false] at hd
        rcases hd with rfl | rfl | rfl | rfl | rfl | rfl | rfl | rfl | rfl | rfl | rfl | rfl | rfl | rfl | rfl | rfl
        · exact .of rfl trivial (Nat.zero_le _) (Nat.le_of_ble_eq_true rfl) (fun z => nomatch z)
        · exact .of rfl trivial (Nat.zero_le _) (Nat.le_of_ble_eq_true rfl) (fun z => nomatch z)
        · exact .of rfl trivial (Nat.zero_le _) (Nat.le_of_ble_eq_true rfl) (fun z => nomatch z)
        · exact shows_str (okS_of _) (Nat.le_of_ble_eq_true rfl)
        · exact shows_str (okS_of _) (Nat.le_of_ble_eq_true rfl)
        · exact .of rfl trivial (Nat.le_of_ble_eq_true rfl) (Nat.le_of_ble_eq_true rfl) (fun z => nomatch z)
        · exact .of rfl trivial (Nat.le_of_ble_eq_true rfl) (Nat.le_of_ble_eq_true rfl) (fun z => nomatch z)
        · exact .of rfl trivial (Nat.le_of_ble_eq_true rfl) (Nat.le_of_ble_eq_true rfl) (fun z => rfl)
        · exact shows_t1 (log_of (k := 20) (by decide) (by decide) (by decide))
        · exact shows_l1 (log_of (k := 20) (by decide) (by decide) (by decide))
        · exact hb _ (by decide)
        · exact hb _ (by decide)
        · exact hb _ (by decide)
        · exact hb _ (by decide)
        · exact hb _ (by decide)
        · exact hb _ (by decide)
      dsimp only
      refine q_forD (ds := [.none, .bool true, .bool false, .str "", .str "2", .tuple [], .list [], .dict [], .tuple [.int 2], .list [.int 2], .int 1009, .int 1013, .int 7919, .int 10007, .int 1000003, .int (2 ^ (61 : Int).toNat - 1)]) ?d3 (Nat.le_of_ble_eq_true rfl) (fun i σ H' => (∃ y9, σ = [some (.ref a), some (.ref la), some (.ref da), y3, y4, y5, y6, y7, y8, y9, none]) ∧ Ex H4 H') (fun H5 e5 => ⟨⟨none, rfl⟩, e5⟩) (fun i x d σ H6 hi hx hP => ?_) (fun σ H6 hP => ?_)
      case d3 => exact eda_cons ed_non (eda_cons ed_bl (eda_cons ed_bl (eda_cons ed_str (eda_cons ed_str (eda_cons (ed_tup eda_nil (Nat.le_of_ble_eq_true rfl)) (eda_cons (ed_lst eda_nil (Nat.le_of_ble_eq_true rfl)) (eda_cons ed_dict0 (eda_cons (ed_tup (eda_cons (ed_int ev_c) eda_nil) (Nat.le_of_ble_eq_true rfl)) (eda_cons (ed_lst (eda_cons (ed_int ev_c) eda_nil) (Nat.le_of_ble_eq_true rfl)) (eda_cons (ed_int ev_c) (eda_cons (ed_int ev_c) (eda_cons (ed_int ev_c) (eda_cons (ed_int ev_c) (eda_cons (ed_int ev_c) (eda_cons (ed_int (ev_sub (ev_pow ⟨by decide, by decide, by decide⟩) ev_c)) eda_nil)))))))))))))))
      · obtain ⟨⟨y9, rfl⟩, e6⟩ := hP
        exact ⟨.ref da, rfl, x, rfl, da, x, d, rfl, e6 _ _ (e4 _ _ hda3), hx, s3 d (List.mem_of_getElem? hi), true, rfl, itF rfl ⟨⟨⟨_, rfl⟩, e6⟩, Ex.refl _⟩⟩
      · obtain ⟨⟨y9, rfl⟩, e6⟩ := hP
        refine ⟨.int 2, .int 2, rfl, .int 2, true, true, ?_, rfl, true, rfl, itT rfl ?_⟩
        · rw [show dPrime (.int 2) = true by decide +kernel]
        refine ⟨.int 997, .int 997, rfl, .int 997, true, true, ?_, rfl, true, rfl, itT rfl ?_⟩
        · rw [show dPrime (.int 997) = true by decide +kernel]
        refine ⟨.int 1, .int 1, rfl, .int 1, false, false, ?_, rfl, true, rfl, itT rfl ?_⟩
        · rw [show dPrime (.int 1) = false by decide +kernel]
        refine ⟨.int 961, .int 961, rfl, .int 961, false, false, ?_, rfl, ?_⟩
        · rw [show dPrime (.int 961) = false by decide +kernel]
        exact q _
end
set_option maxHeartbeats 0
def dd_is_whole : He.DefD := ⟨("is_whole", none), "is_whole", "is_whole", defArgs s_is_whole, defBody s_is_whole, defScope s_is_whole, [], []⟩
def dd_is_prime : He.DefD := ⟨("is_prime", none), "is_prime", "is_prime", defArgs s_is_prime, defBody s_is_prime, defScope s_is_prime, [], []⟩
def dd__law_pool : He.DefD := ⟨("_law_pool", none), "_law_pool", "_law_pool", defArgs s__law_pool, defBody s__law_pool, defScope s__law_pool, [], []⟩
def dd__law_take : He.DefD := ⟨("_law_take", none), "_law_take", "_law_take", defArgs s__law_take, defBody s__law_take, defScope s__law_take, [], []⟩
def dd__law_far : He.DefD := ⟨("_law_far", none), "_law_far", "_law_far", defArgs s__law_far, defBody s__law_far, defScope s__law_far, [], []⟩
def dd__law_all_primes : He.DefD := ⟨("_law_all_primes", none), "_law_all_primes", "_law_all_primes", defArgs s__law_all_primes, defBody s__law_all_primes, defScope s__law_all_primes, [], []⟩
def dd__law_prime : He.DefD := ⟨("_law_prime", none), "_law_prime", "_law_prime", defArgs s__law_prime, defBody s__law_prime, defScope s__law_prime, [], []⟩
def dd__law_right : He.DefD := ⟨("_law_right", none), "_law_right", "_law_right", defArgs s__law_right, defBody s__law_right, defScope s__law_right, [], []⟩
def dd_law : He.DefD := ⟨("law", none), "law", "law", defArgs s_law, defBody s_law, defScope s_law, [], []⟩
def fnL : List He.DefD := [dd_is_whole, dd_is_prime, dd__law_pool, dd__law_take, dd__law_far, dd__law_all_primes, dd__law_prime, dd__law_right, dd_law]
def faL : List He.Fa := [.glo "is_whole", .glo "is_prime", .glo "_law_pool", .glo "_law_take", .glo "_law_far", .glo "_law_all_primes", .glo "_law_prime", .glo "_law_right", .glo "law", .free "isinstance", .free "bool", .free "int", .free "len", .free "range", .free "repr", .free "dict", .free "max", .free "min", .free "str", .int "PRIME_LIMIT" 1000]
abbrev RR : PySem.W.OpenRow := PySem.W.OpenLaw.row PySem.Challenge.rw_toldback_k02_what_is_a_prime
def looseL : List PySem.Str := (["is_whole", "is_prime", "_law_pool", "_law_take", "_law_far", "_law_all_primes", "_law_prime", "_law_right", "PRIME_LIMIT"] : List PySem.Str)
abbrev hk : PySem.W.Hook := He.hookD 4 faL fnL
def ob (s : PySem.W.SharedT) : He.AlD := He.obsDG 4 faL fnL (HandSHeadRun.getT s)
theorem ob_eq (s : PySem.W.SharedT) : ob s = hk.obs s.abs := He.obsDG_eq (HandSHeadRun.getT_eq s)
theorem run (w : World) : HandSHeadRun.RunEq RR (PySem.W.view RR.prog [12]) hk ob 4000 looseL w := by
  intro os
  kernel_rfl
theorem facts {P : Program} {w : World} {K : PySem.W.Frag} {h : Heap} {mg : Str → Option Value} {f : Addr} (X : K.In h) (G : h.Ns mainGlobals mg) (hfa : mg ("law" : Str) = some (.ref f)) (c : He.SaysD faL fnL K) :
    ∃ fd : FuncData, (∀ (s : Shared) (v : Value), BindsTo s fd ⟨[v], []⟩ [("script", v)]) ∧ ∀ base : Heap, K.In base → base.Ns mainGlobals mg → FnG P w K mg base CX0 4 f fd ["script"] (sp_law K) := by
  obtain ⟨fd_is_whole, F_is_whole⟩ := c.def_ 0 (d := dd_is_whole) rfl
  obtain ⟨fd_is_prime, F_is_prime⟩ := c.def_ 1 (d := dd_is_prime) rfl
  obtain ⟨fd__law_pool, F__law_pool⟩ := c.def_ 2 (d := dd__law_pool) rfl
  obtain ⟨fd__law_take, F__law_take⟩ := c.def_ 3 (d := dd__law_take) rfl
  obtain ⟨fd__law_far, F__law_far⟩ := c.def_ 4 (d := dd__law_far) rfl
  obtain ⟨fd__law_all_primes, F__law_all_primes⟩ := c.def_ 5 (d := dd__law_all_primes) rfl
  obtain ⟨fd__law_prime, F__law_prime⟩ := c.def_ 6 (d := dd__law_prime) rfl
  obtain ⟨fd__law_right, F__law_right⟩ := c.def_ 7 (d := dd__law_right) rfl
  obtain ⟨fd_law, F_law⟩ := c.def_ 8 (d := dd_law) rfl
  obtain ⟨t_PRIME_LIMIT, c_PRIME_LIMIT⟩ := He.int_ok X G (c.fact 19 (f := .int "PRIME_LIMIT" 1000) rfl)
  have e := hfa.symm.trans (He.glo_ok X G (c.fact 8 (f := .glo "law") rfl))
  cases e
  have b := FunD.bindsA (ps := ["script"]) F_law fun _ _ _ _ _ _ us hl => match us, hl with | [_], _ => rfl
  have T : Txt K mg ⟨He.ga K "is_whole", fd_is_whole, He.ga K "is_prime", fd_is_prime, He.ga K "_law_pool", fd__law_pool, He.ga K "_law_take", fd__law_take, He.ga K "_law_far", fd__law_far, He.ga K "_law_all_primes", fd__law_all_primes, He.ga K "_law_prime", fd__law_prime, He.ga K "_law_right", fd__law_right, He.ga K "law", fd_law, t_PRIME_LIMIT⟩ :=
    { F_is_whole := F_is_whole,
      g_is_whole := He.glo_ok X G (c.fact 0 (f := .glo "is_whole") rfl),
      b_is_whole := F_is_whole.bindsN fun _ _ _ _ _ _ us hl => match us, hl with | [_], _ => rfl,
      F_is_prime := F_is_prime,
      g_is_prime := He.glo_ok X G (c.fact 1 (f := .glo "is_prime") rfl),
      b_is_prime := F_is_prime.bindsN fun _ _ _ _ _ _ us hl => match us, hl with | [_], _ => rfl,
      F__law_pool := F__law_pool,
      g__law_pool := He.glo_ok X G (c.fact 2 (f := .glo "_law_pool") rfl),
      b__law_pool := F__law_pool.bindsN fun _ _ _ _ _ _ us hl => match us, hl with | [_, _], _ => rfl,
      F__law_take := F__law_take,
      g__law_take := He.glo_ok X G (c.fact 3 (f := .glo "_law_take") rfl),
      b__law_take := F__law_take.bindsN fun _ _ _ _ _ _ us hl => match us, hl with | [_, _], _ => rfl,
      F__law_far := F__law_far,
      g__law_far := He.glo_ok X G (c.fact 4 (f := .glo "_law_far") rfl),
      b__law_far := F__law_far.bindsN fun _ _ _ _ _ _ us hl => match us, hl with | [_, _], _ => rfl,
      F__law_all_primes := F__law_all_primes,
      g__law_all_primes := He.glo_ok X G (c.fact 5 (f := .glo "_law_all_primes") rfl),
      b__law_all_primes := F__law_all_primes.bindsN fun _ _ _ _ _ _ us hl => match us, hl with | [], _ => rfl,
      F__law_prime := F__law_prime,
      g__law_prime := He.glo_ok X G (c.fact 6 (f := .glo "_law_prime") rfl),
      b__law_prime := F__law_prime.bindsN fun _ _ _ _ _ _ us hl => match us, hl with | [_, _], _ => rfl,
      F__law_right := F__law_right,
      g__law_right := He.glo_ok X G (c.fact 7 (f := .glo "_law_right") rfl),
      b__law_right := F__law_right.bindsN fun _ _ _ _ _ _ us hl => match us, hl with | [_, _], _ => rfl,
      F_law := F_law,
      g_law := He.glo_ok X G (c.fact 8 (f := .glo "law") rfl),
      b_law := F_law.bindsN fun _ _ _ _ _ _ us hl => match us, hl with | [_], _ => rfl,
      m_isinstance := He.free_ok X G (c.fact 9 (f := .free "isinstance") rfl),
      m_bool := He.free_ok X G (c.fact 10 (f := .free "bool") rfl),
      m_int := He.free_ok X G (c.fact 11 (f := .free "int") rfl),
      m_len := He.free_ok X G (c.fact 12 (f := .free "len") rfl),
      m_range := He.free_ok X G (c.fact 13 (f := .free "range") rfl),
      m_repr := He.free_ok X G (c.fact 14 (f := .free "repr") rfl),
      m_dict := He.free_ok X G (c.fact 15 (f := .free "dict") rfl),
      m_max := He.free_ok X G (c.fact 16 (f := .free "max") rfl),
      m_min := He.free_ok X G (c.fact 17 (f := .free "min") rfl),
      m_str := He.free_ok X G (c.fact 18 (f := .free "str") rfl),
      c_PRIME_LIMIT := c_PRIME_LIMIT }
  exact ⟨fd_law, fun s v => b s [v] rfl, fun base _ _ => ok_law T⟩
end TB
open PySem PySem.W PySem.Calls PyProof.Rows
set_option maxHeartbeats 0 in
theorem PySem.Challenge.cw_toldback_k02_what_is_a_prime_holds : PySem.Challenge.rw_toldback_k02_what_is_a_prime.Holds := by
  w_on; o_law
  refine HandSHeadRun.head_any (r := OpenLaw.row PySem.Challenge.rw_toldback_k02_what_is_a_prime) (q := view (OpenLaw.row PySem.Challenge.rw_toldback_k02_what_is_a_prime).prog [12]) (H := TB.hk) (ob := TB.ob) (M := 4000) (loose := TB.looseL) (d := HandSHeadRun.topDef (OpenLaw.row PySem.Challenge.rw_toldback_k02_what_is_a_prime).prog 12) (kwd := []) TB.ob_eq
    (by kernel_rfl) (fun s => by kernel_rfl) TB.run (by kernel_rfl) (by kernel_rfl) (by kernel_rfl) (by rfl) (by first | assumption | decide +kernel) (by decide +kernel) ⟨rfl, rfl, rfl, rfl, rfl, by decide +kernel⟩ ?hw ?hc
  case hw => w_witness2
  case hc =>
    refine TB.walkG (l := PySem.Challenge.rw_toldback_k02_what_is_a_prime) (n := 63) (k := 4) (x := "script") rfl (by decide) (by kernel_rfl) ⟨rfl, by decide, by decide⟩ ?F
    intro w mg fa h Y G hmg0
    obtain ⟨K, KX, c⟩ := Y
    have hmg : mg ("law" : PySem.Str) = some (.ref fa) := by
      have e : (HandSHeadRun.topDef (OpenLaw.row PySem.Challenge.rw_toldback_k02_what_is_a_prime).prog 12).name = ("law" : PySem.Str) := by kernel_rfl
      rw [← e]
      exact hmg0
    obtain ⟨fd, hb, hF⟩ := TB.facts (P := (PySem.Challenge.rw_toldback_k02_what_is_a_prime).prog) (w := w) KX G hmg c
    exact ⟨K, fd, TB.sp_law K, KX, hb, fun H a ns hl ho hS => TB.law_start hl ho hS, hF⟩
