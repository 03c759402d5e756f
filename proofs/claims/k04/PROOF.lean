import PyProof.Rows.All
import Wide.All
import OpenK.AllK
import Wide.FinOn
import KE.KStateDown
import Lean
import HandS.Base
import HandS.Call
import HandS.List
import HandS.Comp
import HandS.Ends
import HandS.More
import HandS.Dict
import HandS.Iter
import HandS.Walk
import HandS.Text
import HandS.Words
import HandS.WordsList
import HandS.WordsExc
import HandS.Defaults
import HandS.Wide
import HandS.IsInst
import HandS.Style
import HandS.Evl
import HandS.Steps
import HandS.RaiseMore
import HandS.Head0
import HandS.Head1
import HandS.Head2
import HandS.HeadEnd
import HandS.HeadHook1
import HandS.HeadHook2
import HandS.ExcIs
import HandS.ExcValue
import HandS.FStr
import KE.KExcMore
import PySem.Challenge.RW_toldback_k04_no_fractions_and_no_primes
set_option Elab.async false
set_option linter.all false
set_option maxRecDepth 100000
set_option maxHeartbeats 4000000
namespace TB
open PySem PySem.Spec PyProof.Rows L2 Evl
/-! ### heaps but for one list -/
theorem same_new {H : Hp} {p : Addr} {o : HO} (h : H p = none) : Ex H (upd H p o) := Ex.new h
/-- everything but what stands at B is as it was -/
def ExB (B : Addr) (H H' : Hp) : Prop := ∀ a o, a ≠ B → H a = some o → H' a = some o
theorem ExB.refl (B : Addr) (H : Hp) : ExB B H H := fun _ _ _ h => h
theorem ExB.trans {B : Addr} {H H1 H2 : Hp} (a : ExB B H H1) (b : ExB B H1 H2) : ExB B H H2 := fun x o n h => b x o n (a x o n h)
theorem ExB.of {B : Addr} {H H' : Hp} (e : Ex H H') : ExB B H H' := fun a o _ h => e a o h
theorem ExB.upd {B : Addr} {H : Hp} {o : HO} : ExB B H (upd H B o) := fun a u n h => by
  rw [upd_ne n]
  exact h
/-! ### data, as it stands in a heap -/
mutual
inductive Dt (H : Hp) : V → PyData → Prop
  | non : Dt H .non .none
  | bl (b : Bool) : Dt H (.bl b) (.bool b)
  | int (i : Int) : Dt H (.int i) (.int i)
  | str (x : Str) : Dt H (.str x) (.str x)
  | lst {a : Addr} {xs : List V} {ds : List PyData} : H a = some (.lst xs) → DtAll H xs ds → Dt H (.ref a) (.list ds)
  | tup {a : Addr} {xs : List V} {ds : List PyData} : H a = some (.tup xs) → DtAll H xs ds → Dt H (.ref a) (.tuple ds)
  | dic {a : Addr} {ns : List (Int × Int)} : H a = some (.dK (ns.map fun p => ((Sum.inl p.1 : Key), V.int p.2))) → Dt H (.ref a) (.dict (ns.map fun p => (PyData.int p.1, PyData.int p.2)))
inductive DtAll (H : Hp) : List V → List PyData → Prop
  | nil : DtAll H [] []
  | cons {v : V} {vs : List V} {d : PyData} {ds : List PyData} : Dt H v d → DtAll H vs ds → DtAll H (v :: vs) (d :: ds)
end
mutual
theorem Dt.mono {H H' : Hp} (e : Ex H H') : ∀ (d : PyData) (v : V), Dt H v d → Dt H' v d
  | .none, _, h => by cases h; exact .non
  | .bool b, _, h => by cases h; exact .bl b
  | .int i, _, h => by cases h; exact .int i
  | .str x, _, h => by cases h; exact .str x
  | .list ds, _, h => by
    cases h with
    | lst hs ha => exact .lst (e _ _ hs) (DtAll.mono e ds _ ha)
  | .tuple ds, _, h => by
    cases h with
    | tup hs ha => exact .tup (e _ _ hs) (DtAll.mono e ds _ ha)
  | .dict _, _, h => by
    cases h with
    | dic hs => exact .dic (e _ _ hs)
theorem DtAll.mono {H H' : Hp} (e : Ex H H') : ∀ (ds : List PyData) (vs : List V), DtAll H vs ds → DtAll H' vs ds
  | [], _, h => by cases h; exact .nil
  | d :: ds, _, h => by
    cases h with
    | cons h1 h2 => exact .cons (Dt.mono e d _ h1) (DtAll.mono e ds _ h2)
end
theorem Dt.up {H H' : Hp} {v : V} {d : PyData} (h : Dt H v d) (e : Ex H H') : Dt H' v d := Dt.mono e d v h
theorem DtAll.up {H H' : Hp} {v : List V} {d : List PyData} (h : DtAll H v d) (e : Ex H H') : DtAll H' v d := DtAll.mono e d v h
/-! data without lists in it: what is done to a list does not touch it -/
mutual
def noL : PyData → Bool
  | .list _ => false
  | .tuple ds => noLs ds
  | _ => true
def noLs : List PyData → Bool
  | [] => true
  | d :: ds => noL d && noLs ds
end
def IsL (H : Hp) (B : Addr) : Prop := ∃ xs, H B = some (.lst xs)
mutual
theorem Dt.monoB {B : Addr} {H H' : Hp} (hB : IsL H B) (e : ExB B H H') : ∀ (d : PyData) (v : V), noL d = true → Dt H v d → Dt H' v d
  | .none, _, _, h => by cases h; exact .non
  | .bool b, _, _, h => by cases h; exact .bl b
  | .int i, _, _, h => by cases h; exact .int i
  | .str x, _, _, h => by cases h; exact .str x
  | .list ds, _, n, h => nomatch n
  | .tuple ds, _, n, h => by
    cases h with
    | @tup a _ _ hs ha =>
      refine .tup (e a _ (fun z => ?_) hs) (DtAll.monoB hB e ds _ n ha)
      obtain ⟨xs, hx⟩ := hB
      rw [z, hx] at hs
      cases hs
  | .dict _, _, _, h => by
    cases h with
    | @dic a _ hs =>
      refine .dic (e a _ (fun z => ?_) hs)
      obtain ⟨xs, hx⟩ := hB
      rw [z, hx] at hs
      cases hs
theorem DtAll.monoB {B : Addr} {H H' : Hp} (hB : IsL H B) (e : ExB B H H') : ∀ (ds : List PyData) (vs : List V), noLs ds = true → DtAll H vs ds → DtAll H' vs ds
  | [], _, _, h => by cases h; exact .nil
  | d :: ds, _, n, h => by
    obtain ⟨n1, n2⟩ := Bool.and_eq_true_iff.mp (show (noL d && noLs ds) = true from n)
    cases h with
    | cons h1 h2 => exact .cons (Dt.monoB hB e d _ n1 h1) (DtAll.monoB hB e ds _ n2 h2)
end
theorem noLs_of {ds : List PyData} (h : ∀ d ∈ ds, noL d = true) : noLs ds = true := by
  induction ds with
  | nil => rfl
  | cons d ds ih =>
    show (noL d && noLs ds) = true
    rw [h d (List.mem_cons_self), ih fun x hx => h x (List.mem_cons_of_mem _ hx)]
    rfl
theorem noLs_mem {ds : List PyData} (h : noLs ds = true) : ∀ d ∈ ds, noL d = true := by
  induction ds with
  | nil => intro d hd; cases hd
  | cons x ds ih =>
    obtain ⟨n1, n2⟩ := Bool.and_eq_true_iff.mp (show (noL x && noLs ds) = true from h)
    intro d hd
    rcases List.mem_cons.mp hd with e | e
    · rw [e]; exact n1
    · exact ih n2 d e
/-! lists of data -/
theorem DtAll.len {H : Hp} : ∀ {vs : List V} {ds : List PyData}, DtAll H vs ds → vs.length = ds.length
  | _, _, .nil => rfl
  | _, _, .cons _ h => by rw [List.length_cons, List.length_cons, h.len]
theorem DtAll.app {H : Hp} : ∀ {vs us : List V} {ds es : List PyData}, DtAll H vs ds → DtAll H us es → DtAll H (vs ++ us) (ds ++ es)
  | _, _, _, _, .nil, h => h
  | _, _, _, _, .cons a b, h => .cons a (b.app h)
theorem DtAll.get {H : Hp} : ∀ {vs : List V} {ds : List PyData} (i : Nat) {v : V}, DtAll H vs ds → vs[i]? = some v → ∃ d, ds[i]? = some d ∧ Dt H v d
  | _, _, _, _, .nil, e => by simp at e
  | _, _, 0, _, .cons a _, e => by
    have e := Option.some.inj e
    subst e
    exact ⟨_, rfl, a⟩
  | _, _, i + 1, _, .cons _ b, e => b.get i e
theorem DtAll.getD {H : Hp} : ∀ {vs : List V} {ds : List PyData} (i : Nat) {d : PyData}, DtAll H vs ds → ds[i]? = some d → ∃ v, vs[i]? = some v ∧ Dt H v d
  | _, _, _, _, .nil, e => by simp at e
  | _, _, 0, _, .cons a _, e => by
    have e := Option.some.inj e
    subst e
    exact ⟨_, rfl, a⟩
  | _, _, i + 1, _, .cons _ b, e => b.getD i e
theorem DtAll.ints {H : Hp} : ∀ ns : List Int, DtAll H (ns.map V.int) (ns.map PyData.int)
  | [] => .nil
  | n :: ns => .cons (.int n) (DtAll.ints ns)
theorem DtAll.ints_eq {H : Hp} : ∀ {vs : List V} (ns : List Int), DtAll H vs (ns.map PyData.int) → vs = ns.map V.int
  | _, [], h => by cases h; rfl
  | _, n :: ns, h => by
    cases h with
    | cons a b =>
      cases a
      rw [DtAll.ints_eq ns b]
      rfl
theorem Dt.int_eq {H : Hp} {v : V} {i : Int} (h : Dt H v (.int i)) : v = .int i := by cases h; rfl
theorem Dt.bl_eq {H : Hp} {v : V} {b : Bool} (h : Dt H v (.bool b)) : v = .bl b := by cases h; rfl
theorem Dt.non_eq {H : Hp} {v : V} (h : Dt H v .none) : v = .non := by cases h; rfl
theorem Dt.tup_get {H : Hp} {v : V} {ds : List PyData} (h : Dt H v (.tuple ds)) : ∃ a xs, v = .ref a ∧ H a = some (.tup xs) ∧ DtAll H xs ds := by
  cases h with
  | tup a b => exact ⟨_, _, rfl, a, b⟩
theorem Dt.lst_get {H : Hp} {v : V} {ds : List PyData} (h : Dt H v (.list ds)) : ∃ a xs, v = .ref a ∧ H a = some (.lst xs) ∧ DtAll H xs ds := by
  cases h with
  | lst a b => exact ⟨_, _, rfl, a, b⟩
/-! into the layer's own word -/
mutual
theorem Dt.dp {K : PySem.W.Frag} {H : Hp} : ∀ (d : PyData) (v : V), d.canLay0 = true → Dt H v d → Dp K H v d
  | .none, _, _, h => by cases h; exact .non
  | .bool b, _, _, h => by cases h; exact .bl b
  | .int i, _, _, h => by cases h; exact .int i
  | .str x, _, _, h => by cases h; exact .str x
  | .list ds, _, n, h => by
    have n : PyData.canLayAll0 ds = true := by simpa [PyData.canLay0] using n
    cases h with
    | lst hs ha => exact .lst (.inl (.inl hs)) (DtAll.dp ds _ n ha)
  | .tuple ds, _, n, h => by
    have n : PyData.canLayAll0 ds = true := by simpa [PyData.canLay0] using n
    cases h with
    | tup hs ha => exact .tup (.inl (.inl hs)) (DtAll.dp ds _ n ha)
  | .dict _, _, n, _ => by simp [PyData.canLay0] at n
theorem DtAll.dp {K : PySem.W.Frag} {H : Hp} : ∀ (ds : List PyData) (vs : List V), PyData.canLayAll0 ds = true → DtAll H vs ds → DpAll K H vs ds
  | [], _, _, h => by cases h; exact .nil
  | d :: ds, _, n, h => by
    have n : d.canLay0 = true ∧ PyData.canLayAll0 ds = true := by simpa [PyData.canLayAll0] using n
    cases h with
    | cons h1 h2 => exact .cons (Dt.dp d _ n.1 h1) (DtAll.dp ds _ n.2 h2)
end
/-! ### kinds -/
def tyN : PyData → String
  | .none => "NoneType"
  | .bool _ => "bool"
  | .int _ => "int"
  | .str _ => "str"
  | .list _ => "list"
  | .tuple _ => "tuple"
  | .dict _ => "dict"
theorem Dt.ty {K : PySem.W.Frag} {H : Hp} {v : V} {d : PyData} (h : Dt H v d) : TyX K H v (.type (tyN d)) := by
  cases h with
  | non => exact .base .non
  | bl b => exact .base (.bl b)
  | int i => exact .base (.int i)
  | str x => exact .base (.str x)
  | lst a b => exact .base (.lst a)
  | tup a b => exact .base (.tup a)
  | dic a => exact .base (.dK a)
def dInt : PyData → Bool
  | .int _ | .bool _ => true
  | _ => false
def dBool : PyData → Bool
  | .bool _ => true
  | _ => false
def dTup : PyData → Bool
  | .tuple _ => true
  | _ => false
def dLst : PyData → Bool
  | .list _ => true
  | _ => false
/-- a whole number -/
def dWhole : PyData → Bool
  | .int _ => true
  | _ => false
theorem kit_int (d : PyData) : kitB (tyN d) "int" = some (dInt d) := by
  cases d with
  | none => show kitB "NoneType" "int" = some false; decide +kernel
  | bool _ => show kitB "bool" "int" = some true; decide +kernel
  | int _ => show kitB "int" "int" = some true; decide +kernel
  | str _ => show kitB "str" "int" = some false; decide +kernel
  | list _ => show kitB "list" "int" = some false; decide +kernel
  | tuple _ => show kitB "tuple" "int" = some false; decide +kernel
  | dict _ => show kitB "dict" "int" = some false; decide +kernel
theorem kit_bool (d : PyData) : kitB (tyN d) "bool" = some (dBool d) := by
  cases d with
  | none => show kitB "NoneType" "bool" = some false; decide +kernel
  | bool _ => show kitB "bool" "bool" = some true; decide +kernel
  | int _ => show kitB "int" "bool" = some false; decide +kernel
  | str _ => show kitB "str" "bool" = some false; decide +kernel
  | list _ => show kitB "list" "bool" = some false; decide +kernel
  | tuple _ => show kitB "tuple" "bool" = some false; decide +kernel
  | dict _ => show kitB "dict" "bool" = some false; decide +kernel
theorem kit_tup (d : PyData) : kitB (tyN d) "tuple" = some (dTup d) := by
  cases d with
  | none => show kitB "NoneType" "tuple" = some false; decide +kernel
  | bool _ => show kitB "bool" "tuple" = some false; decide +kernel
  | int _ => show kitB "int" "tuple" = some false; decide +kernel
  | str _ => show kitB "str" "tuple" = some false; decide +kernel
  | list _ => show kitB "list" "tuple" = some false; decide +kernel
  | tuple _ => show kitB "tuple" "tuple" = some true; decide +kernel
  | dict _ => show kitB "dict" "tuple" = some false; decide +kernel
theorem kit_lst (d : PyData) : kitB (tyN d) "list" = some (dLst d) := by
  cases d with
  | none => show kitB "NoneType" "list" = some false; decide +kernel
  | bool _ => show kitB "bool" "list" = some false; decide +kernel
  | int _ => show kitB "int" "list" = some false; decide +kernel
  | str _ => show kitB "str" "list" = some false; decide +kernel
  | list _ => show kitB "list" "list" = some true; decide +kernel
  | tuple _ => show kitB "tuple" "list" = some false; decide +kernel
  | dict _ => show kitB "dict" "list" = some false; decide +kernel
theorem rIsi_of {K : PySem.W.Frag} {H : Hp} {v : V} {d : PyData} {c : String} {b : Bool} {Q : VK} (h : Dt H v d) (k : kitB (tyN d) c = some b) (q : Q (.bl b) H) : rIsi K [v, .ty c] H Q :=
  ⟨v, .ty c, _, _, b, rfl, .ty c, h.ty, kit_ty k, q⟩
/-! ### the refusals' classes -/
def ExcFacts (K : PySem.W.Frag) (C : Addr) : Prop := PySem.W.excIn K C He.veBase "ValueError.__new__" = true ∧ PySem.W.keepIn K (.ref C) = true ∧ PySem.W.subIn K (.ref C) (.type "BaseException") = some true ∧ PySem.W.typeIn K (.ref C) = some (.type "type")
theorem excFacts_of {K : PySem.W.Frag} {x : Str} (c : (He.Fa.exc x).ok K = true) : ExcFacts K (He.ga K x) := by
  obtain ⟨c1, c⟩ := He.ba c
  obtain ⟨c2, c⟩ := He.ba c
  obtain ⟨c3, c4⟩ := He.ba c
  exact ⟨c1, c2, of_decide_eq_true c3, of_decide_eq_true c4⟩
/-! ### tests -/
theorem itT {b : Bool} {A B : Prop} (hb : b = true) (h : A) : if b = true then A else B := by
  rw [if_pos hb]
  exact h
theorem itF {b : Bool} {A B : Prop} (hb : b = false) (h : B) : if b = true then A else B := by
  rw [if_neg (by rw [hb]; exact Bool.false_ne_true)]
  exact h
theorem it2 {b : Bool} {A B : Prop} (h1 : b = true → A) (h2 : b = false → B) : if b = true then A else B := by
  cases b with
  | true => exact itT rfl (h1 rfl)
  | false => exact itF rfl (h2 rfl)
theorem dI {i j : Int} : decide (V.int i = V.int j) = decide (i = j) := by
  by_cases e : i = j
  · subst e
    rw [decide_eq_true rfl, decide_eq_true rfl]
  · rw [decide_eq_false e, decide_eq_false fun z => e (V.int.inj z)]
/-! ### greatest divisors -/
theorem gcd_step (x y : Int) : Int.gcd y (x % y) = Int.gcd x y := by
  have e : x % y = x - y * (x / y) := Int.emod_def x y
  refine Nat.dvd_antisymm (Int.dvd_gcd ?_ (Int.gcd_dvd_left y (x % y))) (Int.dvd_gcd (Int.gcd_dvd_right x y) ?_)
  · have h1 : ((Int.gcd y (x % y) : Nat) : Int) ∣ y := Int.gcd_dvd_left y (x % y)
    have h2 : ((Int.gcd y (x % y) : Nat) : Int) ∣ x % y := Int.gcd_dvd_right y (x % y)
    have h3 : x = x % y + y * (x / y) := by omega
    rw [h3]
    have h4 : ((Int.gcd y (x % y) : Nat) : Int) ∣ x % y + y * (x / y) := Int.dvd_add h2 (Int.dvd_mul_of_dvd_left h1)
    rw [← h3]
    rw [← h3] at h4
    exact h4
  · rw [e]
    exact Int.dvd_sub (Int.gcd_dvd_left x y) (Int.dvd_mul_of_dvd_left (Int.gcd_dvd_right x y))
def dPair : PyData → Bool
  | .tuple ds => decide (ds.length = 2)
  | _ => false
theorem dPair_get {d : PyData} (h : dPair d = true) : ∃ a b, d = .tuple [a, b] := by
  cases d with
  | tuple ds =>
    have h : ds.length = 2 := of_decide_eq_true h
    match ds, h with
    | [a, b], _ => exact ⟨a, b, rfl⟩
  | _ => exact nomatch h
theorem dWhole_get {d : PyData} (h : dWhole d = true) : ∃ i, d = .int i := by
  cases d with
  | int i => exact ⟨i, rfl⟩
  | _ => exact nomatch h
/-- bounds (n, d), both at most m -/
def dBounds : PyData → Bool
  | .tuple [.int n, .int d] => decide (0 ≤ n) && decide (1 ≤ d)
  | _ => false
def dBoundsTo (m : Int) : PyData → Bool
  | .tuple [.int n, .int d] => decide (0 ≤ n) && decide (1 ≤ d) && decide (n ≤ m) && decide (d ≤ m)
  | _ => false
theorem dBounds_pair {d : PyData} (h : dPair d = false) : dBounds d = false := by
  match d, h with
  | .tuple [], _ => simp [dBounds]
  | .tuple [_], _ => simp [dBounds]
  | .tuple [_, _], h => exact nomatch h
  | .tuple (_ :: _ :: _ :: _), _ => simp [dBounds]
  | .none, _ => rfl
  | .bool _, _ => rfl
  | .int _, _ => rfl
  | .str _, _ => rfl
  | .list _, _ => rfl
  | .dict _, _ => rfl
theorem dBounds_get {d : PyData} (h : dBounds d = true) : ∃ n m : Int, d = .tuple [.int n, .int m] ∧ 0 ≤ n ∧ 1 ≤ m := by
  unfold dBounds at h
  split at h
  · obtain ⟨h1, h2⟩ := Bool.and_eq_true_iff.mp h
    exact ⟨_, _, rfl, of_decide_eq_true h1, of_decide_eq_true h2⟩
  · cases h
theorem dBoundsTo_no {m : Int} {d : PyData} (h : dBounds d = false) : dBoundsTo m d = false := by
  unfold dBoundsTo
  split
  · unfold dBounds at h
    simp only at h
    rw [h]
    rfl
  · rfl
/-! ### lists that grow, of data without lists -/
def AccL (H : Hp) (D : Addr) (ds : List PyData) : Prop := ∃ acc, H D = some (.lst acc) ∧ DtAll H acc ds ∧ noLs ds = true
theorem noLs_app {a b : List PyData} (h1 : noLs a = true) (h2 : noLs b = true) : noLs (a ++ b) = true := noLs_of fun d hd => by
  rcases List.mem_append.mp hd with e | e
  · exact noLs_mem h1 d e
  · exact noLs_mem h2 d e
theorem AccL.new {H : Hp} {D : Addr} : AccL (upd H D (.lst [])) D [] := ⟨[], upd_same, .nil, rfl⟩
theorem AccL.up {H H' : Hp} {D : Addr} {ds : List PyData} (h : AccL H D ds) (e : Ex H H') : AccL H' D ds := by
  obtain ⟨acc, h1, h2, h3⟩ := h
  exact ⟨acc, e _ _ h1, h2.up e, h3⟩
theorem AccL.app {H H2 : Hp} {D : Addr} {ds : List PyData} {v : V} {d : PyData} (h : AccL H D ds) (e : Ex H H2) (hv : Dt H2 v d) (nd : noL d = true) : ∃ acc, H2 D = some (.lst acc) ∧ acc.length = ds.length ∧ AccL (upd H2 D (.lst (acc ++ [v]))) D (ds ++ [d]) := by
  obtain ⟨acc, h1, h2, h3⟩ := h
  have hD := e _ _ h1
  have hL : IsL H2 D := ⟨acc, hD⟩
  refine ⟨acc, hD, h2.len, acc ++ [v], upd_same, DtAll.app ?_ (.cons ?_ .nil), noLs_app h3 ?_⟩
  · exact DtAll.monoB hL ExB.upd ds acc h3 (h2.up e)
  · exact Dt.monoB hL ExB.upd d v nd hv
  · show (noL d && true) = true
    rw [nd]
    rfl
theorem AccL.dt {H : Hp} {D : Addr} {ds : List PyData} (h : AccL H D ds) : Dt H (.ref D) (.list ds) := by
  obtain ⟨acc, h1, h2, _⟩ := h
  exact .lst h1 h2
/-! ### the draws -/
def PoolB (H : Hp) (pa : Addr) (n : Nat) : Prop := ∃ a b c : Int, H pa = some (.lst [.int a, .int b, .int c]) ∧ 0 ≤ c ∧ c + n ≤ 1099511627776
theorem PoolB.isL {H : Hp} {pa : Addr} {n : Nat} (h : PoolB H pa n) : IsL H pa := by
  obtain ⟨a, b, c, h, _⟩ := h
  exact ⟨_, h⟩
theorem PoolB.up {H H' : Hp} {pa : Addr} {n : Nat} (h : PoolB H pa n) (e : Ex H H') : PoolB H' pa n := by
  obtain ⟨a, b, c, h, h2⟩ := h
  exact ⟨a, b, c, e _ _ h, h2⟩
theorem PoolB.less {H : Hp} {pa : Addr} {n m : Nat} (h : PoolB H pa n) (l : m ≤ n) : PoolB H pa m := by
  obtain ⟨a, b, c, h, h2, h3⟩ := h
  exact ⟨a, b, c, h, h2, by omega⟩
theorem ExB.free {B : Addr} {H H' : Hp} (e : ExB B H H') (hB : IsL H' B) {p : Addr} (h : H' p = none) : H p = none := by
  cases q : H p with
  | none => rfl
  | some o =>
    by_cases z : p = B
    · obtain ⟨xs, hx⟩ := hB
      rw [z, hx] at h
      cases h
    · rw [e p o z q] at h
      cases h
theorem Dt.dr {B : Addr} {H H' : Hp} {v : V} {d : PyData} (h : Dt H v d) (hB : IsL H B) (e : ExB B H H') (n : noL d = true) : Dt H' v d := Dt.monoB hB e d v n h
/-! ### picked ones, in order -/
def sel (f : Nat → Bool) (g : Nat → PyData) : Nat → List PyData
  | 0 => []
  | n + 1 => sel f g n ++ (if f n = true then [g n] else [])
theorem sel_yes {f : Nat → Bool} {g : Nat → PyData} {n : Nat} (h : f n = true) : sel f g (n + 1) = sel f g n ++ [g n] := by
  show sel f g n ++ (if f n = true then [g n] else []) = _
  rw [if_pos h]
theorem sel_no {f : Nat → Bool} {g : Nat → PyData} {n : Nat} (h : f n = false) : sel f g (n + 1) = sel f g n := by
  show sel f g n ++ (if f n = true then [g n] else []) = _
  rw [if_neg (by rw [h]; exact Bool.false_ne_true), List.append_nil]
theorem sel_len (f : Nat → Bool) (g : Nat → PyData) : ∀ n : Nat, (sel f g n).length ≤ n
  | 0 => Nat.le_refl 0
  | n + 1 => by
    have h := sel_len f g n
    cases e : f n with
    | true => rw [sel_yes e, List.length_append]; exact Nat.add_le_add h (Nat.le_refl 1)
    | false => rw [sel_no e]; omega
theorem sel_congr {f f' : Nat → Bool} {g g' : Nat → PyData} : ∀ n : Nat, (∀ i, i < n → f i = f' i) → (∀ i, i < n → g i = g' i) → sel f g n = sel f' g' n
  | 0, _, _ => rfl
  | n + 1, h1, h2 => by
    show sel f g n ++ (if f n = true then [g n] else []) = sel f' g' n ++ (if f' n = true then [g' n] else [])
    rw [sel_congr n (fun i hi => h1 i (by omega)) (fun i hi => h2 i (by omega)), h1 n (by omega), h2 n (by omega)]
theorem _root_.Evl.Ex.keepB {B : Addr} {H0 H H' : Hp} (a : Ex H0 H) (n : H0 B = none) (b : ExB B H H') : Ex H0 H' := fun x o h => b x o (ne_of_none h n) (a x o h)
/-! ### what an expression is worth, as data -/
def EvD (te : TE) (σ : L2.St) (H : Hp) (d : PyData) : Prop := ∀ H1, Ex H H1 → ∀ Q : VK, (∀ v H2, Ex H1 H2 → Dt H2 v d → Q v H2) → te σ H1 Q
def EvN (te : TE) (σ : L2.St) (H : Hp) (ds : List PyData) : Prop := ∀ H1, Ex H H1 → ∀ Q : VK, (∀ p H2, H1 p = none → Ex H1 H2 → AccL H2 p ds → Q (.ref p) H2) → te σ H1 Q
def EvDA (ta : TA) (σ : L2.St) (H : Hp) (ds : List PyData) : Prop := ∀ H1, Ex H H1 → ∀ Q : List V → Hp → Prop, (∀ vs H2, Ex H1 H2 → DtAll H2 vs ds → Q vs H2) → ta σ H1 Q
section
variable {K : PySem.W.Frag} {σ : L2.St} {H H' : Hp} {ta tb te tl : TE} {t u : TT} {d : PyData} {ds : List PyData}
theorem EvD.mono (e : Ex H H') (h : EvD te σ H d) : EvD te σ H' d := fun H1 a Q q => h H1 (e.trans a) Q q
theorem EvN.mono (e : Ex H H') (h : EvN te σ H ds) : EvN te σ H' ds := fun H1 a Q q => h H1 (e.trans a) Q q
theorem EvN.ed (h : EvN te σ H ds) : EvD te σ H (.list ds) := fun H1 e Q q => h H1 e Q fun p H2 _ e2 a => q _ H2 e2 a.dt
theorem ed_of {v : V} (h : Ev te σ H v) (hd : Dt H v d) : EvD te σ H d := fun H1 e Q q => h H1 e Q fun H2 e2 => q v H2 e2 (hd.up (e.trans e2))
theorem ed_var {v : V} {i : Nat} (h : σ[i]? = some (some v)) (hd : Dt H v d) : EvD (tVar i) σ H d := ed_of (ev_var h) hd
theorem ed_int {i : Int} (h : Ev te σ H (.int i)) : EvD te σ H (.int i) := ed_of h (.int i)
theorem ev_int {i : Int} (h : EvD te σ H (.int i)) : Ev te σ H (.int i) := fun H1 e Q q => h H1 e Q fun v H2 e2 hd => by
  rw [hd.int_eq]
  exact q H2 e2
theorem ev_bl {b : Bool} (h : EvD te σ H (.bool b)) : Ev te σ H (.bl b) := fun H1 e Q q => h H1 e Q fun v H2 e2 hd => by
  rw [hd.bl_eq]
  exact q H2 e2
theorem eda_nil : EvDA tNil σ H [] := fun H1 _ _ q => q [] H1 (Ex.refl H1) .nil
theorem eda_cons {tr : TA} (h : EvD te σ H d) (hr : EvDA tr σ H ds) : EvDA (tCons te tr) σ H (d :: ds) := fun H1 e _ q =>
  h H1 e _ fun v H2 e2 hv => hr H2 (e.trans e2) _ fun vs H3 e3 hvs => q (v :: vs) H3 (e2.trans e3) (.cons (hv.up e3) hvs)
theorem ed_tup {tr : TA} (h : EvDA tr σ H ds) (hl : ds.length ≤ 100000) : EvD (tTup tr) σ H (.tuple ds) := fun H1 e _ q =>
  h H1 e _ fun vs H2 e2 hv => ⟨sz_of (by rw [hv.len]; exact hl), fun p hp => q _ _ (e2.trans (Ex.new hp)) (.tup upd_same (hv.up (Ex.new hp)))⟩
theorem en_lst {tr : TA} (h : EvDA tr σ H ds) (hl : ds.length ≤ 100000) (hn : noLs ds = true) : EvN (tLst tr) σ H ds := fun H1 e _ q =>
  h H1 e _ fun vs H2 e2 hv => ⟨sz_of (by rw [hv.len]; exact hl), fun p hp => q p _ (fresh_back e2 hp) (e2.trans (Ex.new hp)) ⟨vs, upd_same, hv.up (Ex.new hp), hn⟩⟩
/-- one turn of a comprehension -/
theorem lc_turn {H1 H2 : Hp} {D : Addr} {dsi : List PyData} {b : Bool} {σ2 : L2.St} (p : Ex H1 H2 ∧ AccL H2 D dsi) (hD : H1 D = none) (hz : dsi.length < 50000) (ht : EvT t σ2 H1 b) (he : b = true → EvD te σ2 H1 d) (nd : b = true → noL d = true) :
    t σ2 H2 fun c H3 => if c = true then te σ2 H3 fun y H4 => ∃ acc, H4 D = some (.lst acc) ∧ acc.length < sizeLine ∧ (Ex H1 (upd H4 D (.lst (acc ++ [y]))) ∧ AccL (upd H4 D (.lst (acc ++ [y]))) D (dsi ++ (if b = true then [d] else []))) else (Ex H1 H3 ∧ AccL H3 D (dsi ++ (if b = true then [d] else []))) := by
  obtain ⟨e1, a1⟩ := p
  refine ht H2 e1 _ fun H3 e3 => ?_
  cases b with
  | true =>
    refine itT rfl (he rfl H3 (e1.trans e3) _ fun v H4 e4 hv => ?_)
    obtain ⟨acc, h1, h2, h3⟩ := a1.app (e3.trans e4) hv (nd rfl)
    exact ⟨acc, h1, sz_lt (by omega), Ex.mut ((e1.trans e3).trans e4) hD, h3⟩
  | false =>
    refine itF rfl ⟨e1.trans e3, ?_⟩
    rw [if_neg Bool.false_ne_true, List.append_nil]
    exact a1.up e3
theorem take_flt {α β : Type} (f : α → Bool) (g : α → β) {ds : List α} {i : Nat} {d : α} (h : ds[i]? = some d) : ((ds.take (i + 1)).filter f).map g = ((ds.take i).filter f).map g ++ (if f d = true then [g d] else []) := by
  rw [List.take_add_one, h, List.filter_append, List.map_append]
  congr 1
  cases e : f d with
  | true => simp [e]
  | false => simp [e]
theorem flt_len {α β : Type} (f : α → Bool) (g : α → β) (ds : List α) (i : Nat) : (((ds.take i).filter f).map g).length ≤ ds.length := by
  rw [List.length_map]
  have h1 := List.length_filter_le f (ds.take i)
  have h2 : (ds.take i).length ≤ ds.length := by
    rw [List.length_take]
    exact Nat.min_le_right _ _
  omega
/-- [te for x in tl if t] over a list of data -/
theorem en_lcD {j : Nat} {vs : List Nat} (f : PyData → Bool) (g : PyData → PyData) (h : EvD tl σ H (.list ds)) (hz : ds.length ≤ 40000) (hw : ∀ x, wipe ((wipe σ vs).set j (some x)) vs = wipe σ vs)
    (ht : ∀ H1 v d, Ex H H1 → d ∈ ds → Dt H1 v d → EvT t ((wipe σ vs).set j (some v)) H1 (f d)) (he : ∀ H1 v d, Ex H H1 → d ∈ ds → Dt H1 v d → f d = true → EvD te ((wipe σ vs).set j (some v)) H1 (g d)) (hn : ∀ d, d ∈ ds → f d = true → noL (g d) = true) :
    EvN (tLc (iList K tl) (gName j) t te vs) σ H ((ds.filter f).map g) := fun H0 e Q q => h H0 e _ fun v H1 e1 hv => by
  obtain ⟨a, xs, rfl, ha, hx⟩ := hv.lst_get
  refine ⟨a, rfl, ⟨xs, sq_of ha⟩, fun D hD => lc_list (xs := xs) (fun i H' => Ex H1 H' ∧ AccL H' D (((ds.take i).filter f).map g)) ⟨Ex.new hD, AccL.new⟩ (fun i H' _ p => sq_of (p.1 a _ ha)) (fun i x H' hi p => ?_) (fun H' p => ?_)⟩
  · obtain ⟨d, hd, hxd⟩ := hx.get i hi
    have hm := List.mem_of_getElem? hd
    refine ⟨hw x, ?_⟩
    show t _ H' fun c H3 => if c = true then te _ H3 fun y H4 => ∃ acc, H4 D = some (.lst acc) ∧ acc.length < sizeLine ∧ (Ex H1 (upd H4 D (.lst (acc ++ [y]))) ∧ AccL (upd H4 D (.lst (acc ++ [y]))) D (((ds.take (i + 1)).filter f).map g)) else (Ex H1 H3 ∧ AccL H3 D (((ds.take (i + 1)).filter f).map g))
    rw [take_flt f g hd]
    exact lc_turn p hD (by have := flt_len f g ds i; omega) (ht H1 x d (e.trans e1) hm hxd) (fun hf => he H1 x d (e.trans e1) hm hxd hf) (hn d hm)
  · rw [hx.len, List.take_length] at p
    exact q D H' (fresh_back e1 hD) (e1.trans p.1) p.2
/-- .. over a tuple of data -/
theorem en_lcT {j : Nat} {vs : List Nat} (f : PyData → Bool) (g : PyData → PyData) (h : EvD tl σ H (.tuple ds)) (hz : ds.length ≤ 40000) (hw : ∀ x, wipe ((wipe σ vs).set j (some x)) vs = wipe σ vs)
    (ht : ∀ H1 v d, Ex H H1 → d ∈ ds → Dt H1 v d → EvT t ((wipe σ vs).set j (some v)) H1 (f d)) (he : ∀ H1 v d, Ex H H1 → d ∈ ds → Dt H1 v d → f d = true → EvD te ((wipe σ vs).set j (some v)) H1 (g d)) (hn : ∀ d, d ∈ ds → f d = true → noL (g d) = true) :
    EvN (tLc (iTup K tl) (gName j) t te vs) σ H ((ds.filter f).map g) := fun H0 e Q q => h H0 e _ fun v H1 e1 hv => by
  obtain ⟨a, xs, rfl, ha, hx⟩ := hv.tup_get
  refine ⟨a, rfl, ⟨xs, st_of ha⟩, fun D hD => lc_tup (xs := xs) (fun i H' => Ex H1 H' ∧ AccL H' D (((ds.take i).filter f).map g)) ⟨Ex.new hD, AccL.new⟩ (fun i H' _ p => st_of (p.1 a _ ha)) (fun i x H' hi p => ?_) (fun H' p => ?_)⟩
  · obtain ⟨d, hd, hxd⟩ := hx.get i hi
    have hm := List.mem_of_getElem? hd
    refine ⟨hw x, ?_⟩
    show t _ H' fun c H3 => if c = true then te _ H3 fun y H4 => ∃ acc, H4 D = some (.lst acc) ∧ acc.length < sizeLine ∧ (Ex H1 (upd H4 D (.lst (acc ++ [y]))) ∧ AccL (upd H4 D (.lst (acc ++ [y]))) D (((ds.take (i + 1)).filter f).map g)) else (Ex H1 H3 ∧ AccL H3 D (((ds.take (i + 1)).filter f).map g))
    rw [take_flt f g hd]
    exact lc_turn p hD (by have := flt_len f g ds i; omega) (ht H1 x d (e.trans e1) hm hxd) (fun hf => he H1 x d (e.trans e1) hm hxd hf) (hn d hm)
  · rw [hx.len, List.take_length] at p
    exact q D H' (fresh_back e1 hD) (e1.trans p.1) p.2
/-- .. over a range -/
def irng (lo hi : Int) : List Int := (List.range (hi - lo).toNat).map fun (i : Nat) => lo + (i : Int)
theorem irng_get {lo hi : Int} {i : Nat} (h : i < (hi - lo).toNat) : (irng lo hi)[i]? = some (lo + (i : Int)) := by
  unfold irng
  rw [List.getElem?_map, List.getElem?_range h]
  rfl
theorem irng_len (lo hi : Int) : (irng lo hi).length = (hi - lo).toNat := by
  unfold irng
  rw [List.length_map, List.length_range]
theorem irng_mem {lo hi x : Int} : x ∈ irng lo hi ↔ lo ≤ x ∧ x < hi := by
  unfold irng
  rw [List.mem_map]
  constructor
  · rintro ⟨i, hi, rfl⟩
    have := List.mem_range.mp hi
    omega
  · rintro ⟨h1, h2⟩
    exact ⟨(x - lo).toNat, List.mem_range.mpr (by omega), by omega⟩
theorem en_lcR2 {ta : TA} {j : Nat} {vs : List Nat} {lo hi : Int} (f : Int → Bool) (g : Int → PyData) (h : EvA ta σ H [.int lo, .int hi]) (hz : -1000000 ≤ lo ∧ hi ≤ 1000000 ∧ hi - lo ≤ 40000 ∧ lo ≤ 1000000 ∧ -1000000 ≤ hi) (hw : ∀ x, wipe ((wipe σ vs).set j (some x)) vs = wipe σ vs)
    (ht : ∀ x, lo ≤ x → x < hi → EvT t ((wipe σ vs).set j (some (.int x))) H (f x)) (he : ∀ x, lo ≤ x → x < hi → f x = true → EvD te ((wipe σ vs).set j (some (.int x))) H (g x)) (hn : ∀ x, lo ≤ x → x < hi → f x = true → noL (g x) = true) :
    EvN (tLc (iRng2 ta) (gName j) t te vs) σ H (((irng lo hi).filter f).map g) := fun H0 e Q q => h H0 e _ fun H1 e1 => by
  refine ⟨lo, hi, rfl, ⟨by omega, by omega, by omega, by omega⟩, fun D hD => lc_range (lo := lo) (n := (hi - lo).toNat) (fun i H' => Ex H1 H' ∧ AccL H' D ((((irng lo hi).take i).filter f).map g)) ⟨Ex.new hD, AccL.new⟩ (fun i H' hi' p => ?_) (fun H' p => ?_)⟩
  · refine ⟨hw _, ?_⟩
    show t _ H' fun c H3 => if c = true then te _ H3 fun y H4 => ∃ acc, H4 D = some (.lst acc) ∧ acc.length < sizeLine ∧ (Ex H1 (upd H4 D (.lst (acc ++ [y]))) ∧ AccL (upd H4 D (.lst (acc ++ [y]))) D ((((irng lo hi).take (i + 1)).filter f).map g)) else (Ex H1 H3 ∧ AccL H3 D ((((irng lo hi).take (i + 1)).filter f).map g))
    rw [take_flt f g (irng_get hi')]
    refine lc_turn p hD ?_ ((ht _ (by omega) (by omega)).mono (e.trans e1)) (fun hf => (he _ (by omega) (by omega) hf).mono (e.trans e1)) (hn _ (by omega) (by omega))
    have := flt_len f g (irng lo hi) i
    rw [irng_len] at this
    omega
  · rw [List.take_of_length_le (by rw [irng_len]; exact Nat.le_refl _)] at p
    exact q D H' (fresh_back e1 hD) (e1.trans p.1) p.2
theorem en_lcR1 {ta : TA} {j : Nat} {vs : List Nat} {hi : Int} (f : Int → Bool) (g : Int → PyData) (h : EvA ta σ H [.int hi]) (hz : -1000000 ≤ hi ∧ hi ≤ 40000) (hw : ∀ x, wipe ((wipe σ vs).set j (some x)) vs = wipe σ vs)
    (ht : ∀ x, 0 ≤ x → x < hi → EvT t ((wipe σ vs).set j (some (.int x))) H (f x)) (he : ∀ x, 0 ≤ x → x < hi → f x = true → EvD te ((wipe σ vs).set j (some (.int x))) H (g x)) (hn : ∀ x, 0 ≤ x → x < hi → f x = true → noL (g x) = true) :
    EvN (tLc (iRng1 ta) (gName j) t te vs) σ H (((irng 0 hi).filter f).map g) := fun H0 e Q q => h H0 e _ fun H1 e1 => by
  refine ⟨hi, rfl, by omega, by omega, fun D hD => lc_range (lo := 0) (n := hi.toNat) (fun i H' => Ex H1 H' ∧ AccL H' D ((((irng 0 hi).take i).filter f).map g)) ⟨Ex.new hD, AccL.new⟩ (fun i H' hi' p => ?_) (fun H' p => ?_)⟩
  · refine ⟨hw _, ?_⟩
    show t _ H' fun c H3 => if c = true then te _ H3 fun y H4 => ∃ acc, H4 D = some (.lst acc) ∧ acc.length < sizeLine ∧ (Ex H1 (upd H4 D (.lst (acc ++ [y]))) ∧ AccL (upd H4 D (.lst (acc ++ [y]))) D ((((irng 0 hi).take (i + 1)).filter f).map g)) else (Ex H1 H3 ∧ AccL H3 D ((((irng 0 hi).take (i + 1)).filter f).map g))
    rw [take_flt f g (irng_get (lo := 0) (hi := hi) (by omega))]
    refine lc_turn p hD ?_ ((ht _ (by omega) (by omega)).mono (e.trans e1)) (fun hf => (he _ (by omega) (by omega) hf).mono (e.trans e1)) (hn _ (by omega) (by omega))
    have := flt_len f g (irng 0 hi) i
    rw [irng_len] at this
    omega
  · rw [List.take_of_length_le (by rw [irng_len]; omega)] at p
    exact q D H' (fresh_back e1 hD) (e1.trans p.1) p.2
end
/-! ### == of data -/
mutual
def flat1 : PyData → Bool
  | .none | .bool _ | .int _ => true
  | _ => false
end
theorem canLay_ints : ∀ ns : List Int, PyData.canLayAll0 (ns.map PyData.int) = true
  | [] => rfl
  | n :: ns => by
    show ((PyData.int n).canLay0 && PyData.canLayAll0 (ns.map PyData.int)) = true
    rw [canLay_ints ns]
    rfl
theorem depth_ints : ∀ ns : List Int, PyData.depthAll (ns.map PyData.int) = 0
  | [] => rfl
  | n :: ns => by
    show max (PyData.depth (.int n)) (PyData.depthAll (ns.map PyData.int)) = 0
    rw [depth_ints ns]
    rfl
theorem shaped_ints (ns : List Int) : SeqAt.shaped (.list (ns.map PyData.int)) = true := by
  show (PyData.canLayAll0 (ns.map PyData.int) && decide (PyData.depthAll (ns.map PyData.int) + 1 ≤ 64)) = true
  rw [canLay_ints, depth_ints]
  rfl
theorem shaped_intsT (ns : List Int) : SeqAt.shaped (.tuple (ns.map PyData.int)) = true := by
  show (PyData.canLayAll0 (ns.map PyData.int) && decide (PyData.depthAll (ns.map PyData.int) + 1 ≤ 64)) = true
  rw [canLay_ints, depth_ints]
  rfl
/-- a list (tuple) of things of at most k deep -/
theorem lay_all {ds : List PyData} {k : Nat} (h : ∀ d ∈ ds, d.canLay0 = true ∧ d.depth ≤ k) : PyData.canLayAll0 ds = true ∧ PyData.depthAll ds ≤ k := by
  induction ds with
  | nil => exact ⟨rfl, Nat.zero_le _⟩
  | cons d ds ih =>
    obtain ⟨h1, h2⟩ := h d List.mem_cons_self
    obtain ⟨h3, h4⟩ := ih fun x hx => h x (List.mem_cons_of_mem _ hx)
    refine ⟨?_, ?_⟩
    · show (d.canLay0 && PyData.canLayAll0 ds) = true
      rw [h1, h3]
      rfl
    · show max d.depth (PyData.depthAll ds) ≤ k
      omega
theorem lay_list {ds : List PyData} {k : Nat} (h : ∀ d ∈ ds, d.canLay0 = true ∧ d.depth ≤ k) : (PyData.list ds).canLay0 = true ∧ (PyData.list ds).depth ≤ k + 1 := by
  obtain ⟨h1, h2⟩ := lay_all h
  exact ⟨h1, Nat.succ_le_succ h2⟩
theorem lay_tup {ds : List PyData} {k : Nat} (h : ∀ d ∈ ds, d.canLay0 = true ∧ d.depth ≤ k) : (PyData.tuple ds).canLay0 = true ∧ (PyData.tuple ds).depth ≤ k + 1 := by
  obtain ⟨h1, h2⟩ := lay_all h
  exact ⟨h1, Nat.succ_le_succ h2⟩
theorem lay_pair (a b : Int) : (PyData.tuple [.int a, .int b]).canLay0 = true ∧ (PyData.tuple [.int a, .int b]).depth ≤ 1 := ⟨rfl, Nat.le_refl 1⟩
theorem shaped_of {d : PyData} {k : Nat} (h : d.canLay0 = true ∧ d.depth ≤ k) (hk : k ≤ 64) : SeqAt.shaped d = true := by
  show (d.canLay0 && decide (d.depth ≤ 64)) = true
  rw [h.1, decide_eq_true (by omega)]
  rfl
theorem eqv_self {d : PyData} (h : d.canLay0 = true) : PyData.eqv d d = true := SeqAt.eqv_refl d h
section
variable {K : PySem.W.Frag} {σ : L2.St} {H H' : Hp} {ta tb te tl : TE} {t u : TT} {d e : PyData} {ds : List PyData}
theorem rv_eqD {x y : V} (hx : Dt H x d) (hy : Dt H y e) (sd : SeqAt.shaped d = true) (se : SeqAt.shaped e = true) : RV (rEqD K) x y H (.bl (PyData.eqv d e)) := fun H1 a _ q =>
  ⟨d, e, (hx.up a).dp _ _ (SeqAt.canLay_of_shaped sd), (hy.up a).dp _ _ (SeqAt.canLay_of_shaped se), sd, se, q H1 (Ex.refl H1)⟩
theorem rv_neD {x y : V} (hx : Dt H x d) (hy : Dt H y e) (sd : SeqAt.shaped d = true) (se : SeqAt.shaped e = true) : RV (rNeD K) x y H (.bl (!PyData.eqv d e)) := fun H1 a _ q =>
  ⟨d, e, (hx.up a).dp _ _ (SeqAt.canLay_of_shaped sd), (hy.up a).dp _ _ (SeqAt.canLay_of_shaped se), sd, se, q H1 (Ex.refl H1)⟩
theorem ev_eqD (h1 : EvD ta σ H d) (h2 : EvD tb σ H e) (sd : SeqAt.shaped d = true) (se : SeqAt.shaped e = true) : Ev (tOp (rEqD K) ta tb) σ H (.bl (PyData.eqv d e)) := fun H1 a Q q =>
  h1 H1 a _ fun x H2 e2 hx => h2 H2 (a.trans e2) _ fun y H3 e3 hy => rv_eqD (hx.up e3) hy sd se H3 (Ex.refl H3) Q fun H4 e4 => q H4 ((e2.trans e3).trans e4)
theorem ev_neD (h1 : EvD ta σ H d) (h2 : EvD tb σ H e) (sd : SeqAt.shaped d = true) (se : SeqAt.shaped e = true) : Ev (tOp (rNeD K) ta tb) σ H (.bl (!PyData.eqv d e)) := fun H1 a Q q =>
  h1 H1 a _ fun x H2 e2 hx => h2 H2 (a.trans e2) _ fun y H3 e3 hy => rv_neD (hx.up e3) hy sd se H3 (Ex.refl H3) Q fun H4 e4 => q H4 ((e2.trans e3).trans e4)
/-- [..] == [], [..] != [] -/
theorem eqv_nil : PyData.eqv (.list ds) (.list []) = ds.isEmpty := by
  cases ds with
  | nil => rfl
  | cons d ds => rfl
theorem ev_eqNil (h1 : EvN ta σ H ds) (sd : SeqAt.shaped (.list ds) = true) : Ev (tOp (rEqD K) ta (tLst tNil)) σ H (.bl ds.isEmpty) := by
  have h := ev_eqD (K := K) h1.ed (EvN.ed (en_lst (H := H) (σ := σ) eda_nil (by decide) rfl)) sd rfl
  rw [eqv_nil] at h
  exact h
theorem ev_neNil (h1 : EvN ta σ H ds) (sd : SeqAt.shaped (.list ds) = true) : Ev (tOp (rNeD K) ta (tLst tNil)) σ H (.bl (!ds.isEmpty)) := by
  have h := ev_neD (K := K) h1.ed (EvN.ed (en_lst (H := H) (σ := σ) eda_nil (by decide) rfl)) sd rfl
  rw [eqv_nil] at h
  exact h
theorem ev_isi {c : String} {b : Bool} {v : V} (h : Ev te σ H v) (hd : Dt H v d) (k : kitB (tyN d) c = some b) : Ev (tCB (rIsi K) (tCons te (tCons (tC (.ty c)) tNil))) σ H (.bl b) := fun H1 a Q q =>
  h H1 a _ fun H2 e2 => rIsi_of (hd.up (a.trans e2)) k (q H2 e2)
end
/-! ### loops -/
theorem s_forZ {ta : TA} {j : Nat} {lo hi : Int} {tu : TS} {D : Ends} {σ : L2.St} {H : Hp} (h : EvA ta σ H [.int lo, .int hi]) (hb : -1000000 ≤ lo ∧ lo ≤ 1000000 ∧ -1000000 ≤ hi ∧ hi ≤ 1000000) (Pv : Nat → L2.St → Hp → Prop) (h0 : ∀ H1, Ex H H1 → Pv 0 σ H1)
    (hs : ∀ (i : Nat) σ' H', lo + (i : Int) < hi → Pv i σ' H' → tu { D with nx := Pv (i + 1), ct := Pv (i + 1), bk := D.nx } (σ'.set j (some (.int (lo + (i : Int))))) H') (hd : ∀ σ' H', Pv (hi - lo).toNat σ' H' → D.nx σ' H') : tFor (iRng2 ta) (gName j) tu D σ H :=
  h H (Ex.refl H) _ fun H1 e => ⟨lo, hi, rfl, ⟨by omega, by omega, by omega, by omega⟩, for_range (lo := lo) (n := (hi - lo).toNat) Pv (h0 H1 e) (fun i σ' H' hi p => hs i σ' H' (by omega) p) hd⟩
/-! ### the fractions within bounds -/
/-- the row of the fractions with the bottom b, tops from -n on, j of them looked at; all rows to the bottom i -/
def frow (n b : Int) (j : Nat) : List PyData := sel (fun t => decide (Int.gcd (-n + (t : Int)) b = 1)) (fun t => .tuple [.int (-n + (t : Int)), .int b]) j
def frows (n : Int) : Nat → List PyData
  | 0 => []
  | i + 1 => frows n i ++ frow n (1 + (i : Int)) (2 * n + 1).toNat
theorem frows_len {n : Int} (h0 : 0 ≤ n) (h : n ≤ 60) : ∀ i : Nat, (frows n i).length ≤ 121 * i
  | 0 => Nat.le_refl 0
  | i + 1 => by
    show (frows n i ++ frow n (1 + (i : Int)) (2 * n + 1).toNat).length ≤ _
    have h1 := frows_len h0 h i
    have h2 : (frow n (1 + (i : Int)) (2 * n + 1).toNat).length ≤ (2 * n + 1).toNat := sel_len _ _ _
    rw [List.length_append]
    omega
/-! ### statements over data -/
section
variable {K : PySem.W.Frag} {σ : L2.St} {H H' : Hp} {ta tb te tl : TE} {t u : TT} {d e : PyData} {ds : List PyData} {D : Ends} {tz : TS}
theorem q_asgN {i : Nat} (h : EvN te σ H ds) (k : ∀ p H1, H p = none → Ex H H1 → AccL H1 p ds → tz D (σ.set i (some (.ref p))) H1) : tSeq (tAsg te (gName i)) tz D σ H := h H (Ex.refl H) _ k
theorem s_asgN {i : Nat} (h : EvN te σ H ds) (k : ∀ p H1, H p = none → Ex H H1 → AccL H1 p ds → D.nx (σ.set i (some (.ref p))) H1) : tAsg te (gName i) D σ H := h H (Ex.refl H) _ k
theorem q_asgD {i : Nat} (h : EvD te σ H d) (k : ∀ v H1, Ex H H1 → Dt H1 v d → tz D (σ.set i (some v)) H1) : tSeq (tAsg te (gName i)) tz D σ H := h H (Ex.refl H) _ k
theorem s_asgD {i : Nat} (h : EvD te σ H d) (k : ∀ v H1, Ex H H1 → Dt H1 v d → D.nx (σ.set i (some v)) H1) : tAsg te (gName i) D σ H := h H (Ex.refl H) _ k
theorem s_retN (h : EvN te σ H ds) (k : ∀ p H1, H p = none → Ex H H1 → AccL H1 p ds → D.rt (.ref p) H1) : tRet te D σ H := h H (Ex.refl H) _ k
theorem s_retD (h : EvD te σ H d) (k : ∀ v H1, Ex H H1 → Dt H1 v d → D.rt v H1) : tRet te D σ H := h H (Ex.refl H) _ k
end
/-! ### the layer's rules, the written part told by name -/
section
variable {X : Cx} {tg l e : Expr} {tl te : TE} {pos : Pos}
theorem pi_listK (K : PySem.W.Frag) (hl : PE X l tl) (hK : X.K = K := by rfl) : PI X tg l (iList K tl) := by
  subst hK
  exact pi_list hl
theorem pi_tupK (K : PySem.W.Frag) (hl : PE X l tl) (hK : X.K = K := by rfl) : PI X tg l (iTup K tl) := by
  subst hK
  exact pi_tup hl
theorem pe_revLK {k : Nat} {p1 p2 p3 : Pos} (K : PySem.W.Frag) (he : PE X e te) (hK : X.K = K := by rfl) : PE X (.Subscript e (.Slice none none (some (.UnaryOp .USub (.Constant (.int 1) k p1) p2)) p3) pos) (tRevL K te) := by
  subst hK
  exact pe_revL he
end
/-! ### how many turns a law takes -/
theorem turns_ok (m L : Int) (hm : 1 ≤ m) (hL : 0 ≤ L) : 1 ≤ (if (if L < m then L else m) > 1 then (if L < m then L else m) else 1) ∧ (if (if L < m then L else m) > 1 then (if L < m then L else m) else 1) ≤ m := by
  split <;> split <;> omega
theorem PoolB.dr {H : Hp} {pa : Addr} {n : Nat} {p : Addr} {o : HO} (h : PoolB H pa n) (hp : H p = none) : PoolB (upd H p o) pa n := h.up (Ex.new hp)
/-! ### sizes of drawn numbers -/
def big (i : Nat) : Int := 1000000 ^ i
theorem big_succ (i : Nat) : big (i + 1) = big i * 1000000 := Int.pow_succ 1000000 i
theorem big_pos (i : Nat) : 0 < big i := Int.pow_pos (by decide)
theorem big_le : ∀ i : Nat, i < 6 → big i ≤ 1000000000000000000000000000000 := by decide +kernel
theorem big_far {v w : Int} {i : Nat} (h0 : 0 ≤ v) (h : v < big i) (w0 : 0 ≤ w) (w1 : w < 1000000) : 0 ≤ v * 1000000 + w ∧ v * 1000000 + w < big (i + 1) := by
  rw [big_succ]
  omega
/-! ### the primes below a thousand, as the laws find them -/
def primesL : List Int := (irng 2 1000).filter fun p => ((irng 2 32).filter fun d => decide (p % d = 0) && decide (d < p)).isEmpty
theorem primesL_len : primesL.length = 168 := by decide +kernel
/-- what is_prime reckons -/
def primeB (n : Int) : Bool := decide (2 ≤ n) && decide (n < 1000) && (irng 2 32).all fun k => decide (n < k * k) || !decide (n % k = 0)
theorem primesL_prime : ∀ p ∈ primesL, primeB p = true := by decide +kernel
theorem primeB_lo {n : Int} (h : primeB n = true) : 2 ≤ n ∧ n < 1000 := by
  unfold primeB at h
  obtain ⟨h, _⟩ := Bool.and_eq_true_iff.mp h
  obtain ⟨h1, h2⟩ := Bool.and_eq_true_iff.mp h
  exact ⟨of_decide_eq_true h1, of_decide_eq_true h2⟩
theorem primesL_lo {p : Int} (h : p ∈ primesL) : 2 ≤ p ∧ p < 1000 := primeB_lo (primesL_prime p h)
theorem primesL_get {i : Nat} (h : i < 168) : ∃ p, (primesL.map V.int)[i]? = some (.int p) ∧ p ∈ primesL := by
  have h2 : i < primesL.length := by rw [primesL_len]; exact h
  refine ⟨primesL[i], ?_, List.getElem_mem h2⟩
  rw [List.getElem?_map, List.getElem?_eq_getElem h2]
  rfl
/-! ### fractions and primes as data -/
def dFrac : PyData → Bool
  | .tuple [.int t, .int b] => decide (1 ≤ b) && decide (Int.gcd t b = 1)
  | _ => false
def dPrime : PyData → Bool
  | .int n => primeB n
  | _ => false
theorem dFrac_pair {d : PyData} (h : dPair d = false) : dFrac d = false := by
  match d, h with
  | .tuple [], _ => simp [dFrac]
  | .tuple [_], _ => simp [dFrac]
  | .tuple [_, _], h => exact nomatch h
  | .tuple (_ :: _ :: _ :: _), _ => simp [dFrac]
  | .none, _ => rfl
  | .bool _, _ => rfl
  | .int _, _ => rfl
  | .str _, _ => rfl
  | .list _, _ => rfl
  | .dict _, _ => rfl
theorem dFrac_get {d : PyData} (h : dFrac d = true) : ∃ t b : Int, d = .tuple [.int t, .int b] ∧ 1 ≤ b ∧ Int.gcd t b = 1 := by
  unfold dFrac at h
  split at h
  · obtain ⟨h1, h2⟩ := Bool.and_eq_true_iff.mp h
    exact ⟨_, _, rfl, of_decide_eq_true h1, of_decide_eq_true h2⟩
  · cases h
theorem dFrac_of {t b : Int} (h1 : 1 ≤ b) (h2 : Int.gcd t b = 1) : dFrac (.tuple [.int t, .int b]) = true := by
  show (decide (1 ≤ b) && decide (Int.gcd t b = 1)) = true
  rw [decide_eq_true h1, decide_eq_true h2]
  rfl
theorem primeB_no {n k : Int} (h1 : 2 ≤ k) (h2 : k * k ≤ n) (h3 : n % k = 0) : primeB n = false := by
  cases e : primeB n with
  | false => rfl
  | true =>
    have hn := primeB_lo e
    have hk : k < 32 := by
      by_cases z : k < 32
      · exact z
      · have : 32 * 32 ≤ k * k := Int.mul_le_mul (by omega) (by omega) (by decide) (by omega)
        omega
    unfold primeB at e
    obtain ⟨_, e⟩ := Bool.and_eq_true_iff.mp e
    have e := List.all_eq_true.mp e k (irng_mem.mpr ⟨h1, hk⟩)
    rw [decide_eq_false (by omega), decide_eq_true h3] at e
    exact nomatch e
theorem primeB_yes {n k : Int} (h0 : 2 ≤ n) (h1 : n < 1000) (hk : 2 ≤ k) (h2 : n < k * k) (h3 : ∀ j : Int, 2 ≤ j → j < k → n % j ≠ 0) : primeB n = true := by
  unfold primeB
  rw [decide_eq_true h0, decide_eq_true h1, Bool.true_and, Bool.true_and]
  refine List.all_eq_true.mpr fun j hj => ?_
  obtain ⟨j0, j1⟩ := irng_mem.mp hj
  by_cases z : j < k
  · rw [decide_eq_false (h3 j j0 z)]
    exact Bool.or_true _
  · have : k * k ≤ j * j := Int.mul_le_mul (by omega) (by omega) (by omega) (by omega)
    rw [decide_eq_true (by omega)]
    rfl
/-! a prime that does not divide has nothing in common -/
theorem primeB_div {p g : Int} (hp : primeB p = true) (hg : g ∣ p) (g0 : 0 < g) : g = 1 ∨ g = p := by
  obtain ⟨lo, hi⟩ := primeB_lo hp
  obtain ⟨c, hc⟩ := hg
  have hg2 : g ≤ p := Int.le_of_dvd (by omega) ⟨c, hc⟩
  have c0 : 0 < c := by
    by_cases z : 0 < c
    · exact z
    · have : g * c ≤ g * 0 := Int.mul_le_mul_of_nonneg_left (by omega) (by omega)
      omega
  by_cases z1 : g = 1
  · exact .inl z1
  · by_cases z2 : c = 1
    · rw [z2] at hc
      exact .inr (by omega)
    · exfalso
      by_cases z : g * g ≤ p
      · have := primeB_no (k := g) (by omega) z (Int.emod_eq_zero_of_dvd ⟨c, hc⟩)
        rw [hp] at this
        cases this
      · have hcg : c ≤ g := by
          by_cases y : c ≤ g
          · exact y
          · have : g * g ≤ g * c := Int.mul_le_mul_of_nonneg_left (by omega) (by omega)
            omega
        have : c * c ≤ g * c := Int.mul_le_mul_of_nonneg_right hcg (by omega)
        have := primeB_no (k := c) (n := p) (by omega) (by omega) (Int.emod_eq_zero_of_dvd ⟨g, by rw [hc, Int.mul_comm]⟩)
        rw [hp] at this
        cases this
theorem primeB_gcd {p b : Int} (hp : primeB p = true) (h : b % p ≠ 0) : Int.gcd b p = 1 := by
  have lo := primeB_lo hp
  have h0 : Int.gcd b p ≠ 0 := fun e => by
    have := Int.gcd_dvd_right b p
    rw [e] at this
    have := Int.zero_dvd.mp this
    omega
  rcases primeB_div hp (Int.gcd_dvd_right b p) (by omega) with e | e
  · omega
  · have hd := Int.gcd_dvd_left b p
    rw [e] at hd
    exact absurd (Int.emod_eq_zero_of_dvd hd) h
theorem dvd_left_of {p a b : Int} (d : p ∣ a * b) (h : Int.gcd p b = 1) : p ∣ a := by
  rw [← Int.natAbs_dvd_natAbs] at d ⊢
  rw [Int.natAbs_mul] at d
  rw [Int.gcd_eq_natAbs_gcd_natAbs] at h
  exact Nat.Coprime.dvd_of_dvd_mul_right h d
/-! ### Euclid's rows -/
structure EInv (m n ab l fa f t ta s : Int) : Prop where
  hl : l = f * n + t * m
  ha : ab = fa * n + ta * m
  hs : f * ta - fa * t = s
  sg : s = 1 ∨ s = -1
  l0 : 0 ≤ l
  la : l < ab
  am : ab ≤ m
  f1 : 1 ≤ s * f
  fa0 : s * fa ≤ 0
theorem EInv.tot {m n ab l fa f t ta s : Int} (h : EInv m n ab l fa f t ta s) : s * f * ab + (-(s * fa)) * l = m := by
  obtain ⟨hl, ha, hs, sg, _⟩ := h
  have e1 : f * ab - fa * l = m * s := by
    rw [ha, hl]
    grind
  rcases sg with rfl | rfl
  · grind
  · grind
theorem EInv.step {m n ab l fa f t ta s : Int} (h : EInv m n ab l fa f t ta s) (hl : 0 < l) : EInv m n l (ab - ab / l * l) f (fa - ab / l * f) (ta - ab / l * t) t (-s) := by
  obtain ⟨h1, h2, h3, sg, l0, la, am, f1, fa0⟩ := h
  have e := Int.emod_add_ediv_mul ab l
  have m0 := Int.emod_nonneg ab (show l ≠ 0 by omega)
  have m1 := Int.emod_lt_of_pos ab hl
  have q1 : 1 ≤ ab / l := by
    have := Int.ediv_le_ediv hl (show l ≤ ab by omega)
    rw [Int.ediv_self (by omega)] at this
    exact this
  refine ⟨?_, h1, ?_, ?_, by omega, by omega, by omega, ?_, ?_⟩
  · generalize ab / l = q at *
    grind
  · generalize ab / l = q at *
    grind
  · rcases sg with rfl | rfl
    · exact .inr rfl
    · exact .inl rfl
  · have : 1 * 1 ≤ ab / l * (s * f) := Int.mul_le_mul q1 f1 (by decide) (by omega)
    generalize ab / l = q at *
    have e2 : -s * (fa - q * f) = -(s * fa) + q * (s * f) := by grind
    rw [e2]
    omega
  · rw [Int.neg_mul]
    omega
theorem EInv.size {m n ab l fa f t ta s : Int} (h : EInv m n ab l fa f t ta s) : f.natAbs ≤ m.natAbs ∧ (0 < l → fa.natAbs ≤ m.natAbs) := by
  have tot := h.tot
  obtain ⟨_, _, _, sg, l0, la, am, f1, fa0⟩ := h
  have a1 : s * f * 1 ≤ s * f * ab := Int.mul_le_mul_of_nonneg_left (by omega) (by omega)
  have a2 : 0 ≤ -(s * fa) * l := Int.mul_nonneg (by omega) l0
  refine ⟨?_, fun hl => ?_⟩
  · rcases sg with rfl | rfl <;> omega
  · have a3 : -(s * fa) * 1 ≤ -(s * fa) * l := Int.mul_le_mul_of_nonneg_left (by omega) (by omega)
    rcases sg with rfl | rfl <;> omega
def Row (m n k l f : Int) : Prop := ∃ ab fa t ta s : Int, EInv m n ab l fa f t ta s ∧ l ≤ k ∧ (k < ab ∨ (f = 1 ∧ fa = 0 ∧ ab = m))
theorem row_inv {p a l f : Int} (h : Row p (a % p) 1 l f) (hp : 1 < p) (hg : Int.gcd a p = 1) : l = 1 ∧ f % p * a % p = 1 := by
  obtain ⟨ab, fa, t, ta, s, I, hk, hx⟩ := h
  have tot := I.tot
  have hl0 := I.l0
  have hg2 : Int.gcd p (a % p) = 1 := by rw [gcd_step, hg]
  have l1 : l = 1 := by
    by_cases z : l = 1
    · exact z
    · exfalso
      have z : l = 0 := by omega
      subst z
      have e := I.hl
      have d : p ∣ f * (a % p) := ⟨-t, by rw [Int.mul_neg, Int.mul_comm p t]; omega⟩
      have df : p ∣ f := dvd_left_of d hg2
      obtain ⟨c, hc⟩ := df
      have f1 := I.f1
      have sfp : p ≤ s * f := by
        refine Int.le_of_dvd (by omega) ⟨s * c, ?_⟩
        rw [hc]
        grind
      rw [Int.mul_zero, Int.add_zero] at tot
      rcases hx with h | ⟨rfl, _, _⟩
      · have : s * f * 2 ≤ s * f * ab := Int.mul_le_mul_of_nonneg_left (by omega) (by omega)
        omega
      · rcases I.sg with rfl | rfl <;> omega
  refine ⟨l1, ?_⟩
  have e := I.hl
  rw [l1] at e
  have h1 : f % p * a % p = f * (a % p) % p := by
    rw [Int.mul_emod, Int.emod_emod_of_dvd f (Int.dvd_refl p), ← Int.mul_emod, Int.mul_emod f (a % p), Int.emod_emod_of_dvd a (Int.dvd_refl p), ← Int.mul_emod]
  rw [h1, show f * (a % p) = 1 + p * (-t) by rw [Int.mul_neg, Int.mul_comm p t]; omega, Int.add_mul_emod_self_left]
  exact Int.emod_eq_of_lt (by decide) hp
/-! ### the rest of a fraction by a prime -/
def restI (t b p : Int) : Int := ((irng 0 p).find? fun r => decide ((r * b - t) % p = 0)).getD 0
def restD (t b p : Int) : PyData := if b % p = 0 then .none else .int (restI t b p)
theorem restI_eq {t b p r : Int} (hg : Int.gcd b p = 1) (r0 : 0 ≤ r) (r1 : r < p) (h : (r * b - t) % p = 0) : restI t b p = r := by
  unfold restI
  cases e : (irng 0 p).find? fun r => decide ((r * b - t) % p = 0) with
  | none =>
    have := List.find?_eq_none.mp e r (irng_mem.mpr ⟨r0, r1⟩)
    rw [decide_eq_true h] at this
    exact absurd rfl this
  | some x =>
    have h1 := List.find?_some e
    have h1 : (x * b - t) % p = 0 := of_decide_eq_true h1
    obtain ⟨x0, x1⟩ := irng_mem.mp (List.mem_of_find?_eq_some e)
    have d : p ∣ (x - r) * b := by
      have d1 := Int.dvd_sub (Int.dvd_of_emod_eq_zero h1) (Int.dvd_of_emod_eq_zero h)
      have : x * b - t - (r * b - t) = (x - r) * b := by grind
      rw [this] at d1
      exact d1
    have d2 : p ∣ x - r := dvd_left_of d (by rw [Int.gcd_comm]; exact hg)
    obtain ⟨c, hc⟩ := d2
    show x = r
    rcases Int.lt_trichotomy c 0 with z | z | z
    · have : p * c ≤ p * (-1) := Int.mul_le_mul_of_nonneg_left (by omega) (by omega)
      omega
    · rw [z] at hc
      omega
    · have : p * 1 ≤ p * c := Int.mul_le_mul_of_nonneg_left (by omega) (by omega)
      omega
theorem rest_ok {t b p i : Int} (hp : primeB p = true) (hb : b % p ≠ 0) (hi : i * b % p = 1) : restD t b p = .int (t * i % p) ∧ 0 ≤ t * i % p ∧ t * i % p < p ∧ (t * i % p * b - t) % p = 0 := by
  have lo := primeB_lo hp
  have r0 := Int.emod_nonneg (t * i) (show p ≠ 0 by omega)
  have r1 := Int.emod_lt_of_pos (t * i) (show 0 < p by omega)
  have h : (t * i % p * b - t) % p = 0 := by
    have e1 := Int.emod_add_mul_ediv (t * i) p
    have e2 := Int.emod_add_mul_ediv (i * b) p
    rw [hi] at e2
    generalize t * i / p = x at e1
    generalize i * b / p = y at e2
    generalize t * i % p = r at e1
    refine Int.emod_eq_zero_of_dvd ⟨t * y - x * b, ?_⟩
    grind
  refine ⟨?_, r0, r1, h⟩
  unfold restD
  rw [if_neg hb, restI_eq (primeB_gcd hp hb) r0 r1 h]
def dI0 : PyData → Int
  | .int i => i
  | _ => 0
theorem flt_ints (f : Int → Bool) (F : PyData → Bool) (h : ∀ n, F (.int n) = f n) (g : PyData → PyData) (hg : ∀ n, g (.int n) = .int n) : ∀ ns : List Int, ((ns.map PyData.int).filter F).map g = (ns.filter f).map PyData.int
  | [] => rfl
  | n :: ns => by
    rw [List.map_cons, List.filter_cons, List.filter_cons, h]
    cases f n with
    | true => simp only [if_true, List.map_cons]; rw [flt_ints f F h g hg ns, hg]
    | false => simp only [Bool.false_eq_true, if_false]; exact flt_ints f F h g hg ns
/-! ### what is sure to be there: a number that times another leaves 1 -/
theorem bez : ∀ (n : Nat) (a b : Int), 0 ≤ b → b.toNat ≤ n → ∃ x y : Int, a * x + b * y = (Int.gcd a b : Int)
  | 0, a, b, h0, h1 => by
    have e : b = 0 := by omega
    subst e
    rw [Int.gcd_zero_right]
    rcases Int.natAbs_eq a with z | z
    · exact ⟨1, 0, by omega⟩
    · exact ⟨-1, 0, by omega⟩
  | n + 1, a, b, h0, h1 => by
    by_cases z : b = 0
    · exact bez 0 a b h0 (by omega)
    · have m0 := Int.emod_nonneg a z
      have m1 := Int.emod_lt_of_pos a (show 0 < b by omega)
      obtain ⟨x, y, e⟩ := bez n b (a % b) m0 (by omega)
      rw [gcd_step] at e
      refine ⟨y, x - a / b * y, ?_⟩
      rw [← e]
      have := Int.emod_add_mul_ediv a b
      generalize a % b = r at *
      generalize a / b = q at *
      grind
theorem inv_ex {b p : Int} (hp : 1 < p) (hg : Int.gcd b p = 1) : ∃ i : Int, i * b % p = 1 := by
  obtain ⟨x, y, e⟩ := bez p.toNat b p (by omega) (Nat.le_refl _)
  rw [hg] at e
  refine ⟨x, ?_⟩
  rw [show x * b = 1 + p * (-y) by grind, Int.add_mul_emod_self_left]
  exact Int.emod_eq_of_lt (by decide) hp
theorem restD_ok {t b p : Int} (hp : primeB p = true) (hb : b % p ≠ 0) : ∃ r : Int, restD t b p = .int r ∧ 0 ≤ r ∧ r < p ∧ (r * b - t) % p = 0 := by
  have lo := primeB_lo hp
  obtain ⟨i, hi⟩ := inv_ex (by omega) (primeB_gcd hp hb)
  obtain ⟨h1, h2, h3, h4⟩ := rest_ok (t := t) hp hb hi
  exact ⟨_, h1, h2, h3, h4⟩
theorem restD_none {t b p : Int} (hb : b % p = 0) : restD t b p = .none := by
  unfold restD
  rw [if_pos hb]
/-! ### lists of drawn primes -/
def PrL (H : Hp) (a : Addr) (m : Nat) : Prop := ∃ qs : List Int, H a = some (.lst (qs.map V.int)) ∧ qs.length ≤ m ∧ ∀ x ∈ qs, x ∈ primesL
theorem PrL.up {H H' : Hp} {a : Addr} {m : Nat} (h : PrL H a m) (e : Ex H H') : PrL H' a m := by
  obtain ⟨qs, h1, h2, h3⟩ := h
  exact ⟨qs, e _ _ h1, h2, h3⟩
theorem PrL.dr {H H' : Hp} {a B : Addr} {m : Nat} (h : PrL H a m) (n : a ≠ B) (e : ExB B H H') : PrL H' a m := by
  obtain ⟨qs, h1, h2, h3⟩ := h
  exact ⟨qs, e _ _ n h1, h2, h3⟩
theorem PrL.less {H : Hp} {a : Addr} {m k : Nat} (h : PrL H a m) (l : m ≤ k) : PrL H a k := by
  obtain ⟨qs, h1, h2, h3⟩ := h
  exact ⟨qs, h1, by omega, h3⟩
theorem PoolB.ne {H : Hp} {pa p : Addr} {n : Nat} (h : PoolB H pa n) (hp : H p = none) : p ≠ pa := fun z => by
  obtain ⟨xs, hx⟩ := h.isL
  rw [z, hx] at hp
  cases hp
theorem cut_map (qs : List Int) (lo hi : Option Int) : ∃ rs : List Int, cutV (qs.map V.int) lo hi = rs.map V.int ∧ rs.length ≤ qs.length ∧ ∀ x ∈ rs, x ∈ qs := by
  unfold cutV
  rw [← List.map_drop, ← List.map_take]
  refine ⟨_, rfl, ?_, fun x hx => List.mem_of_mem_drop (List.mem_of_mem_take hx)⟩
  rw [List.length_take, List.length_drop]
  omega
theorem atI_of {α : Type} {xs : List α} {x : Int} {v : α} (h0 : 0 ≤ x) (h : xs[x.toNat]? = some v) : atI xs x = some v := by
  have e : x = ((x.toNat : Nat) : Int) := by omega
  rw [e]
  exact atI_nat (j := x.toNat) h
/-! ### one piece of a reading at its head -/
theorem gName_app {i : Nat} {v : V} {σ : L2.St} {H : Hp} {Q : L2.St → Hp → Prop} : gName i v σ H Q = Q (σ.set i (some v)) H := rfl
theorem go_asg {te : TE} {i : Nat} {tz : TS} {D : Ends} {σ : L2.St} {H : Hp} (h : te σ H fun x H1 => tz D (σ.set i (some x)) H1) : tSeq (tAsg te (gName i)) tz D σ H := h
theorem go_asgL {te : TE} {i : Nat} {D : Ends} {σ : L2.St} {H : Hp} (h : te σ H fun x H1 => D.nx (σ.set i (some x)) H1) : tAsg te (gName i) D σ H := h
theorem go_cons {te : TE} {tr : TA} {σ : L2.St} {H : Hp} {Q : List V → Hp → Prop} (h : te σ H fun x H1 => tr σ H1 fun xs H2 => Q (x :: xs) H2) : tCons te tr σ H Q := h
theorem go_cb {te : TE} {r : List V → Hp → VK → Prop} {σ : L2.St} {H : Hp} {Q : VK} (h : te σ H fun x H1 => r [x] H1 Q) : tCB r (tCons te tNil) σ H Q := h
/-- a drawn fraction -/
def FracOk (t b : Int) : Prop := 1 ≤ b ∧ b < 1000000000000000000000000000000 ∧ t < 1000000000000000000000000000000 ∧ -1000000000000000000000000000000 < t ∧ Int.gcd t b = 1
/-! ### whole numbers below a limit, primes from 3 to 97, degrees -/
def dBelow (m : Int) : PyData → Bool
  | .int r => decide (0 ≤ r) && decide (r < m)
  | _ => false
theorem dBelow_of {m r : Int} (h0 : 0 ≤ r) (h1 : r < m) : dBelow m (.int r) = true := by
  show (decide (0 ≤ r) && decide (r < m)) = true
  rw [decide_eq_true h0, decide_eq_true h1]
  rfl
theorem dBelow_get {m : Int} {d : PyData} (h : dBelow m d = true) : ∃ r : Int, d = .int r ∧ 0 ≤ r ∧ r < m := by
  cases d with
  | int r =>
    obtain ⟨h1, h2⟩ := Bool.and_eq_true_iff.mp (show (decide (0 ≤ r) && decide (r < m)) = true from h)
    exact ⟨r, rfl, of_decide_eq_true h1, of_decide_eq_true h2⟩
  | _ => exact nomatch h
def dField : PyData → Bool
  | .int n => primeB n && decide (3 ≤ n) && decide (n ≤ 97)
  | _ => false
theorem dField_get {d : PyData} (h : dField d = true) : ∃ n : Int, d = .int n ∧ primeB n = true ∧ 3 ≤ n ∧ n ≤ 97 := by
  cases d with
  | int n =>
    obtain ⟨h1, h3⟩ := Bool.and_eq_true_iff.mp (show (primeB n && decide (3 ≤ n) && decide (n ≤ 97)) = true from h)
    obtain ⟨h1, h2⟩ := Bool.and_eq_true_iff.mp h1
    exact ⟨n, rfl, h1, of_decide_eq_true h2, of_decide_eq_true h3⟩
  | _ => exact nomatch h
def dDegs : PyData → Bool
  | .tuple [a, b] => dBelow 5 a && dBelow 5 b
  | _ => false
theorem dDegs_pair {d : PyData} (h : dPair d = false) : dDegs d = false := by
  match d, h with
  | .tuple [], _ => simp [dDegs]
  | .tuple [_], _ => simp [dDegs]
  | .tuple [_, _], h => exact nomatch h
  | .tuple (_ :: _ :: _ :: _), _ => simp [dDegs]
  | .none, _ => rfl
  | .bool _, _ => rfl
  | .int _, _ => rfl
  | .str _, _ => rfl
  | .list _, _ => rfl
  | .dict _, _ => rfl
/-- the primes from 3 to 97, as the laws write them -/
def fieldL : List Int := [3, 5, 7, 11, 13, 17, 19, 23, 29, 31, 37, 41, 43, 47, 53, 59, 61, 67, 71, 73, 79, 83, 89, 97]
theorem fieldL_ok : ∀ p ∈ fieldL, dField (.int p) = true := by decide +kernel
theorem fieldL_len : fieldL.length = 24 := rfl
theorem fieldL_get {x : Int} (h0 : 0 ≤ x) (h : x < 24) : ∃ p, atI (fieldL.map V.int) x = some (.int p) ∧ p ∈ fieldL := by
  have h2 : x.toNat < fieldL.length := by rw [fieldL_len]; omega
  refine ⟨fieldL[x.toNat], ?_, List.getElem_mem h2⟩
  refine atI_of h0 ?_
  rw [List.getElem?_map, List.getElem?_eq_getElem h2]
  rfl
/-! ### repr of data: what stands in the model's heap -/
section
variable {X : Cx} {pins : List (Addr × Obj)} {σ : L2.St} {H : Hp} {s : Shared}
theorem kv_reads {h : Heap} : ∀ (ns : List (Int × Int)) (es : List DictEntry) (ws : List (Key × Value)), KV (ns.map fun p => ((Sum.inl p.1 : Key), V.int p.2)) ws → Pairs (mixKind X.prog X.w) es ws →
    ReadsAll h (es.map (·.key)) (ns.map fun p => PyData.int p.1) [] ∧ ReadsAll h (es.map (·.val)) (ns.map fun p => PyData.int p.2) []
  | [], _, _, .nil, .nil => ⟨.nil, .nil⟩
  | _ :: _, [], _, hk, hp => by
    cases hp
    exact nomatch hk
  | (a, b) :: ns, e :: es, kv :: ws, .cons r rs, .cons hk hv ps => by
    obtain ⟨i1, i2⟩ := kv_reads (h := h) ns es ws rs ps
    obtain ⟨r1, t, r2⟩ := r
    have k1 : keyIs kv.1 e.key = true := hk
    rw [← r1] at k1
    rcases keyIs_shape k1 with ⟨i, t2, e1, e2⟩ | ⟨x, t2, e1, _⟩
    · have e1 : a = i := Sum.inl.inj e1
      subst e1
      refine ⟨?_, ?_⟩
      · show ReadsAll h (e.key :: es.map (·.key)) (PyData.int a :: ns.map fun p => PyData.int p.1) ([] ++ [])
        rw [e2]
        exact .cons (.int a t2) i1
      · show ReadsAll h (e.val :: es.map (·.val)) (PyData.int b :: ns.map fun p => PyData.int p.2) ([] ++ [])
        rw [hv, r2]
        exact .cons (.int b t) i2
    · exact nomatch e1
mutual
theorem Dt.reads (I : Inv X pins σ H s) : ∀ (d : PyData) (v : V) (u : Value), Dt H v d → RelV v u → ∃ as, Reads s.heap u d as ∧ (noL d = true → sysModules ∉ as)
  | .none, _, _, h, r => by
    cases h
    cases r
    exact ⟨_, .none, fun _ z => nomatch z⟩
  | .bool b, _, _, h, r => by
    cases h
    cases r
    exact ⟨_, .bool b, fun _ z => nomatch z⟩
  | .int i, _, _, h, r => by
    cases h
    obtain ⟨t, rfl⟩ := r
    exact ⟨_, .int i t, fun _ z => nomatch z⟩
  | .str x, _, _, h, r => by
    cases h
    obtain ⟨t, rfl⟩ := r
    exact ⟨_, .str x t, fun _ z => nomatch z⟩
  | .list ds, _, _, h, r => by
    cases h with
    | lst hs ha =>
      cases r
      obtain ⟨its, rv, ⟨o, n, ho, hc, _, hd⟩, _⟩ := I.list (sq_of hs)
      obtain ⟨as, hr, _⟩ := DtAll.reads I ds _ its ha rv
      exact ⟨_, .list ho hc hd hr, fun z => nomatch z⟩
  | .tuple ds, _, _, h, r => by
    cases h with
    | tup hs ha =>
      cases r
      obtain ⟨its, rv, ⟨o, ho, hc, n, hd⟩, _⟩ := I.tuple (st_of hs)
      obtain ⟨as, hr, hn⟩ := DtAll.reads I ds _ its ha rv
      exact ⟨_, .tuple ho hc hd hr, hn⟩
  | .dict _, _, _, h, r => by
    cases h with
    | @dic a ns hs =>
      cases r
      obtain ⟨_, hsm, ws, kv, o, es, ep, h1, h2, h3, _, h5, _⟩ := (show ObjOk X.prog X.w H s.heap a (.dK (ns.map fun p => ((Sum.inl p.1 : Key), V.int p.2))) from I.hok a _ hs)
      obtain ⟨q1, q2⟩ := kv_reads (X := X) (h := s.heap) _ _ _ kv h5
      refine ⟨_, .dict (kvs := ns.map fun p => (PyData.int p.1, PyData.int p.2)) h1 h2.1 h3 (by rw [List.map_map]; exact q1) (by rw [List.map_map]; exact q2), fun _ z => ?_⟩
      have z : sysModules ∈ [a] := z
      have z := List.mem_singleton.mp z
      rw [← z] at hsm
      exact absurd hsm (by simp)
theorem DtAll.reads (I : Inv X pins σ H s) : ∀ (ds : List PyData) (vs : List V) (us : List Value), DtAll H vs ds → Vals vs us → ∃ as, ReadsAll s.heap us ds as ∧ (noLs ds = true → sysModules ∉ as)
  | [], _, _, h, r => by
    cases h
    cases r
    exact ⟨_, .nil, fun _ z => nomatch z⟩
  | d :: ds, _, _, h, r => by
    cases h with
    | cons h1 h2 =>
      cases r with
      | cons r1 r2 =>
        obtain ⟨as, q1, n1⟩ := Dt.reads I d _ _ h1 r1
        obtain ⟨bs, q2, n2⟩ := DtAll.reads I ds _ _ h2 r2
        refine ⟨_, .cons q1 q2, fun z m => ?_⟩
        obtain ⟨z1, z2⟩ := Bool.and_eq_true_iff.mp (show (noL d && noLs ds) = true from z)
        rcases List.mem_append.mp m with m | m
        · exact n1 z1 m
        · exact n2 z2 m
end
/-- what may be shown: sizes, and no list beside a dict -/
structure Shows (d : PyData) : Prop where
  sh : d.showable = true
  dp : d.depth ≤ 60
  ln : d.shown.length ≤ sizeLine
  dl : d.hasDict = true → noL d = true
def rRepr : List V → Hp → VK → Prop := fun xs H Q => ∃ v d, xs = [v] ∧ Dt H v d ∧ Shows d ∧ Q (.str d.shown) H
theorem call_reprD (hG : X.A.guards = some []) (hu : X.A.units + 64 < cLine) : CallR X (.builtin "repr") rRepr := by
  intro pins s σ H xs us Q I r h
  obtain ⟨v, d, rfl, hd, hs, q⟩ := h
  obtain ⟨u, rfl, rv⟩ := vals1 r
  have fin : ∀ (a : Addr), v = .ref a → wpAny (model X.prog X.w) X.A (call (.builtin "repr") [u]) (EP X pins σ Q) X.xe s := fun a e => by
    subst e
    have e2 : u = Value.ref a := rv
    subst e2
    obtain ⟨as, hr, hn⟩ := Dt.reads I d _ _ hd rv
    have := hs.dp
    refine repr_of_reads' hr hs.sh (fun z => hn (hs.dl z)) hG (by omega) (fun _ _ z => z) (fun h' t tk hk => ?_) hs.ln
    exact ⟨.str d.shown, H, I.kept (t' := tk) hk, ⟨t, rfl⟩, q⟩
  cases hd with
  | non =>
    cases (show u = Value.none from rv)
    exact PySem.P.repr_of_none ⟨.str _, H, I.tok _, ⟨_, rfl⟩, q⟩
  | bl b =>
    cases (show u = Value.bool b from rv)
    exact PySem.P.repr_of_bool ⟨.str _, H, I.tok _, ⟨_, rfl⟩, q⟩
  | int i =>
    obtain ⟨t, rfl⟩ := (show ∃ t, u = Value.int i t from rv)
    exact PySem.P.repr_of_int (of_decide_eq_true hs.sh) ⟨.str _, H, I.tok _, ⟨_, rfl⟩, q⟩
  | str x =>
    obtain ⟨t, rfl⟩ := (show ∃ t, u = Value.str x t from rv)
    exact PySem.P.repr_of_str ⟨.str _, H, I.tok _, ⟨_, rfl⟩, q⟩ hs.ln
  | lst a b => exact fin _ rfl
  | tup a b => exact fin _ rfl
  | dic a => exact fin _ rfl
end
/-! ### defs that are called where no repr is under way -/
structure FnG (P : Program) (w : World) (K : PySem.W.Frag) (mg : Str → Option Value) (base : Heap) (CX : CXT) (k : Nat) (f : Addr) (fd : FuncData) (ps : List Str) (sp : Sp) : Prop where
  len : ∀ vs H Q E, sp vs H Q E → vs.length = ps.length
  go : ∀ (A : Around) (out : List Env) (s : Shared) (H : Hp) (ar : Args) (us : List Value) (vs : List V) (Q : VK) (E : XK), A.guards = some [] → Room k A → Env0 P w K mg base A out s H →
    BindsTo s fd ar (ps.zip us) → Vals vs us → sp vs H Q E → codeAny (model P w) A (.call (.ref f) ar) (CR CX out P w H s Q E) s
section
variable {P : Program} {w : World} {K : PySem.W.Frag} {mg : Str → Option Value} {base : Heap} {x qual : Str} {params : Arguments} {body : List Stmt} {scope : Scope} {dvs : List V} {kws : List (Str × V)} {f : Addr} {fd : FuncData}
theorem okG {CX : CXT} {N ps : List Str} {k : Nat} {sp : Sp} (F : FunD K x qual params body scope dvs kws f fd) (S : FnScope N ps scope) (len : ∀ vs H Q E, sp vs H Q E → vs.length = ps.length)
    (hbody : ∀ (cdv : Value) (A : Around) (outer : List Env) (s : Shared) (H : Hp) (vs : List V) (Q : VK) (E : XK), A.guards = some [] → Room k (A.deeper (envOfC qual scope s.heap.objs.size f cdv)) → sp vs H Q E →
      ∃ t, PSs (cxOf CX P w K mg base N qual scope f cdv A outer s H E) body t ∧ t { nx := fun _ H' => Q .non H', rt := Q } (start N vs) H) : FnG P w K mg base CX (k + 1) f fd ps sp := by
  obtain ⟨oc, od, dV, kV, doc, pm, an, cdv, ct, osl, rfl, lk, hcd, _, _⟩ := F.ex
  refine ⟨len, fun A out s H ar us vs Q E hG hr e0 hb rv hs => ?_⟩
  have keep : ∀ b o, base.get? b = some o → s.heap.get? b = some o := fun b o e => (e0.bs b o e).1
  have KX := e0.mod.kin.keeps keep
  have kinds : ∀ y ∈ ps.zip us, scope.names.lookup y.1 = some .local ∨ (scope.names.lookup y.1 = some .cell ∧ ((cellsFrom (s.heap.objs.size + 1) scope.names []).lookup y.1).isSome = true) := by
    rintro ⟨n, v⟩ hy
    rcases S.par n (List.of_mem_zip hy).1 with c | c
    · exact .inl c
    · exact .inr ⟨c, PySem.W.cellsFrom_some _ _ _ (.inl c)⟩
  refine codeAny_call_function hr.depth (KX _ _ lk) rfl S.co S.gen rfl (PySem.W.codeRec_of KX hcd) (hb _ _ _ _ (wpAny_newFunctionEnv_cells S.kind kinds fun env he s1 x1 => ?_))
  subst he
  obtain ⟨t, ht, hq⟩ := hbody cdv A out s H vs Q E hG (hr.deeper _) hs
  refine ⟨(e0.mod.nolimit.keeps keep).keeps x1.toInCall.keep, codeAny_func ?_⟩
  refine wpAny_mono (ht.run [] s1 (start N vs) H _ (inv_start S hr.hd e0 (len _ _ _ _ hs) rv x1) hq) (fun fl s2 h2 => ?_) fun _ _ z => z
  cases fl with
  | ret u =>
    obtain ⟨v, σ2, H2, J, r2, q2⟩ := h2
    exact ⟨v, H2, J.os, J.bare, J.base, J.hok, r2, q2⟩
  | next =>
    obtain ⟨σ2, H2, J, q2⟩ := h2
    exact ⟨.non, H2, J.os, J.bare, J.base, J.hok, rfl, q2⟩
  | brk =>
    obtain ⟨_, _, _, z⟩ := h2
    exact z.elim
  | cont =>
    obtain ⟨_, _, _, z⟩ := h2
    exact z.elim
end
section
variable {X : Cx} {CX : CXT} {k : Nat} {f : Addr} {fd : FuncData} {ps : List Str} {sp : Sp} {dvs : List V} {ds : List Value} {E : XK} {x : Str} {p pos : Pos} {e : Expr} {es : List Expr} {t : TA}
theorem goG {pins : List (Addr × Obj)} {σ : L2.St} {H : Hp} {s : Shared} {Q : VK} {us : List Value} {vs : List V} (F : FnG X.prog X.w X.K X.mg X.base CX k f fd ps sp) (hG : X.A.guards = some []) (hr : Room k X.A) (hb : Binds X.K fd ps ds) (hd : Vals dvs ds) (hx : Passes CX X E)
    (I : Inv X pins σ H s) (r : Vals vs us) (h : sp (vs ++ dvs) H Q E) : wpAny (model X.prog X.w) X.A (call (.ref f) us) (EP X pins σ Q) X.xe s := by
  have rr : Vals (vs ++ dvs) (us ++ ds) := r.append hd
  have ll : (us ++ ds).length = ps.length := rr.length.symm.trans (F.len _ _ _ _ h)
  refine wpAny_call (codeAny_mono (F.go X.A X.stack s H ⟨us, []⟩ (us ++ ds) (vs ++ dvs) Q E hG hr I.env0 (hb s us I.kIn ll) rr h) fun res s2 h2 => ?_)
  match res, h2 with
  | .error er, h2 => exact hx pins σ H s er s2 I h2
  | .ok (.ret u), h2 => exact I.after h2
  | .ok .next, h2 => exact h2.elim
  | .ok .brk, h2 => exact h2.elim
  | .ok .cont, h2 => exact h2.elim
theorem pe_callG (F : FnG X.prog X.w X.K X.mg X.base CX k f fd ps sp) (hG : X.A.guards = some []) (hr : Room k X.A) (hg : Gl X x) (hm : X.mg x = some (.ref f)) (hk : PySem.W.keepIn X.K (.ref f) = true) (hb : Binds X.K fd ps ds) (hd : Vals dvs ds) (hx : Passes CX X E) (ha : PA X (e :: es) t)
    (hdb : (x == ("__debug__" : Str)) = false := by decide) (he : starEach (e :: es) X.env = (false, eval e X.env) :: starEach es X.env := by rfl) (hpl : (backTo pos (starEach es X.env)).any (·.1) = false := by rfl) :
    PE X (.Call (.Name x p) (e :: es) [] pos) (tCall sp dvs E t) := ⟨fun pins s σ H Q I h =>
  wpAny_Call_Name_kw (ld_glob I hg hm (PySem.W.callWith_K (h₀ := X.base) I.ok.mod.kin hk (thn (ha.run pos pins s σ H _ I h) fun _ _ ⟨_, _, I1, r, q⟩ => ⟨I1.kIn, goG F hG hr hb hd hx I1 r q⟩) he hpl) hdb)⟩
theorem pe_callG0 (F : FnG X.prog X.w X.K X.mg X.base CX k f fd ps sp) (hG : X.A.guards = some []) (hr : Room k X.A) (hg : Gl X x) (hm : X.mg x = some (.ref f)) (hk : PySem.W.keepIn X.K (.ref f) = true) (hb : Binds X.K fd ps ds) (hd : Vals dvs ds) (hx : Passes CX X E)
    (hdb : (x == ("__debug__" : Str)) = false := by decide) : PE X (.Call (.Name x p) [] [] pos) (tCall sp dvs E tNil) := ⟨fun pins s σ H Q I h =>
  wpAny_Call_Name_kw (ld_glob I hg hm (PySem.W.callWith_K0 I.kIn hk (goG (us := []) F hG hr hb hd hx I .nil h)) hdb)⟩
end
/-! ### the law's own call -/
theorem law_go {P : Program} {w : World} {K : PySem.W.Frag} {mg mb : Str → Option Value} {k : Nat} {fa a : Addr} {fd : FuncData} {x : Str} {sp : Sp} {s1 : Shared} {vs : List Value} {ns : List Int} (KX : K.In s1.heap) (hns : s1.heap.Ns mainGlobals mg)
    (hb : s1.heap.Ns builtinsNs mb) (hbb : ∀ x : Str, x ≠ "__name__" → mb x = bootBuiltins x) (hlim : s1.heap.NoLimit) (hg : s1.gens = #[]) (ha : s1.heap.get? a = some { cls := .type "list", data := .seq vs.toArray }) (hi : IntsAre vs ns) (hl : ns.length ≤ sizeLine) (hr : Room k callerA)
    (F : ∀ base : Heap, K.In base → base.Ns mainGlobals mg → FnG P w K mg base CX0 k fa fd [x] sp) (hbind : ∀ (s : Shared) (u : Value), BindsTo s fd ⟨[u], []⟩ [(x, u)])
    (hsp : ∀ H : Hp, Only H → SqL K H a (ns.map V.int) → sp [.ref a] H (fun v _ => v = .bl true) fun _ _ _ => False) :
    codeAny (model P w) callerA (.call (.ref fa) ⟨[.ref a], []⟩) (fun r s2 => r = .ok (.ret (.bool true)) ∧ OldK s1.heap s2.heap ∧ s2.os = s1.os ∧ AllBare s2.gens) s1 := by
  have rv := vals_ints hi
  have lenV := hi.length
  have main : ∀ H : Hp, Only H → SqL K H a (ns.map V.int) → HOk P w H s1.heap → (∀ b, H b ≠ none → b = a) → (H a ≠ none → K.lookup a = none) →
      codeAny (model P w) callerA (.call (.ref fa) ⟨[.ref a], []⟩) (fun r s2 => r = .ok (.ret (.bool true)) ∧ OldK s1.heap s2.heap ∧ s2.os = s1.os ∧ AllBare s2.gens) s1 := by
    intro H hO hS hok only hK
    have free : ∀ {b : Addr}, b ≠ a → H b = none := fun {b} z => by
      cases q : H b with
      | none => rfl
      | some u => exact absurd (only b (by rw [q]; exact Option.some_ne_none u)) z
    have dictFree : ∀ {b : Addr} {o : Obj} {es : Array DictEntry} {ep : Nat}, s1.heap.get? b = some o → o.data = .dict es ep → H b = none := fun {b o es ep} e d => free fun z => by
      rw [z, ha] at e
      cases e
      exact Data.noConfusion d
    have nsH : ∀ {b : Addr} {m : Str → Option Value}, s1.heap.Ns b m → (hidT s1.heap H).Ns b m := fun {b m} ⟨o, es, ep, e, d, r⟩ => ⟨o, es, ep, hidT_get e (dictFree e d), d, r⟩
    have KH : K.In (hidT s1.heap H) := fun b o e => hidT_get (KX b o e) (by
      cases q : H b with
      | none => rfl
      | some u =>
        have z : b = a := only b (by rw [q]; exact Option.some_ne_none u)
        rw [z] at q e
        rw [hK (by rw [q]; exact Option.some_ne_none u)] at e
        cases e)
    have lim : (hidT s1.heap H).NoLimit := by
      obtain ⟨mc, l1, l2⟩ := hlim
      exact ⟨mc, nsH l1, l2⟩
    have e0 : Env0 P w K mg (hidT s1.heap H) callerA [] s1 H := ⟨rfl, ⟨KH, nsH hns, ⟨mb, nsH hb, hbb⟩, lim⟩, fun b o e => of_hidT e, Nat.le_of_eq (hidT_size _ _), trivial, (fun b z => nomatch z), hok, .of_eq hg⟩
    refine codeAny_mono ((F _ KH (nsH hns)).go callerA [] s1 H ⟨[.ref a], []⟩ [.ref a] [.ref a] _ _ rfl hr e0 (hbind s1 (.ref a)) (.cons rfl .nil) (hsp H hO hS)) fun res s2 h2 => ?_
    match res, h2 with
    | .error _, h2 => exact h2.elim
    | .ok .next, h2 => exact h2.elim
    | .ok .brk, h2 => exact h2.elim
    | .ok .cont, h2 => exact h2.elim
    | .ok (.ret u), h2 =>
      obtain ⟨v, H2, os, bare, un, hok2, r2, q2⟩ := h2
      have q2 : v = .bl true := q2
      subst q2
      have r2 : u = Value.bool true := r2
      subst r2
      refine ⟨rfl, OldK.of_keep fun b o e => ?_, os, bare⟩
      rcases hO b with z | ⟨ob, xs, z⟩
      · exact un.keep b o e z (fun y => nomatch y) (fun y => nomatch y)
      · have f2 := un.frzs b ob _ z
        have c1 := (hok b _ z).1
        rw [e] at c1
        rw [Option.some.inj c1]
        exact (hok2 b _ f2).1
  cases hk : K.lookup a with
  | some o =>
    have e := (KX a o hk).symm.trans ha
    cases e
    refine main (fun _ => none) (fun _ => .inl rfl) (.inr ⟨_, vs.toArray, _, hk, rfl, rfl, rfl, ?_, ?_⟩) (fun _ _ z => nomatch z) (fun _ z => absurd rfl z) (fun z => absurd rfl z)
    · rw [List.size_toArray, lenV]
      exact hl
    · simpa using rv
  | none =>
    have at_a : ∀ {o : HO}, (fun b => if b = a then some o else none : Hp) a = some o := if_pos rfl
    refine main (fun b => if b = a then some (.frz { cls := .type "list", data := .seq vs.toArray } (.lst (ns.map V.int))) else none) (fun b => ?_) (.inl (.inr ⟨_, at_a⟩)) (fun b u z => ?_) (fun b z => ?_) (fun _ => hk)
    · by_cases y : b = a
      · exact .inr ⟨_, _, if_pos y⟩
      · exact .inl (if_neg y)
    · by_cases y : b = a
      · subst y
        cases at_a.symm.trans z
        exact ⟨ha, by rw [List.length_map]; exact hl, vs, _, rv, ha⟩
      · exact nomatch (if_neg y).symm.trans z
    · by_cases y : b = a
      · exact y
      · exact absurd (if_neg y) z
theorem walkG {l : PySem.W.OpenLaw} {n k : Nat} {q : Program} {loose : List Str} {XP : (Str → Option Value) → Heap → Prop} {YP : World → Heap → Prop} {d : DefRec} {x : Str} (hn : l.most = some n) (hn2 : n ≤ sizeLine) (hdf : d.params.defaults = []) (hr : Room k callerA)
    (F : ∀ (w : World) (mg : Str → Option Value) (fa : Addr) (h : Heap), YP w h → h.Ns mainGlobals mg → mg d.name = some (.ref fa) → ∃ (K : PySem.W.Frag) (fd : FuncData) (sp : Sp), K.In h ∧ (∀ (s : Shared) (u : Value), BindsTo s fd ⟨[u], []⟩ [(x, u)]) ∧
        (∀ (H : Hp) (a : Addr) (ns : List Int), ns.length ≤ n → Only H → SqL K H a (ns.map V.int) → sp [.ref a] H (fun v _ => v = .bl true) fun _ _ _ => False) ∧ ∀ base : Heap, K.In base → base.Ns mainGlobals mg → FnG l.prog w K mg base CX0 k fa fd [x] sp) :
    PySem.W.WalkO q loose XP YP l.row.toRowW d [] (fun f vs => PySem.call f vs) := by
  refine Att.attach_call hn hdf fun w s0 s1 mg mb fa o pm cd doc a vs ns G Y ho hd hcd hmg hobj hints hlen hg => ?_
  obtain ⟨K, fd, sp, KX, hb, hsp, hF⟩ := F w mg fa _ Y G.T.g hmg
  exact law_go KX G.T.g G.T.b G.T.builtins G.T.nolimit hg hobj hints (Nat.le_trans hlen hn2) hr hF hb (fun H hO hS => hsp H a ns hlen hO hS)
/-! ### how long what is shown is -/
def okS (x : Str) : Prop := ∀ c ∈ x.cps.toList, c < 16 ^ 8
theorem okS_of (z : String) : okS (Str.ofString z) := fun c hc => by
  rw [Str.ofString_eq_toList] at hc
  simp only [List.toList_toArray] at hc
  obtain ⟨a, _, rfl⟩ := List.mem_map.mp hc
  have h : a.toNat < 1114112 := by
    have := a.valid
    unfold Char.toNat
    rcases this with h | ⟨_, h⟩
    · exact Nat.lt_trans h (by decide)
    · exact h
  exact Nat.lt_trans h (by decide)
theorem okS_app {x y : Str} (hx : okS x) (hy : okS y) : okS (x ++ y) := fun c hc => by
  have hc : c ∈ (x.cps ++ y.cps).toList := hc
  rw [Array.toList_append] at hc
  rcases List.mem_append.mp hc with z | z
  · exact hx c z
  · exact hy c z
mutual
def wdt : PyData → Nat
  | .none => 4
  | .bool _ => 5
  | .int _ => 1921
  | .str x => 10 * x.length + 2
  | .list ds => 2 + wdts ds
  | .tuple ds => 3 + wdts ds
  | .dict kvs => 2 + wdtk kvs
def wdts : List PyData → Nat
  | [] => 0
  | d :: ds => wdt d + 2 + wdts ds
def wdtk : List (PyData × PyData) → Nat
  | [] => 0
  | (a, b) :: r => wdt a + wdt b + 4 + wdtk r
end
mutual
def txtOk : PyData → Prop
  | .str x => okS x
  | .list ds => txtOks ds
  | .tuple ds => txtOks ds
  | .dict kvs => txtOkk kvs
  | _ => True
def txtOks : List PyData → Prop
  | [] => True
  | d :: ds => txtOk d ∧ txtOks ds
def txtOkk : List (PyData × PyData) → Prop
  | [] => True
  | (a, b) :: r => txtOk a ∧ txtOk b ∧ txtOkk r
end
theorem from_len : ∀ (ts : List Str) (k : Nat) (acc : Str), (textFrom k acc ts).length ≤ acc.length + piled ts
  | [], k, acc => Nat.le_add_right _ _
  | t :: ts, k, acc => by
    have h := from_len ts (k + 1) (acc ++ (if k > 0 then ", " else "" : String) ++ t)
    rw [strLen_append, strLen_append] at h
    have e : (Str.ofString (if k > 0 then ", " else "")).length ≤ 2 := by
      split
      · exact Nat.le_of_ble_eq_true rfl
      · exact Nat.le_of_ble_eq_true rfl
    rw [piled_cons]
    show (textFrom (k + 1) _ ts).length ≤ _
    omega
theorem join_le (ts : List Str) : (Str.join ", " ts).length ≤ piled ts := by
  by_cases h : ts = []
  · subst h
    exact Nat.le_refl 0
  · have := join_length_add ts h
    omega
mutual
theorem shown_le : ∀ d : PyData, d.showable = true → txtOk d → d.shown.length ≤ wdt d
  | .none, _, _ => Nat.le_of_ble_eq_true rfl
  | .bool b, _, _ => by
    cases b
    · exact Nat.le_of_ble_eq_true rfl
    · exact Nat.le_of_ble_eq_true rfl
  | .int i, h, _ => by
    have h : i.natAbs.log2 < 1920 := of_decide_eq_true h
    exact PyProof.Rows.int_text_len_1921 h
  | .str x, _, h => StrLaws.reprText_len x h
  | .list ds, h, t => by
    have i := showns_le ds h t
    show (textFrom 0 "[" (PyData.shownAll ds) ++ "]").length ≤ 2 + wdts ds
    rw [strLen_append]
    have := from_len (PyData.shownAll ds) 0 "["
    have e1 : (Str.ofString "[").length = 1 := rfl
    have e2 : (Str.ofString "]").length = 1 := rfl
    omega
  | .tuple ds, h, t => by
    have i := showns_le ds h t
    show (tupleText (PyData.shownAll ds)).length ≤ 3 + wdts ds
    unfold tupleText
    rw [strLen_append, strLen_append]
    have := join_le (PyData.shownAll ds)
    have e1 : (Str.ofString "(").length = 1 := rfl
    have e2 : (Str.ofString (if (PyData.shownAll ds).length == 1 then ",)" else ")")).length ≤ 2 := by
      split
      · exact Nat.le_of_ble_eq_true rfl
      · exact Nat.le_of_ble_eq_true rfl
    omega
  | .dict kvs, h, t => by
    have i := shownk_le kvs h t
    show (dictText (PyData.shownKv kvs)).length ≤ 2 + wdtk kvs
    unfold dictText
    rw [strLen_append, strLen_append]
    have := join_le (PyData.shownKv kvs)
    have e1 : (Str.ofString "{").length = 1 := rfl
    have e2 : (Str.ofString "}").length = 1 := rfl
    omega
theorem showns_le : ∀ ds : List PyData, PyData.showableAll ds = true → txtOks ds → piled (PyData.shownAll ds) ≤ wdts ds
  | [], _, _ => Nat.le_refl 0
  | d :: ds, h, t => by
    obtain ⟨h1, h2⟩ := Bool.and_eq_true_iff.mp (show (d.showable && PyData.showableAll ds) = true from h)
    have i1 := shown_le d h1 t.1
    have i2 := showns_le ds h2 t.2
    show piled (d.shown :: PyData.shownAll ds) ≤ wdt d + 2 + wdts ds
    rw [piled_cons]
    omega
theorem shownk_le : ∀ kvs : List (PyData × PyData), PyData.showableKv kvs = true → txtOkk kvs → piled (PyData.shownKv kvs) ≤ wdtk kvs
  | [], _, _ => Nat.le_refl 0
  | (a, b) :: r, h, t => by
    obtain ⟨h1, h2⟩ := Bool.and_eq_true_iff.mp (show (a.showable && b.showable && PyData.showableKv r) = true from h)
    obtain ⟨h3, h4⟩ := Bool.and_eq_true_iff.mp h1
    have i1 := shown_le a h3 t.1
    have i2 := shown_le b h4 t.2.1
    have i3 := shownk_le r h2 t.2.2
    show piled ((a.shown ++ ": " ++ b.shown) :: PyData.shownKv r) ≤ wdt a + wdt b + 4 + wdtk r
    rw [piled_cons, strLen_append, strLen_append]
    have e1 : (Str.ofString ": ").length = 2 := rfl
    omega
end
theorem Shows.of {d : PyData} (h : d.showable = true) (t : txtOk d) (k : d.depth ≤ 60) (n : wdt d ≤ 100000) (l : d.hasDict = true → noL d = true) : Shows d := ⟨h, k, sz_of (Nat.le_trans (shown_le d h t) n), l⟩
theorem showI {i : Int} (h : i.natAbs.log2 < 1920) : (PyData.int i).showable = true := decide_eq_true h
theorem log_of {i : Int} {k : Nat} (h : i.natAbs < 2 ^ k) (hk : 0 < k) (hl : k ≤ 1920) : i.natAbs.log2 < 1920 := Nat.lt_of_lt_of_le (PySem.Flt.log2_lt_of hk h) hl
theorem shows_int {i : Int} (h : i.natAbs.log2 < 1920) : Shows (.int i) := .of (showI h) trivial (Nat.zero_le _) (Nat.le_of_ble_eq_true rfl) (fun z => nomatch z)
theorem shows_pair {a b : Int} (ha : a.natAbs.log2 < 1920) (hb : b.natAbs.log2 < 1920) : Shows (.tuple [.int a, .int b]) := .of (by
  show ((PyData.int a).showable && ((PyData.int b).showable && true)) = true
  rw [showI ha, showI hb]
  rfl) ⟨trivial, trivial, trivial⟩ (Nat.le_of_ble_eq_true rfl) (Nat.le_of_ble_eq_true rfl) (fun _ => rfl)
/-! ### displays -/
section
variable {K : PySem.W.Frag} {σ : L2.St} {H : Hp} {ta tb te : TE} {ds : List PyData}
theorem ed_lst {tr : TA} (h : EvDA tr σ H ds) (hl : ds.length ≤ 100000) : EvD (tLst tr) σ H (.list ds) := fun H1 e _ q =>
  h H1 e _ fun vs H2 e2 hv => ⟨sz_of (by rw [hv.len]; exact hl), fun p hp => q _ _ (e2.trans (Ex.new hp)) (.lst upd_same (hv.up (Ex.new hp)))⟩
theorem ed_str {x : Str} : EvD (tC (.str x)) σ H (.str x) := ed_of ev_c (.str x)
theorem ed_non : EvD (tC .non) σ H .none := ed_of ev_c .non
theorem ed_bl {b : Bool} : EvD (tC (.bl b)) σ H (.bool b) := ed_of ev_c (.bl b)
theorem ed_dict0 : EvD (fun _ H Q => ∀ p, H p = none → Q (.ref p) (upd H p (.dK []))) σ H (.dict []) := fun H1 _ _ q p hp => q _ _ (Ex.new hp) (.dic (ns := []) upd_same)
theorem ed_dict1 {a b : Int} (h1 : ∀ H, Ev ta σ H (.int a)) (h2 : ∀ H, Ev tb σ H (.int b)) : EvD (tDisp [(ta, tb)]) σ H (.dict [(.int a, .int b)]) := fun H1 e Q q p hp =>
  h1 _ _ (Ex.refl _) _ fun H2 e2 => h2 _ _ (Ex.refl _) _ fun H3 e3 => ⟨e3 _ _ (e2 _ _ upd_same), [((Sum.inl a : Key), V.int b)], rfl, Nat.le_of_ble_eq_true rfl, q _ _ (Ex.mut (((Ex.new hp).trans e2).trans e3) hp) (.dic (ns := [(a, b)]) upd_same)⟩
theorem ed_repr {d : PyData} (h : EvD te σ H d) (hs : Shows d) : EvD (tCB rRepr (tCons te tNil)) σ H (.str d.shown) := fun H1 e Q q =>
  h H1 e _ fun v H2 e2 hv => ⟨v, d, rfl, hv, hs, q _ H2 e2 (.str _)⟩
theorem ed_stri {i : Int} (h : Ev te σ H (.int i)) (hl : i.natAbs.log2 < 1920) : EvD (tCB (fun xs H Q => ∃ i, xs = [.int i] ∧ i.natAbs.log2 < 1920 ∧ Q (.str (toString i)) H) (tCons te tNil)) σ H (.str (toString i)) := fun H1 e Q q =>
  h H1 e _ fun H2 e2 => ⟨i, rfl, hl, q _ H2 e2 (.str _)⟩
theorem ev_pow {a b : Int} (h : CPow a b) : Ev (tOp (rI CPow fun i j => .int (i ^ j.toNat)) (tC (.int a)) (tC (.int b))) σ H (.int (a ^ b.toNat)) := ev_op ev_c ev_c (rv_I h)
theorem ev_add {a b : Int} (h1 : Ev ta σ H (.int a)) (h2 : Ev tb σ H (.int b)) : Ev (tOp (rI0 fun i j => .int (i + j)) ta tb) σ H (.int (a + b)) := ev_op h1 h2 rv_I0
theorem ev_sub {a b : Int} (h1 : Ev ta σ H (.int a)) (h2 : Ev tb σ H (.int b)) : Ev (tOp (rI0 fun i j => .int (i - j)) ta tb) σ H (.int (a - b)) := ev_op h1 h2 rv_I0
theorem ev_mulW {a b : Int} (h1 : Ev ta σ H (.int a)) (h2 : Ev tb σ H (.int b)) (h : CMulW a b) : Ev (tOp (rI CMulW fun i j => .int (i * j)) ta tb) σ H (.int (a * b)) := ev_op h1 h2 (rv_I h)
theorem ev_mulC {a b : Int} (h1 : Ev ta σ H (.int a)) (h2 : Ev tb σ H (.int b)) (h : CMul a b) : Ev (tOp (rI CMul fun i j => .int (i * j)) ta tb) σ H (.int (a * b)) := ev_op h1 h2 (rv_I h)
/-- some + [..], both lists of data -/
theorem ed_cat {es : List PyData} (h1 : EvD ta σ H (.list ds)) (h2 : EvD tb σ H (.list es)) (hl : ds.length + es.length ≤ 100000) : EvD (tOp rCat ta tb) σ H (.list (ds ++ es)) := fun H1 e Q q =>
  h1 H1 e _ fun v H2 e2 hv => h2 H2 (e.trans e2) _ fun u H3 e3 hu => by
    obtain ⟨a, xs, rfl, ha, hx⟩ := (hv.up e3).lst_get
    obtain ⟨b, ys, rfl, hb, hy⟩ := hu.lst_get
    refine ⟨a, b, xs, ys, rfl, rfl, ha, hb, sz_of (by rw [hx.len, hy.len]; exact hl), fun p hp => q _ _ ((e2.trans e3).trans (Ex.new hp)) (.lst upd_same ((hx.up (Ex.new hp)).app (hy.up (Ex.new hp))))⟩
end
/-- for x in [..]: a loop over a display of data, in which the heap grows alone -/
theorem q_forD {K : PySem.W.Frag} {tr : TA} {ds : List PyData} {j : Nat} {tu tz : TS} {D : Ends} {σ : L2.St} {H : Hp} (h : EvDA tr σ H ds) (hl : ds.length ≤ 100000) (Pv : Nat → L2.St → Hp → Prop) (h0 : ∀ H1, Ex H H1 → Pv 0 σ H1)
    (hs : ∀ i x d σ' H', ds[i]? = some d → Dt H' x d → Pv i σ' H' → tu { D with nx := fun σ3 H3 => Pv (i + 1) σ3 H3 ∧ Ex H' H3, ct := fun σ3 H3 => Pv (i + 1) σ3 H3 ∧ Ex H' H3, bk := tz D } (σ'.set j (some x)) H')
    (hd : ∀ σ' H', Pv ds.length σ' H' → tz D σ' H') : tSeq (tFor (iList K (tLst tr)) (gName j) tu) tz D σ H :=
  h H (Ex.refl H) _ fun vs H2 e2 hv => ⟨sz_of (by rw [hv.len]; exact hl), fun p hp => by
    have hp2 : (upd H2 p (.lst vs)) p = some (.lst vs) := upd_same
    have x2 : Ex H2 (upd H2 p (.lst vs)) := Ex.new hp
    refine ⟨p, rfl, ⟨_, sq_of hp2⟩, fun i m σ' H' => m = vs.length - i ∧ i ≤ vs.length ∧ Pv i σ' H' ∧ Ex (upd H2 p (.lst vs)) H', ⟨vs.length, rfl, Nat.zero_le _, h0 _ (e2.trans x2), Ex.refl _⟩, fun i m σ' H' hW => ?_⟩
    obtain ⟨rfl, hi, hP, eW⟩ := hW
    have hS : SqL K H' p vs := sq_of (eW _ _ hp2)
    by_cases z : i < vs.length
    · obtain ⟨d, hd1, hd2⟩ := hv.get i (List.getElem?_eq_getElem z)
      refine .inr ⟨⟨vs, vs[i], hS, List.getElem?_eq_getElem z⟩, fun σ3 H3 => Pv (i + 1) σ3 H3 ∧ Ex H' H3, fun σ3 H3 hN => ⟨vs.length - (i + 1), by omega, rfl, z, hN.1, eW.trans hN.2⟩, fun x H3 y => ?_⟩
      obtain ⟨rfl, y⟩ := y
      have ex : x = vs[i] := Option.some.inj ((y vs hS).symm.trans (List.getElem?_eq_getElem z))
      rw [ex]
      exact hs i _ d σ' _ hd1 (hd2.up (x2.trans eW)) hP
    · have e : i = vs.length := by omega
      subst e
      rw [hv.len] at hP
      exact .inl ⟨⟨vs, hS, Nat.le_refl _⟩, hd σ' H' hP⟩⟩
/-! ### what is seen of a heap, where some lists of it may change -/
/-- the heap without its lists -/
def hideL (H : Hp) : Hp := fun x => match H x with
  | some (.lst _) => none
  | o => o
theorem hideL_ex (H : Hp) : Ex (hideL H) H := fun a o h => by
  unfold hideL at h
  split at h
  · cases h
  · exact h
theorem hideL_of {H : Hp} {a : Addr} {o : HO} (h : H a = some o) (n : ∀ xs, o ≠ .lst xs) : hideL H a = some o := by
  unfold hideL
  split
  · rename_i xs e
    rw [h] at e
    exact absurd (Option.some.inj e) (n xs)
  · exact h
theorem hideL_lst {H : Hp} {a : Addr} (h : IsL H a) : hideL H a = none := by
  obtain ⟨xs, h⟩ := h
  unfold hideL
  rw [h]
mutual
theorem Dt.hid {H : Hp} : ∀ (d : PyData) (v : V), noL d = true → Dt H v d → Dt (hideL H) v d
  | .none, _, _, h => by cases h; exact .non
  | .bool b, _, _, h => by cases h; exact .bl b
  | .int i, _, _, h => by cases h; exact .int i
  | .str x, _, _, h => by cases h; exact .str x
  | .list ds, _, n, h => nomatch n
  | .tuple ds, _, n, h => by
    cases h with
    | tup hs ha => exact .tup (hideL_of hs fun _ z => nomatch z) (DtAll.hid ds _ n ha)
  | .dict _, _, _, h => by
    cases h with
    | dic hs => exact .dic (hideL_of hs fun _ z => nomatch z)
theorem DtAll.hid {H : Hp} : ∀ (ds : List PyData) (vs : List V), noLs ds = true → DtAll H vs ds → DtAll (hideL H) vs ds
  | [], _, _, h => by cases h; exact .nil
  | d :: ds, _, n, h => by
    obtain ⟨n1, n2⟩ := Bool.and_eq_true_iff.mp (show (noL d && noLs ds) = true from n)
    cases h with
    | cons h1 h2 => exact .cons (Dt.hid d _ n1 h1) (DtAll.hid ds _ n2 h2)
end
/-- W2 is W with what is new in H2 -/
structure Grow (W H1 W2 H2 : Hp) : Prop where
  w : Ex W W2
  h : Ex W2 H2
  hh : Ex H1 H2
  n : ∀ b, H1 b ≠ none → W b = none → W2 b = none
theorem Grow.refl {W H : Hp} (e : Ex W H) : Grow W H W H := ⟨Ex.refl W, e, Ex.refl H, fun _ _ z => z⟩
theorem Grow.trans {W H W1 H1 W2 H2 : Hp} (a : Grow W H W1 H1) (b : Grow W1 H1 W2 H2) : Grow W H W2 H2 := ⟨a.w.trans b.w, b.h, a.hh.trans b.hh, fun x h z => b.n x (fun y => h (fresh_back a.hh y)) (a.n x h z)⟩
theorem Grow.new {W H : Hp} (e : Ex W H) {p : Addr} {o : HO} (hp : H p = none) : Grow W H (upd W p o) (upd H p o) := by
  have hw : W p = none := fresh_back e hp
  refine ⟨Ex.new hw, fun a u h => ?_, Ex.new hp, fun b h z => ?_⟩
  · by_cases y : a = p
    · subst y
      rw [upd_same] at h ⊢
      exact h
    · rw [upd_ne y] at h ⊢
      exact e _ _ h
  · have y : b ≠ p := fun y => by
      rw [y] at h
      exact h hp
    rw [upd_ne y]
    exact z
def EvF (te : TE) (σ : L2.St) (W0 : Hp) (d : PyData) : Prop := ∀ W H1, Ex W0 W → Ex W H1 → ∀ Q : VK, (∀ v W2 H2, Grow W H1 W2 H2 → Dt W2 v d → Q v H2) → te σ H1 Q
def EvFA (ta : TA) (σ : L2.St) (W0 : Hp) (ds : List PyData) : Prop := ∀ W H1, Ex W0 W → Ex W H1 → ∀ Q : List V → Hp → Prop, (∀ vs W2 H2, Grow W H1 W2 H2 → DtAll W2 vs ds → Q vs H2) → ta σ H1 Q
section
variable {K : PySem.W.Frag} {σ : L2.St} {W0 : Hp} {ta tb te : TE} {d : PyData} {ds es : List PyData}
theorem ef_var {v : V} {i : Nat} (h : σ[i]? = some (some v)) (hd : Dt W0 v d) : EvF (tVar i) σ W0 d := fun W H1 e0 e1 Q q => ⟨v, h, q v W H1 (.refl e1) (hd.up e0)⟩
theorem ef_c {v : V} (hd : ∀ H, Dt H v d) : EvF (tC v) σ W0 d := fun W H1 _ e1 Q q => q v W H1 (.refl e1) (hd W)
/-- a number that is reckoned without a new object -/
theorem ef_int {i : Int} (h : ∀ (H : Hp) (Q : VK), Q (.int i) H → te σ H Q) : EvF te σ W0 (.int i) := fun W H1 _ e1 Q q => h H1 Q (q _ W H1 (.refl e1) (.int i))
theorem ef_str {x : Str} (h : ∀ (H : Hp) (Q : VK), Q (.str x) H → te σ H Q) : EvF te σ W0 (.str x) := fun W H1 _ e1 Q q => h H1 Q (q _ W H1 (.refl e1) (.str x))
theorem efa_nil : EvFA tNil σ W0 [] := fun W H1 _ e1 _ q => q [] W H1 (.refl e1) .nil
theorem efa_cons {tr : TA} (h : EvF te σ W0 d) (hr : EvFA tr σ W0 ds) : EvFA (tCons te tr) σ W0 (d :: ds) := fun W H1 e0 e1 _ q =>
  h W H1 e0 e1 _ fun v W2 H2 g2 hv => hr W2 H2 (e0.trans g2.w) g2.h _ fun vs W3 H3 g3 hvs => q (v :: vs) W3 H3 (g2.trans g3) (.cons (hv.up g3.w) hvs)
theorem ef_tup {tr : TA} (h : EvFA tr σ W0 ds) (hl : ds.length ≤ 100000) : EvF (tTup tr) σ W0 (.tuple ds) := fun W H1 e0 e1 _ q =>
  h W H1 e0 e1 _ fun vs W2 H2 g2 hv => ⟨sz_of (by rw [hv.len]; exact hl), fun p hp => by
    have g3 := Grow.new (o := .tup vs) g2.h hp
    exact q _ _ _ (g2.trans g3) (.tup upd_same (hv.up g3.w))⟩
theorem ef_lst {tr : TA} (h : EvFA tr σ W0 ds) (hl : ds.length ≤ 100000) : EvF (tLst tr) σ W0 (.list ds) := fun W H1 e0 e1 _ q =>
  h W H1 e0 e1 _ fun vs W2 H2 g2 hv => ⟨sz_of (by rw [hv.len]; exact hl), fun p hp => by
    have g3 := Grow.new (o := .lst vs) g2.h hp
    exact q _ _ _ (g2.trans g3) (.lst upd_same (hv.up g3.w))⟩
theorem ef_dict0 : EvF tDNewK σ W0 (.dict []) := fun W H1 e0 e1 _ q p hp => q _ _ _ (Grow.new e1 hp) (.dic (ns := []) upd_same)
theorem ef_dict1 {a b : Int} (h1 : ∀ (H : Hp) (Q : VK), Q (.int a) H → ta σ H Q) (h2 : ∀ (H : Hp) (Q : VK), Q (.int b) H → tb σ H Q) : EvF (tDisp [(ta, tb)]) σ W0 (.dict [(.int a, .int b)]) := fun W H1 e0 e1 Q q p hp =>
  h1 _ _ (h2 _ _ ⟨upd_same, [((Sum.inl a : Key), V.int b)], rfl, Nat.le_of_ble_eq_true rfl, by
    rw [show upd (upd H1 p (.dK [])) p (.dK (mergeK [] [((Sum.inl a : Key), V.int b)])) = upd H1 p (.dK [((Sum.inl a : Key), V.int b)]) from upd_upd]
    exact q _ _ _ (Grow.new e1 hp) (.dic (ns := [(a, b)]) upd_same)⟩)
theorem ef_cat (h1 : EvF ta σ W0 (.list ds)) (h2 : EvF tb σ W0 (.list es)) (hl : ds.length + es.length ≤ 100000) : EvF (tOp rCat ta tb) σ W0 (.list (ds ++ es)) := fun W H1 e0 e1 Q q =>
  h1 W H1 e0 e1 _ fun v W2 H2 g2 hv => h2 W2 H2 (e0.trans g2.w) g2.h _ fun u W3 H3 g3 hu => by
    obtain ⟨a, xs, rfl, ha, hx⟩ := (hv.up g3.w).lst_get
    obtain ⟨b, ys, rfl, hb, hy⟩ := hu.lst_get
    refine ⟨a, b, xs, ys, rfl, rfl, g3.h _ _ ha, g3.h _ _ hb, sz_of (by rw [hx.len, hy.len]; exact hl), fun p hp => ?_⟩
    have g4 := Grow.new (o := .lst (xs ++ ys)) g3.h hp
    exact q _ _ _ ((g2.trans g3).trans g4) (.lst upd_same ((hx.up g4.w).app (hy.up g4.w)))
end
theorem rep_dt {H : Hp} {vs : List V} {ds : List PyData} (h : DtAll H vs ds) : ∀ n : Nat, DtAll H (List.replicate n vs).flatten (List.replicate n ds).flatten
  | 0 => .nil
  | n + 1 => by
    rw [List.replicate_succ, List.replicate_succ, List.flatten_cons, List.flatten_cons]
    exact h.app (rep_dt h n)
/-! ### [..] != [], whatever stands in the list -/
def rNeE : R2 := fun x y H Q => ∃ a b xs, x = .ref a ∧ y = .ref b ∧ H a = some (.lst xs) ∧ H b = some (.lst []) ∧ Q (.bl (!xs.isEmpty)) H
theorem op_neE {X : Cx} (hu : X.A.units + 64 < cLine) : OpR X (compareOp .NotEq) rNeE := by
  intro pins s σ H x y v u Q I rx ry h
  obtain ⟨a, b, xs, rfl, rfl, ha, hb, q⟩ := h
  cases (show v = Value.ref a from rx)
  cases (show u = Value.ref b from ry)
  obtain ⟨_, its, n, r, hl, e⟩ := I.lstM ha
  obtain ⟨_, its2, n2, r2, hl2, e2⟩ := I.lstM hb
  cases r2
  have L1 : s.heap.IsList a its.toArray := ⟨_, e, rfl, n, rfl⟩
  have L2 : s.heap.IsList b ([] : List Value).toArray := ⟨_, e2, rfl, n2, rfl⟩
  cases xs with
  | nil =>
    cases r
    exact SeqAt.RcNeAt.lists (e := fun _ => true) L1 L2 rfl (by omega) (fun j h1 _ => absurd h1 (Nat.not_lt_zero j)) X.prog X.w X.xe _ ⟨.bl false, H, I, rfl, q⟩
  | cons x0 xs0 =>
    refine SeqAt.RcNeAt.lists_lengths L1 L2 ?_ (by omega) X.prog X.w X.xe _ ⟨.bl true, H, I, rfl, q⟩
    cases r
    simp
/-! ### what may be shown, built piece by piece -/
structure Sh (k n : Nat) (d : PyData) : Prop where
  sh : d.showable = true
  tx : txtOk d
  dp : d.depth ≤ k
  wd : wdt d ≤ n
  nd : d.hasDict = false
structure ShA (k n : Nat) (ds : List PyData) : Prop where
  sh : PyData.showableAll ds = true
  tx : txtOks ds
  dp : PyData.depthAll ds ≤ k
  wd : wdts ds ≤ n
  nd : PyData.hasDictAll ds = false
theorem Sh.shows {k n : Nat} {d : PyData} (h : Sh k n d) (hk : k ≤ 60) (hn : n ≤ 100000) : Shows d := .of h.sh h.tx (Nat.le_trans h.dp hk) (Nat.le_trans h.wd hn) (fun z => by rw [h.nd] at z; cases z)
theorem sh_int {i : Int} (h : i.natAbs.log2 < 1920) : Sh 0 1921 (.int i) := ⟨showI h, trivial, Nat.le_refl 0, Nat.le_refl _, rfl⟩
theorem sh_non : Sh 0 4 .none := ⟨rfl, trivial, Nat.le_refl 0, Nat.le_refl _, rfl⟩
theorem sh_bl {b : Bool} : Sh 0 5 (.bool b) := ⟨rfl, trivial, Nat.le_refl 0, Nat.le_refl _, rfl⟩
theorem sh_str {x : Str} {m : Nat} (h : okS x) (hl : x.length ≤ m) : Sh 0 (10 * m + 2) (.str x) := ⟨rfl, h, Nat.le_refl 0, (show 10 * x.length + 2 ≤ 10 * m + 2 by omega), rfl⟩
theorem sha_nil : ShA 0 0 [] := ⟨rfl, trivial, Nat.le_refl 0, Nat.le_refl _, rfl⟩
theorem sha_cons {k n k2 m : Nat} {d : PyData} {ds : List PyData} (h : Sh k n d) (r : ShA k2 m ds) : ShA (max k k2) (n + 2 + m) (d :: ds) := by
  refine ⟨?_, ⟨h.tx, r.tx⟩, ?_, ?_, ?_⟩
  · show (d.showable && PyData.showableAll ds) = true
    rw [h.sh, r.sh]
    rfl
  · show max d.depth (PyData.depthAll ds) ≤ max k k2
    have := h.dp
    have := r.dp
    omega
  · show wdt d + 2 + wdts ds ≤ n + 2 + m
    have := h.wd
    have := r.wd
    omega
  · show (d.hasDict || PyData.hasDictAll ds) = false
    rw [h.nd, r.nd]
    rfl
theorem sh_tup {k n : Nat} {ds : List PyData} (h : ShA k n ds) : Sh (k + 1) (3 + n) (.tuple ds) := ⟨h.sh, h.tx, Nat.succ_le_succ h.dp, Nat.add_le_add_left h.wd 3, h.nd⟩
theorem sh_lst {k n : Nat} {ds : List PyData} (h : ShA k n ds) : Sh (k + 1) (2 + n) (.list ds) := ⟨h.sh, h.tx, Nat.succ_le_succ h.dp, Nat.add_le_add_left h.wd 2, h.nd⟩
theorem shows_dict1 {a b : Int} (ha : a.natAbs.log2 < 1920) (hb : b.natAbs.log2 < 1920) : Shows (.dict [(.int a, .int b)]) := .of (by
  show ((PyData.int a).showable && (PyData.int b).showable && true) = true
  rw [showI ha, showI hb]
  rfl) ⟨trivial, trivial, trivial⟩ (Nat.le_of_ble_eq_true rfl) (Nat.le_of_ble_eq_true rfl) (fun z => rfl)
section
variable {K : PySem.W.Frag} {σ : L2.St} {W0 H : Hp} {ta tb te : TE} {d : PyData} {ds es : List PyData} {D : Ends} {tz : TS}
theorem ef_rep {k : Nat} (h : EvF ta σ W0 (.list ds)) (hl : ds.length * k ≤ 100000) (hk : k ≤ 1000) : EvF (tOp rRep ta (tC (.int (k : Int)))) σ W0 (.list (List.replicate k ds).flatten) := fun W H1 e0 e1 Q q =>
  h W H1 e0 e1 _ fun v W2 H2 g2 hv => by
    obtain ⟨a, xs, rfl, ha, hx⟩ := hv.lst_get
    refine ⟨a, (k : Int), xs, rfl, rfl, g2.h _ _ ha, by omega, by omega, sz_of (by rw [hx.len]; exact hl), fun p hp => ?_⟩
    have g3 := Grow.new (o := .lst (List.replicate ((k : Int)).toNat xs).flatten) g2.h hp
    exact q _ _ _ (g2.trans g3) (.lst upd_same ((rep_dt hx k).up g3.w))
theorem q_asgF {i : Nat} (h : EvF te σ W0 d) (e : Ex W0 H) (k : ∀ v W2 H2, Grow W0 H W2 H2 → Dt W2 v d → tz D (σ.set i (some v)) H2) : tSeq (tAsg te (gName i)) tz D σ H := h W0 H (Ex.refl W0) e _ k
theorem ef_stri {i : Int} {j : Nat} (h : σ[j]? = some (some (.int i))) (hl : i.natAbs.log2 < 1920) : EvF (tCB (fun xs H Q => ∃ i, xs = [.int i] ∧ i.natAbs.log2 < 1920 ∧ Q (.str (toString i)) H) (tCons (tVar j) tNil)) σ W0 (.str (toString i)) :=
  ef_str fun H Q q => ⟨_, h, i, rfl, hl, q⟩
theorem ef_vi {i : Int} {j : Nat} (h : σ[j]? = some (some (.int i))) : EvF (tVar j) σ W0 (.int i) := ef_int fun H Q q => ⟨_, h, q⟩
theorem ef_ci {i : Int} : EvF (tC (.int i)) σ W0 (.int i) := ef_int fun H Q q => q
theorem ef_cb {b : Bool} : EvF (tC (.bl b)) σ W0 (.bool b) := ef_c fun _ => .bl b
theorem ef_cn : EvF (tC .non) σ W0 .none := ef_c fun _ => .non
theorem ef_cs {x : Str} : EvF (tC (.str x)) σ W0 (.str x) := ef_c fun _ => .str x
/-- a comprehension over a tuple of whatever data: whether it gives any -/
theorem lcT_any {a : Addr} {xs : List V} {tl : TE} {t : TT} {j : Nat} {vs : List Nat} {Q : VK} (f : PyData → Bool) (h : Ev tl σ H (.ref a)) (ha : H a = some (.tup xs)) (hx : DtAll H xs ds) (hz : ds.length ≤ 40000) (hw : ∀ x, wipe ((wipe σ vs).set j (some x)) vs = wipe σ vs) (hj : ∀ x, ((wipe σ vs).set j (some x))[j]? = some (some x))
    (ht : ∀ H1 v d, Ex H H1 → d ∈ ds → Dt H1 v d → EvT t ((wipe σ vs).set j (some v)) H1 (f d)) (q : ∀ p H2 acc, H p = none → Ex H H2 → H2 p = some (.lst acc) → acc.length = (ds.filter f).length → Q (.ref p) H2) : tLc (iTup K tl) (gName j) t (tVar j) vs σ H Q :=
  h H (Ex.refl H) _ fun H1 e1 => ⟨a, rfl, ⟨xs, st_of (e1 _ _ ha)⟩, fun Dl hD => lc_tup (xs := xs) (fun i H' => Ex H1 H' ∧ ∃ acc, H' Dl = some (.lst acc) ∧ acc.length = ((ds.take i).filter f).length) ⟨Ex.new hD, [], upd_same, rfl⟩ (fun i H' _ p => st_of (p.1 _ _ (e1 _ _ ha))) (fun i x H' hi p => ⟨hw x, by
      obtain ⟨p1, acc, p2, p3⟩ := p
      obtain ⟨d, hd, hxd⟩ := hx.get i hi
      have hm := List.mem_of_getElem? hd
      have hlen : ((ds.take i).filter f).length ≤ ds.length := by
        have h1 := List.length_filter_le f (ds.take i)
        rw [List.length_take] at h1
        omega
      have hstep : ((ds.take (i + 1)).filter f).length = ((ds.take i).filter f).length + (if f d = true then 1 else 0) := by
        rw [List.take_add_one, hd, List.filter_append, List.length_append]
        congr 1
        cases z : f d with
        | true => simp [z]
        | false => simp [z]
      refine ht H1 x d e1 hm (hxd.up e1) H' p1 _ fun H3 e3 => ?_
      cases z : f d with
      | true =>
        refine itT rfl ⟨x, hj x, acc, e3 _ _ p2, sz_lt (by omega), Ex.mut (p1.trans e3) hD, acc ++ [x], upd_same, ?_⟩
        rw [hstep, z, List.length_append, p3]
        rfl
      | false =>
        refine itF rfl ⟨p1.trans e3, acc, e3 _ _ p2, ?_⟩
        rw [hstep, z, p3]
        rfl⟩) (fun H' p => by
      obtain ⟨p1, acc, p2, p3⟩ := p
      rw [hx.len, List.take_length] at p3
      exact q Dl H' acc (fresh_back e1 hD) (e1.trans p1) p2 p3)⟩
end
theorem tNext_app {D : Ends} {σ : L2.St} {H : Hp} : tNext D σ H = D.nx σ H := rfl
theorem go_ifop {r : R2} {ta tb : TE} {t1 t2 tz : TS} {D : Ends} {σ : L2.St} {H : Hp} (h : ta σ H fun x H1 => tb σ H1 fun y H2 => r x y H2 fun z H3 => ∃ k, z = .bl k ∧ if k = true then t1 { D with nx := tz D } σ H3 else t2 { D with nx := tz D } σ H3) : tSeq (tIfS (tTest (tOp r ta tb)) t1 t2) tz D σ H := h
/-! ### loops in which the heap grows alone -/
theorem loopK {K : PySem.W.Frag} {a : Addr} {vs : List V} {j : Nat} {tu : TS} {D : Ends} {σ : L2.St} {H : Hp} (ha : H a = some (.lst vs)) (Pv : Nat → L2.St → Hp → Prop) (h0 : Pv 0 σ H)
    (hs : ∀ i x σ' H', vs[i]? = some x → Ex H H' → Pv i σ' H' → tu { D with nx := fun σ3 H3 => Pv (i + 1) σ3 H3 ∧ Ex H' H3, ct := fun σ3 H3 => Pv (i + 1) σ3 H3 ∧ Ex H' H3, bk := D.nx } (σ'.set j (some x)) H')
    (hd : ∀ σ' H', Pv vs.length σ' H' → Ex H H' → D.nx σ' H') : tFor (fun _ H R => R (Itl K a) H) (gName j) tu D σ H := by
  refine ⟨fun i m σ' H' => m = vs.length - i ∧ i ≤ vs.length ∧ Pv i σ' H' ∧ Ex H H', ⟨vs.length, rfl, Nat.zero_le _, h0, Ex.refl _⟩, fun i m σ' H' hW => ?_⟩
  obtain ⟨rfl, hi, hP, eW⟩ := hW
  have hS : SqL K H' a vs := sq_of (eW _ _ ha)
  by_cases z : i < vs.length
  · refine .inr ⟨⟨vs, vs[i], hS, List.getElem?_eq_getElem z⟩, fun σ3 H3 => Pv (i + 1) σ3 H3 ∧ Ex H' H3, fun σ3 H3 hN => ⟨vs.length - (i + 1), by omega, rfl, z, hN.1, eW.trans hN.2⟩, fun x H3 y => ?_⟩
    obtain ⟨rfl, y⟩ := y
    have ex : x = vs[i] := Option.some.inj ((y vs hS).symm.trans (List.getElem?_eq_getElem z))
    rw [ex]
    exact hs i _ σ' _ (List.getElem?_eq_getElem z) eW hP
  · have e : i = vs.length := by omega
    subst e
    exact .inl ⟨⟨vs, hS, Nat.le_refl _⟩, hd σ' H' hP eW⟩
theorem go_forI {K : PySem.W.Frag} {tl : TE} {g : TG} {tu tz : TS} {D : Ends} {σ : L2.St} {H : Hp} (h : tl σ H fun x H1 => ∃ a, x = .ref a ∧ (∃ xs, SqL K H1 a xs) ∧ tFor (fun _ H R => R (Itl K a) H) g tu { D with nx := tz D } σ H1) : tSeq (tFor (iList K tl) g tu) tz D σ H := h
theorem q_forE {K : PySem.W.Frag} {tl : TE} {ds : List PyData} {j : Nat} {tu tz : TS} {D : Ends} {σ : L2.St} {H : Hp} (h : EvD tl σ H (.list ds)) (Pv : Nat → L2.St → Hp → Prop) (h0 : ∀ H1, Ex H H1 → Pv 0 σ H1)
    (hs : ∀ i x d σ' H', ds[i]? = some d → Dt H' x d → Pv i σ' H' → tu { D with nx := fun σ3 H3 => Pv (i + 1) σ3 H3 ∧ Ex H' H3, ct := fun σ3 H3 => Pv (i + 1) σ3 H3 ∧ Ex H' H3, bk := tz D } (σ'.set j (some x)) H')
    (hd : ∀ σ' H', Pv ds.length σ' H' → tz D σ' H') : tSeq (tFor (iList K tl) (gName j) tu) tz D σ H :=
  go_forI (h H (Ex.refl H) _ fun v H2 e2 hv => by
    obtain ⟨a, xs, rfl, ha, hx⟩ := hv.lst_get
    refine ⟨a, rfl, ⟨_, sq_of ha⟩, loopK (D := { D with nx := tz D }) ha Pv (h0 H2 e2) (fun i x σ' H' hi e hP => ?_) (fun σ' H' hP e => ?_)⟩
    · obtain ⟨d, hd1, hd2⟩ := hx.get i hi
      exact hs i x d σ' H' hd1 (hd2.up e) hP
    · rw [hx.len] at hP
      exact hd σ' H' hP)
theorem s_forE {K : PySem.W.Frag} {tl : TE} {ds : List PyData} {j : Nat} {tu : TS} {D : Ends} {σ : L2.St} {H : Hp} (h : EvD tl σ H (.list ds)) (Pv : Nat → L2.St → Hp → Prop) (h0 : ∀ H1, Ex H H1 → Pv 0 σ H1)
    (hs : ∀ i x d σ' H', ds[i]? = some d → Dt H' x d → Pv i σ' H' → tu { D with nx := fun σ3 H3 => Pv (i + 1) σ3 H3 ∧ Ex H' H3, ct := fun σ3 H3 => Pv (i + 1) σ3 H3 ∧ Ex H' H3, bk := D.nx } (σ'.set j (some x)) H')
    (hd : ∀ σ' H', Pv ds.length σ' H' → D.nx σ' H') : tFor (iList K tl) (gName j) tu D σ H := q_forE (tz := tNext) h Pv h0 hs hd
/-! ### an error that was caught, kept as a value -/
/-- an error's object of the class cls, behind the clause that caught it -/
def ExK (cls : Value) (a : Addr) : HO := .ext fun h => ∃ (oe : Obj) (vs : Array Value), h.get? a = some oe ∧ Zc cls none oe ∧ oe.data = .fields vs
theorem exK_ok {P : Program} {w : World} {H : Hp} {h : Heap} {a : Addr} {cls : Value} {oe : Obj} {vs : Array Value} (e : h.get? a = some oe) (z : Zc cls none oe) (d : oe.data = .fields vs) : ObjOk P w H h a (ExK cls a) :=
  ⟨⟨oe, vs, e, z, d⟩, ⟨oe, e⟩, fun _ _ ⟨o, v, q, r⟩ k => ⟨o, v, k o q, r⟩⟩
section
variable {X : Cx} {pins : List (Addr × Obj)} {σ : L2.St} {H : Hp} {s : Shared}
/-- an object that lies there untracked, made behind the entry, is tracked -/
theorem inv_track {a : Addr} {o : HO} {oe : Obj} {vs : Array Value} (I : Inv X pins σ H s) (hn : H a = none) (h0 : X.s_0.heap.get? a = none) (ha : s.heap.get? a = some oe) (hd : oe.data = .fields vs) (nL : a ≠ X.env.locals)
    (np : ∀ p ∈ X.pn ++ pins, p.1 ≠ a) (new : ObjOk X.prog X.w (upd H a o) s.heap a o) : Inv X pins σ (upd H a o) s := by
  have ne0 : ∀ b u, X.s_0.heap.get? b = some u → b ≠ a := fun b u e z => by
    rw [z, h0] at e
    cases e
  have neC : ∀ x c, X.env.cells.lookup x = some c → c ≠ a := fun x c e z => by
    obtain ⟨v, oc, hc, dc⟩ := I.cell x c e
    rw [z, ha] at hc
    cases hc
    rw [hd] at dc
    cases dc
  refine ⟨I.ok, I.os, I.bare, ⟨I.base.keep, I.base.slot, fun b u e n hx => ?_, I.base.there, fun b xs e => ?_, fun b u xs e => ?_, fun b ps e => ?_⟩, I.loc, I.cell, ?_, fun x c e => ?_, fun p hp => ?_, fun b u e => ?_, I.len⟩
  · rw [upd_ne (ne0 b u e)]
    exact I.base.free b u e n hx
  · have q := I.base.tups b xs e
    rw [upd_ne (ne_of_none q hn)]
    exact q
  · have q := I.base.frzs b u xs e
    rw [upd_ne (ne_of_none q hn)]
    exact q
  · obtain ⟨m, q⟩ := I.base.tbls b ps e
    exact ⟨m, by rw [upd_ne (ne_of_none q hn)]; exact q⟩
  · rw [upd_ne (Ne.symm nL)]
    exact I.free
  · rw [upd_ne (neC x c e)]
    exact I.freeC x c e
  · obtain ⟨e, n, r⟩ := I.pin p hp
    exact ⟨e, by rw [upd_ne (np p hp)]; exact n, r⟩
  · by_cases hb : b = a
    · subst hb
      rw [upd_same] at e
      cases e
      exact new
    · rw [upd_ne hb] at e
      exact (I.hok b u e).stay (fun c v _ q => q) (fun c q => by rw [upd_ne (ne_of_none q hn)]; exact q) fun c xs q => by rw [upd_ne (ne_of_none q hn)]; exact q
end
/-- what the clause 'except x as n' wishes, where the error stays a value behind it -/
def wKeep (K : PySem.W.Frag) (c : Value) (i : Nat) (ts : Addr → Value → TS) (Wout : WX) (D : Ends) : WX := fun cls d σ H =>
  ∃ b, PySem.W.exmOne K cls c = some b ∧ (b = true → d = none ∧ ∀ a, H a = none → ts a cls { nx := fun σ' H' => D.nx (σ'.set i none) (upd H' a (ExK cls a)), rt := fun (y : V) (H' : Hp) => (D.rt y) (upd H' a (ExK cls a)), bk := fun σ' H' => D.bk (σ'.set i none) (upd H' a (ExK cls a)), ct := fun σ' H' => D.ct (σ'.set i none) (upd H' a (ExK cls a)) } (σ.set i (some (.ref a))) H) ∧ (b = false → Wout cls d σ H)
section
variable {X : Cx} {x n : Str} {c : Value} {i : Nat} {body suite : List Stmt} {b₀ : Stmt} {npp pos pos' : Pos} {tb : WX → TS} {ts : Addr → Value → TS} {Wout : WX}
theorem ps_try_keep (hs : X.stack = X.env :: X.outer) (hf : X.env.frame = some X.env.locals) (hex : X.ex = []) (hN : X.N.Nodup) (hi : X.N[i]? = some n) (hln : X.env.kindOf n = some .local) (hc : Names X x c) (tk : Takes X Wout)
    (hb : ∀ (W : WX) (pn : List (Addr × Obj)) (xe : Value → Shared → Prop), Takes (X.tr pn xe) W → PassesOwn (model X.prog X.w) X.A X.env xe → PSs (X.tr pn xe) body (tb W))
    (hsu : ∀ (a : Addr) (oe : Obj) (cls : Value) (pn : List (Addr × Obj)), PSs (X.suite a ((a, oe) :: pn)) (b₀ :: suite) (ts a cls)) :
    PS X (.Try body [.ExceptHandler (some (.Name x npp)) (some n) (b₀ :: suite) pos'] [] [] pos) (fun D σ H => tb (wKeep X.K c i ts Wout D) D σ H) := by
  refine ⟨fun pins s σ H D I h => ?_⟩
  have ok := I.ok
  have hfr : X.A.frames = some (X.env :: X.outer) := by rw [ok.frames, hs]
  have hloc : Loc X.env.scope n := .inl hln
  refine wpAny_Try_except ?_
  refine wpAny_mono ((hb (wKeep X.K c i ts Wout D) (X.pn ++ pins) (fun e s₁ => wpAny (model X.prog X.w) X.A (noteFrame e X.env) (fun _ s₂ => wpAny (model X.prog X.w) X.A (setFlight e none) (fun _ s₃ =>
    wpAny (model X.prog X.w) X.A (handleBy e X.env [.ExceptHandler (some (.Name x npp)) (some n) (b₀ :: suite) pos']) (SP X pins D) X.xe s₃) X.xe s₂) X.xe s₁) (fun u s' xx => ?_) PassesOwn.looking).run [] s σ H D (I.toTry _) h) (fun f s1 hsp => ?_) (fun e s1 he => he)
  · obtain ⟨a, B, sI, pins', σ', H', cls, d, rfl, J', nb, up, sky, na, os, ag, b, hb1, hyes, hno⟩ := xx
    have J : Inv X pins σ' H' sI := J'.ofTry ok
    have sky' : Sky B (X.env :: X.outer) a (Zc cls d) X.env.locals s'.heap := by rw [← hs]; exact sky
    show wpAny (model X.prog X.w) X.A (noteFrame (.ref a) X.env) _ _ _
    refine Sky.land Zc.steady hfr hf sky' fun h3 fl3 up3 => ?_
    have J3 : Inv X pins σ' H' { s' with heap := h3 } := J.landed nb fl3.1 (up.trans up3) os ag
    obtain ⟨oe3, vs3, he3, hz3, hd3⟩ := fl3.there
    have notFr : ∀ {h : Heap} {o : Obj} {vs : Array Value}, h.FunFrames B (X.env :: X.outer) → h.get? a = some o → o.data = .fields vs → a ∉ frs (X.env :: X.outer) := fun {h o vs} ff e dd hm => by
      obtain ⟨_, o', e', hnf⟩ := ff.mem hm
      rw [e] at e'; cases e'
      exact hnf _ dd
    have nfr := notFr fl3.2.2.1 he3 hd3
    have nI : sI.heap.get? a = none := by
      cases e : sI.heap.get? a with
      | none => rfl
      | some o =>
        have z := nb a o e (by rw [hs]; exact nfr)
        rw [fl3.2.1] at z
        cases z
    have n0 : X.s_0.heap.get? a = none := by
      cases e : X.s_0.heap.get? a with
      | none => rfl
      | some o =>
        obtain ⟨o', z⟩ := J.base.there a o e (by rw [hex]; exact fun z => nomatch z)
        rw [nI] at z
        cases z
    have np : ∀ p ∈ X.pn ++ pins, p.1 ≠ a := fun p hp z => by
      have q := (J.pin p hp).1
      rw [z, nI] at q
      cases q
    have nL : a ≠ X.env.locals := fun z => nfr (List.mem_filterMap.mpr ⟨X.env, List.mem_cons_self, by rw [hf, z]⟩)
    have nF : a ∉ X.fs := fun hm => by
      obtain ⟨e, he, q⟩ := List.mem_filterMap.mp hm
      exact nfr (List.mem_filterMap.mpr ⟨e, List.mem_cons_of_mem _ he, q⟩)
    have S3 := J3.suite he3 hd3 na nL nF
    refine wpAny_handleBy_cons (codeAny_handlers_test ?_) (by intro q; cases q)
    have LT : PySem.W.Looks (model X.prog X.w) h3 (typeOf (.ref a)) cls := fun A Q E s k q => wpAny_typeOf_ref (k _ _ he3) (by rw [hz3.1]; exact q)
    have LM := PySem.W.exm_one (M := model X.prog X.w) (J3.kIn) LT hb1
    have test : ∀ {Q : Value → Shared → Prop} {E : Value → Shared → Prop}, Q c { s' with heap := h3 } → wpAny (model X.prog X.w) (X.A.mark (some (.ref a))) (eval (.Name x npp) X.env) Q E { s' with heap := h3 } := fun {Q E} q => by
      obtain ⟨hg, hdbg, hm | ⟨hm, hv, hnn⟩⟩ := hc
      · exact ld_glob (X := X.suite a ((a, oe3) :: (X.pn ++ pins))) S3 hg hm q hdbg
      · exact ld_blt (X := X.suite a ((a, oe3) :: (X.pn ++ pins))) S3 hg hm hv q hnn hdbg
    refine test (LM.here ?_)
    cases b with
    | true =>
      refine codeAny_handlers_suite_as ?_
      refine HandSPX.lands_againZ fl3 fun h4 fl4 up4 => ?_
      have J4 : Inv X pins σ' H' { s' with heap := h4 } := J.landed nb fl4.1 ((up.trans up3).trans up4) os ag
      obtain ⟨oe4, vs4, he4, hz4, hd4⟩ := fl4.there
      have S4 := J4.suite he4 hd4 na nL nF
      obtain ⟨ed, hyes⟩ := hyes rfl
      rw [ed] at hz4
      refine store_ok (X := X.suite a ((a, oe4) :: (X.pn ++ pins))) (v := .ref a) S4 hN hi hloc rfl (fun s5 S5 => ?_) (.inr hln)
      refine wpAny_mono ((hsu a oe4 cls (X.pn ++ pins)).run [] s5 _ H' _ S5 (hyes a na)) (fun f s6 hsp => ?_) (fun _ _ z => False.elim z)
      have end_ : ∀ {σ6 : L2.St} {H6 : Hp} {Q : Shared → Prop}, Inv (X.suite a ((a, oe4) :: (X.pn ++ pins))) [] σ6 H6 s6 → (∀ s7, Inv X pins (σ6.set i none) (upd H6 a (ExK cls a)) s7 → Q s7) →
          wpAny (model X.prog X.w) X.A (do bindName X.env n .none; unbindBehindTheSuite X.env n pos') (fun _ s7 => Q s7) X.xe s6 := fun {σ6 H6 Q} S6 hq => by
        have pa := S6.pin (a, oe4) (List.mem_append.mpr (.inl List.mem_cons_self))
        have U : Inv X pins σ6 H6 s6 := S6.unsuite ok
        have V : Inv X ((a, oe4) :: pins) σ6 H6 s6 := ⟨U.ok, U.os, U.bare, U.base, U.loc, U.cell, U.free, U.freeC, fun p hp => by
          rcases List.mem_append.mp hp with h1 | h1
          · exact U.pin p (List.mem_append.mpr (.inl h1))
          · rcases List.mem_cons.mp h1 with h2 | h2
            · rw [h2]
              exact pa
            · exact U.pin p (List.mem_append.mpr (.inr h2)), U.hok, U.len⟩
        refine gone_ok V hN hi hln fun s7 V7 => hq s7 ?_
        have p7 := V7.pin (a, oe4) (List.mem_append.mpr (.inr List.mem_cons_self))
        have U7 : Inv X pins (σ6.set i none) H6 s7 := ⟨V7.ok, V7.os, V7.bare, V7.base, V7.loc, V7.cell, V7.free, V7.freeC, fun p hp => by
          rcases List.mem_append.mp hp with h1 | h1
          · exact V7.pin p (List.mem_append.mpr (.inl h1))
          · exact V7.pin p (List.mem_append.mpr (.inr (List.mem_cons_of_mem _ h1))), V7.hok, V7.len⟩
        exact inv_track U7 p7.2.1 n0 p7.1 hd4 nL np (exK_ok p7.1 hz4 hd4)
      cases f with
      | next =>
        obtain ⟨σ6, H6, S6, q6⟩ := hsp
        exact end_ S6 fun s7 J7 => ⟨_, _, J7, q6⟩
      | brk =>
        obtain ⟨σ6, H6, S6, q6⟩ := hsp
        exact end_ S6 fun s7 J7 => ⟨_, _, J7, q6⟩
      | cont =>
        obtain ⟨σ6, H6, S6, q6⟩ := hsp
        exact end_ S6 fun s7 J7 => ⟨_, _, J7, q6⟩
      | ret u =>
        obtain ⟨v6, σ6, H6, S6, r6, q6⟩ := hsp
        exact end_ S6 fun s7 J7 => ⟨_, _, _, J7, r6, q6⟩
    | false =>
      show wpAny _ X.A (handleBy (.ref a) X.env []) _ _ _
      refine wpAny_handleBy_nil ?_
      obtain ⟨k1, k2, k3, oe, vs, T, oT, ts', he, hz, hd, h1, hr⟩ := id fl3
      unfold PySem.passOn
      refine wpAny_bind (wpAny_field he hd h1 ?_)
      rw [if_neg (show ¬ ((Value.ref T == Value.none) = true) from by simp)]
      have fin : wpAny (model X.prog X.w) X.A (setFlight (.ref a) X.env.frame) (fun _ s4 => wpAny (model X.prog X.w) X.A (throw (.ref a) : Sem Flow) (SP X pins D) X.xe s4) X.xe { s' with heap := h3 } := by
        rw [hf]
        refine HandSPX.setFlight_upZ fl3 fun h4 hh4 up4 => wpAny_throw (tk _ _ ?_)
        exact ⟨a, B, sI, pins, σ', H', cls, d, rfl, J, nb, (up.trans up3).trans up4, .inr (.inr (by rw [hs]; exact hh4)), na, os, ag, hno rfl⟩
      first
        | exact wpAny_bind (wpAny_pure (wpAny_bind fin))
        | exact wpAny_bind fin
  · cases f with
    | next =>
      obtain ⟨σ', H', J', q⟩ := hsp
      exact wpAny_execs_nil ⟨σ', H', J'.ofTry ok, q⟩
    | brk =>
      obtain ⟨σ', H', J', q⟩ := hsp
      exact ⟨σ', H', J'.ofTry ok, q⟩
    | cont =>
      obtain ⟨σ', H', J', q⟩ := hsp
      exact ⟨σ', H', J'.ofTry ok, q⟩
    | ret u =>
      obtain ⟨v, σ', H', J', r, q⟩ := hsp
      exact ⟨v, σ', H', J'.ofTry ok, r, q⟩
end
/-! ### isinstance of it -/
/-- isinstance(caught, c), c one class; isinstance(caught, (c1, ..)) -/
def rIsX (K : PySem.W.Frag) : List V → Hp → VK → Prop := fun xs H Q => ∃ (a D : Addr) (c : V) (b : Bool), xs = [.ref a, c] ∧ H a = some (ExK (.ref D) a) ∧ L2.ExcC K D ∧
  ((∃ u, ClsV c u ∧ PySem.W.kitOne K (.ref D) u = some b) ∨ ∃ tp cs us, c = .ref tp ∧ H tp = some (.tup cs) ∧ Paired ClsV cs us ∧ PySem.W.kitAny K (.ref D) us = some b) ∧ Q (.bl b) H
theorem call_isX {X : Cx} : CallR X (.builtin "isinstance") (rIsX X.K) := by
  intro pins s σ H xs us Q I r h
  obtain ⟨a, D, c, b, rfl, ha, C, hc, q⟩ := h
  obtain ⟨u1, u2, rfl, r1, r2⟩ := vals2 r
  cases (show u1 = Value.ref a from r1)
  obtain ⟨⟨oe, vs, ho, hz, hv⟩, _, _⟩ := I.hok a _ ha
  have J : PySem.W.InstAt s.heap a oe D none := by
    obtain ⟨oc, od, oda, osl⟩ := oe
    obtain ⟨h1, h2⟩ := hz
    dsimp only at h1 h2 hv
    subst h1 h2 hv
    exact ⟨ho, rfl, rfl, trivial⟩
  have Z := PySem.W.handS_kitx_exc (K := X.K) (x := a) (ox := oe) C.hg C.hk C.hs C.hd C.ha C.hn C.ht C.hm
  rcases hc with ⟨u, k, e⟩ | ⟨tp, cs, ws, rfl, hT, k, e⟩
  · have e2 := k.eq r2
    subst e2
    exact PySem.W.kia_one Z I.kIn J e (fun z => nomatch z) fun tk => ⟨.bl b, H, I.tok tk, rfl, q⟩
  · cases (show u2 = Value.ref tp from r2)
    obtain ⟨_, its, rv, o, h1, h2, n, h3⟩ := (show ObjOk X.prog X.w H s.heap tp (.tup cs) from I.hok tp _ hT)
    have e3 := ClsV.all k rv
    subst e3
    obtain ⟨oc, od, dt, sl⟩ := o
    simp only at h2 h3
    subst h2 h3
    exact PySem.W.kia_tup Z I.kIn J h1 e (fun z => nomatch z) fun tk => ⟨.bl b, H, I.tok tk, rfl, q⟩
/-! ### making one, raising it -/
section
variable {X : Cx} {C : Addr} {bmB : List Value} {B newId initId : String}
/-- C(e), to be raised -/
theorem pmk_any {x : Str} {e : Expr} {ta : TE} {p pos : Pos} (F : ExcBaseFacts B newId initId bmB) (q : PySem.W.excIn X.K C bmB newId = true) (gC : X.mg x = some (.ref C)) (kC : PySem.W.keepIn X.K (.ref C) = true) (r : Raises X (.ref C)) (hg : Gl X x)
    (he : PE X e ta) (hs : starEach [e] X.env = (false, eval e X.env) :: starEach [] X.env := by rfl) (hdb : (x == ("__debug__" : Str)) = false := by decide) : PMk X (.Call (.Name x p) [e] [] pos) (fun σ H Q => ta σ H fun _ H1 => Q (.ref C) none H1) := by
  intro pins s σ H Q I h
  refine wpAny_Call_Name_kw (ld_glob I hg gC ?_ hdb)
  refine PySem.W.callWith_K (h₀ := X.base) I.ok.mod.kin kC ?_ hs (by rfl)
  rw [hs]
  show wpAny _ _ (spliced ((false, eval e X.env) :: backTo pos (starEach [] X.env))) _ _ s
  refine Calls.spliced_cons (thn (he.run pins s σ H _ I h) fun u s1 ⟨v, H1, I1, r1, q1⟩ => ?_)
  refine Calls.spliced_nil ⟨I1.kIn, ?_⟩
  show wpAny _ _ (call (.ref C) [u]) _ _ _
  obtain ⟨bm, N, nm, qn, bs, hdct, sn, sub, ab, col, dd, k0, k1, k2, k3, k5, mN, hC, hN, hni, T⟩ := exc_obj I1.kIn q
  exact wpAny_call_exc_subT F T hC hN hni (fun h' e hm => mk_of I1 hm r q1 (I1.hok.gone hm.new)) (by show 1 ≤ sizeLine; rw [sizeLine_eq]; omega)
/-- an error's object whose args are the tuple at t -/
def ExA (cls : Value) (t a : Addr) : HO := .ext fun h => ∃ (oe : Obj) (vs : Array Value), h.get? a = some oe ∧ oe.cls = cls ∧ oe.data = .fields vs ∧ vs[0]? = some (.ref t)
/-- C(e), as a value -/
theorem pe_excA {x : Str} {e : Expr} {ta : TE} {p pos : Pos} (F : ExcBaseFacts B newId initId bmB) (q : PySem.W.excIn X.K C bmB newId = true) (gC : X.mg x = some (.ref C)) (kC : PySem.W.keepIn X.K (.ref C) = true) (hg : Gl X x)
    (he : PE X e ta) (hs : starEach [e] X.env = (false, eval e X.env) :: starEach [] X.env := by rfl) (hdb : (x == ("__debug__" : Str)) = false := by decide) :
    PE X (.Call (.Name x p) [e] [] pos) (fun σ H Q => ta σ H fun v H1 => ∀ t a, H1 t = none → H1 a = none → t ≠ a → Q (.ref a) (upd (upd H1 t (.tup [v])) a (ExA (.ref C) t a))) := by
  refine ⟨fun pins s σ H Q I h => ?_⟩
  refine wpAny_Call_Name_kw (ld_glob I hg gC ?_ hdb)
  refine PySem.W.callWith_K (h₀ := X.base) I.ok.mod.kin kC ?_ hs (by rfl)
  rw [hs]
  show wpAny _ _ (spliced ((false, eval e X.env) :: backTo pos (starEach [] X.env))) _ _ s
  refine Calls.spliced_cons (thn (he.run pins s σ H _ I h) fun u s1 ⟨v, H1, I1, r1, q1⟩ => ?_)
  refine Calls.spliced_nil ⟨I1.kIn, ?_⟩
  show wpAny _ _ (call (.ref C) [u]) _ _ _
  obtain ⟨bm, N, nm, qn, bs, hdct, sn, sub, ab, col, dd, k0, k1, k2, k3, k5, mN, hC, hN, hni, T⟩ := exc_obj I1.kIn q
  refine wpAny_call_exc_subT F T hC hN hni (fun h' a hm => ?_) (by show 1 ≤ sizeLine; rw [sizeLine_eq]; omega)
  obtain ⟨t, ha, nt, ht⟩ := hm.there
  have hna : H1 a = none := I1.hok.gone hm.new
  have hnt : H1 t = none := I1.hok.gone nt
  have hta : t ≠ a := fun z => by
    rw [z, ha] at ht
    cases ht
  refine ⟨.ref a, _, ?_, rfl, q1 t a hnt hna hta⟩
  have old : ∀ {b : Addr} {o : HO}, H1 b = some o → upd (upd H1 t (.tup [v])) a (ExA (.ref C) t a) b = some o := fun {b o} e => by
    rw [upd_ne (ne_of_none e hna), upd_ne (ne_of_none e hnt)]
    exact e
  refine I1.un (t' := s1.toks) ⟨fun b o e _ _ _ => hm.keeps b o e, fun b o e _ _ _ => ⟨o.slots, hm.keeps b o e⟩, fun b o e n _ => ?_, fun b o e _ => ⟨o, hm.keeps b o e⟩, fun b xs e => old e, fun b o xs e => old e, fun b ps e => ⟨#[], by rw [old e]; simp⟩⟩ fun b o e => ?_
  · rw [upd_ne (fun z => by rw [z, hm.new] at e; cases e), upd_ne (fun z => by rw [z, nt] at e; cases e)]
    exact n
  · by_cases hba : b = a
    · subst hba
      rw [upd_same] at e
      cases e
      exact ⟨⟨_, _, ha, rfl, rfl, rfl⟩, ⟨_, ha⟩, fun _ _ ⟨o, w, z, z2⟩ k => ⟨o, w, k o z, z2⟩⟩
    · rw [upd_ne hba] at e
      by_cases hbt : b = t
      · subst hbt
        rw [upd_same] at e
        cases e
        exact ⟨by show 1 ≤ sizeLine; rw [sizeLine_eq]; omega, [u], .cons r1 .nil, _, ht, rfl, _, rfl⟩
      · rw [upd_ne hbt] at e
        exact (I1.hok b o e).stay (fun c w _ z => hm.keeps c w z) (fun c z => old z) fun c xs z => old z
end
/-- str of one that was made with a text -/
def rStrX (K : PySem.W.Frag) : List V → Hp → VK → Prop := fun xs H Q => ∃ (a t D : Addr) (m : Str), xs = [.ref a] ∧ H a = some (ExA (.ref D) t a) ∧ H t = some (.tup [.str m]) ∧
  PySem.W.findIn K (.ref D) "__str__" = some (some (.builtin "BaseException.__str__")) ∧ PySem.W.subIn K (.ref D) (.type "BaseException") = some true ∧ Q (.str m) H
theorem call_strX {X : Cx} (hu : X.A.units + 64 < cLine) : CallR X (.type "str") (rStrX X.K) := by
  intro pins s σ H xs us Q I r h
  obtain ⟨a, t, D, m, rfl, ha, ht, hs, hB, q⟩ := h
  obtain ⟨u, rfl, r1⟩ := vals1 r
  cases (show u = Value.ref a from r1)
  obtain ⟨⟨oe, vs, ho, hc, hd, h0⟩, _, _⟩ := I.hok a _ ha
  obtain ⟨_, its, rv, o, h1, h2, n, h3⟩ := (show ObjOk X.prog X.w H s.heap t (.tup [.str m]) from I.hok t _ ht)
  obtain ⟨tk, rfl⟩ : ∃ tk, its = [.str m tk] := by
    obtain ⟨u, rfl, tk, e⟩ := vals1 rv
    exact ⟨tk, by rw [e]⟩
  exact PySem.P.str_of_C_one (by omega) ⟨I.kIn, oe, vs, ho, hc, hd, h0⟩ ⟨o, n, h1, h2, h3⟩ hs hB ⟨.str m, H, I, ⟨tk, rfl⟩, q⟩
/-! ### a def that raises -/
theorem takes_cx {P : Program} {w : World} {K : PySem.W.Frag} {mg : Str → Option Value} {base : Heap} {N : List Str} {qual : Str} {scope : Scope} {f : Addr} {cd : Value} {A : Around} {outer : List Env} {s : Shared} {H : Hp} {E : XK} :
    Takes (cxOf (L2.CX P w) P w K mg base N qual scope f cd A outer s H E) (fun cls d _ H => E cls d H) := takes_of rfl rfl rfl rfl
theorem passes_cx {P : Program} {w : World} {K : PySem.W.Frag} {mg : Str → Option Value} {base : Heap} {N : List Str} {qual : Str} {scope : Scope} {f : Addr} {cd : Value} {A : Around} {outer : List Env} {s : Shared} {H : Hp} {E : XK} :
    Passes (L2.CX P w) (cxOf (L2.CX P w) P w K mg base N qual scope f cd A outer s H E) E := passes_call (W := fun cls d _ H => E cls d H) takes_cx fun _ _ _ _ h => h
theorem pass_own {P : Program} {w : World} {K : PySem.W.Frag} {mg : Str → Option Value} {base : Heap} {N : List Str} {qual : Str} {scope : Scope} {f : Addr} {cd : Value} {A : Around} {outer : List Env} {s : Shared} {H : Hp} {E : XK} :
    PassesOwn (model P w) (cxOf (L2.CX P w) P w K mg base N qual scope f cd A outer s H E).A (cxOf (L2.CX P w) P w K mg base N qual scope f cd A outer s H E).env (cxOf (L2.CX P w) P w K mg base N qual scope f cd A outer s H E).xe := passes_of rfl
/-- code that isn't reached -/
theorem pss_dead {X : Cx} {b : List Stmt} : PSs X b (fun _ _ _ => False) := ⟨fun _ _ _ _ _ _ h => h.elim⟩
/-- raise C(e) -/
theorem ps_raiseX {X : Cx} {C : Addr} {x : Str} {e : Expr} {ta : TE} {p pos pos2 : Pos} {W : WX} (hc : X.calm = true) (tk : Takes X W) (F : ExcFacts X.K C) (gC : X.mg x = some (.ref C)) (hg : Gl X x) (he : PE X e ta)
    (hs : starEach [e] X.env = (false, eval e X.env) :: starEach [] X.env := by rfl) (hdb : (x == ("__debug__" : Str)) = false := by decide) :
    PS X (.Raise (some (.Call (.Name x p) [e] [] pos)) none pos2) (fun _ σ H => ta σ H fun _ H1 => W (.ref C) none σ H1) :=
  ps_raise hc tk (pmk_any PySem.F.excBase_ValueError F.1 gC F.2.1 (raises_own F.2.2.1 F.2.2.2) hg he hs hdb)
/-! ### facts about the classes, by names -/
inductive XF where
  | exc (x : Str)
  | str (x : Str)
  | kit (x y : Str) (b : Bool)
  | kitT (x : Str) (t : String) (b : Bool)
  | exm (x y : Str) (b : Bool)
def XF.ok (K : PySem.W.Frag) : XF → Bool
  | .exc x => He.eqO (PySem.W.findIn K (.ref (He.ga K x)) "__getattribute__") (some (some (.builtin "BaseException.__getattribute__"))) && (He.eqO (PySem.W.findIn K (.ref (He.ga K x)) "__getattr__") (some none) &&
      (decide (PySem.W.subIn K (.ref (He.ga K x)) (.type "BaseException") = some true) && (PySem.W.hasDictIn K (He.ga K x) && (He.eqO (PySem.W.findIn K (.ref (He.ga K x)) "__class__") (some (some (.builtin "object.__class__"))) &&
      (He.eqO (PySem.W.specialIn K (.builtin "object.__class__") "__get__") (some (some (.builtin "getset_descriptor.__get__"))) && (decide (PySem.W.takesIn K (.builtin "object.__class__") = some true) && decide (PySem.W.mroIn K (He.ga K x) (.type "object") = some true)))))))
  | .str x => He.eqO (PySem.W.findIn K (.ref (He.ga K x)) "__str__") (some (some (.builtin "BaseException.__str__")))
  | .kit x y b => decide (PySem.W.kitOne K (.ref (He.ga K x)) (.ref (He.ga K y)) = some b)
  | .kitT x t b => decide (PySem.W.kitOne K (.ref (He.ga K x)) (.type t) = some b)
  | .exm x y b => decide (PySem.W.exmOne K (.ref (He.ga K x)) (.ref (He.ga K y)) = some b)
theorem xf_exc {K : PySem.W.Frag} {x : Str} (c : (XF.exc x).ok K = true) : L2.ExcC K (He.ga K x) := by
  obtain ⟨c1, c⟩ := He.ba c
  obtain ⟨c2, c⟩ := He.ba c
  obtain ⟨c3, c⟩ := He.ba c
  obtain ⟨c4, c⟩ := He.ba c
  obtain ⟨c5, c⟩ := He.ba c
  obtain ⟨c6, c⟩ := He.ba c
  obtain ⟨c7, c8⟩ := He.ba c
  exact ⟨He.eqO_ok c1, He.eqO_ok c2, of_decide_eq_true c3, c4, He.eqO_ok c5, He.eqO_ok c6, of_decide_eq_true c7, of_decide_eq_true c8⟩
theorem xf_str {K : PySem.W.Frag} {x : Str} (c : (XF.str x).ok K = true) : PySem.W.findIn K (.ref (He.ga K x)) "__str__" = some (some (.builtin "BaseException.__str__")) := He.eqO_ok c
theorem xf_kit {K : PySem.W.Frag} {x y : Str} {b : Bool} (c : (XF.kit x y b).ok K = true) : PySem.W.kitOne K (.ref (He.ga K x)) (.ref (He.ga K y)) = some b := of_decide_eq_true c
theorem xf_kitT {K : PySem.W.Frag} {x : Str} {t : String} {b : Bool} (c : (XF.kitT x t b).ok K = true) : PySem.W.kitOne K (.ref (He.ga K x)) (.type t) = some b := of_decide_eq_true c
theorem xf_exm {K : PySem.W.Frag} {x y : Str} {b : Bool} (c : (XF.exm x y b).ok K = true) : PySem.W.exmOne K (.ref (He.ga K x)) (.ref (He.ga K y)) = some b := of_decide_eq_true c
abbrev AlX : Type := Bool × He.AlD
def SaysX (xf : List XF) (fa : List He.Fa) (fn : List He.DefD) (K : PySem.W.Frag) : Prop := (xf.all fun f => f.ok K) = true ∧ He.SaysD fa fn K
theorem SaysX.x {xf : List XF} {fa : List He.Fa} {fn : List He.DefD} {K : PySem.W.Frag} (c : SaysX xf fa fn K) (i : Nat) {f : XF} (h : xf[i]? = some f := by rfl) : f.ok K = true := List.all_eq_true.mp c.1 f (List.mem_of_getElem? h)
def obsX (n : Nat) (xf : List XF) (fa : List He.Fa) (fn : List He.DefD) (g : Addr → Option Obj) : AlX := (xf.all fun f => f.ok (He.frG g (He.asD g n)), He.obsD fa fn (He.frG g (He.asD g n)))
def hookX (n : Nat) (xf : List XF) (fa : List He.Fa) (fn : List He.DefD) : PySem.W.Hook where
  α := AlX
  obs := fun s => obsX n xf fa fn s.heap.get?
  val := fun _ => (true, He.valD fn)
  says := fun _ h => ∃ K : PySem.W.Frag, K.In h ∧ SaysX xf fa fn K
  of := fun _ _ e => ⟨_, He.frG_in, congrArg (fun z : AlX => z.1) e, congrArg (fun z : AlX => z.2) e⟩
  keeps := fun _ _ _ ⟨K, hK, c⟩ k => ⟨K, PySem.W.Frag.In.keeps hK k, c⟩
theorem obsX_eq {n : Nat} {xf : List XF} {fa : List He.Fa} {fn : List He.DefD} {g : Addr → Option Obj} {s : Shared} (h : ∀ a, g a = s.heap.get? a) : obsX n xf fa fn g = (hookX n xf fa fn).obs s := by
  have e : g = s.heap.get? := funext h
  rw [e] <;> rfl
/-! ### a heap without one of its lists -/
def rmv (H : Hp) (B : Addr) : Hp := fun a => if a = B then none else H a
theorem rmv_at {H : Hp} {B : Addr} : rmv H B B = none := if_pos rfl
theorem rmv_ne {H : Hp} {B a : Addr} (h : a ≠ B) : rmv H B a = H a := if_neg h
theorem rmv_ex (H : Hp) (B : Addr) : Ex (rmv H B) H := fun a o h => by
  by_cases z : a = B
  · rw [z, rmv_at] at h
    cases h
  · rw [rmv_ne z] at h
    exact h
theorem rmv_b (H : Hp) (B : Addr) : ExB B H (rmv H B) := fun a o n h => by
  rw [rmv_ne n]
  exact h
theorem rmv_in {W H : Hp} {B : Addr} (e : Ex W H) (n : W B = none) : Ex W (rmv H B) := fun a o h => by
  rw [rmv_ne (ne_of_none h n)]
  exact e _ _ h
theorem rmv_up {H : Hp} {B : Addr} {o : HO} : rmv (upd H B o) B = rmv H B := funext fun a => by
  by_cases z : a = B
  · rw [z, rmv_at, rmv_at]
  · rw [rmv_ne z, rmv_ne z, upd_ne z]
theorem rmv_mono {H H' : Hp} {B : Addr} (e : Ex H H') : Ex (rmv H B) (rmv H' B) := rmv_in ((rmv_ex H B).trans e) rmv_at
theorem rmv_dr {H H' : Hp} {B : Addr} (e : ExB B H H') : Ex (rmv H B) (rmv H' B) := rmv_in ((rmv_ex H B).keepB rmv_at e) rmv_at
/-! ### what may be shown where sys.modules is known to be a dict: lists with dicts in them, too -/
structure Sw (k n : Nat) (d : PyData) : Prop where
  sh : d.showable = true
  tx : txtOk d
  dp : d.depth ≤ k
  wd : wdt d ≤ n
structure SwA (k n : Nat) (ds : List PyData) : Prop where
  sh : PyData.showableAll ds = true
  tx : txtOks ds
  dp : PyData.depthAll ds ≤ k
  wd : wdts ds ≤ n
theorem Sh.sw {k n : Nat} {d : PyData} (h : Sh k n d) : Sw k n d := ⟨h.sh, h.tx, h.dp, h.wd⟩
theorem Sw.le {k n k2 n2 : Nat} {d : PyData} (h : Sw k n d) (hk : k ≤ k2) (hn : n ≤ n2) : Sw k2 n2 d := ⟨h.sh, h.tx, Nat.le_trans h.dp hk, Nat.le_trans h.wd hn⟩
theorem SwA.le {k n k2 n2 : Nat} {ds : List PyData} (h : SwA k n ds) (hk : k ≤ k2) (hn : n ≤ n2) : SwA k2 n2 ds := ⟨h.sh, h.tx, Nat.le_trans h.dp hk, Nat.le_trans h.wd hn⟩
theorem swa_nil : SwA 0 0 [] := ⟨rfl, trivial, Nat.le_refl 0, Nat.le_refl _⟩
theorem swa_cons {k n k2 m : Nat} {d : PyData} {ds : List PyData} (h : Sw k n d) (r : SwA k2 m ds) : SwA (max k k2) (n + 2 + m) (d :: ds) := by
  refine ⟨?_, ⟨h.tx, r.tx⟩, ?_, ?_⟩
  · show (d.showable && PyData.showableAll ds) = true
    rw [h.sh, r.sh]
    rfl
  · show max d.depth (PyData.depthAll ds) ≤ max k k2
    have := h.dp
    have := r.dp
    omega
  · show wdt d + 2 + wdts ds ≤ n + 2 + m
    have := h.wd
    have := r.wd
    omega
theorem swa_all {k n : Nat} : ∀ {ds : List PyData}, (∀ d ∈ ds, Sw k n d) → SwA k ((n + 2) * ds.length) ds
  | [], _ => ⟨rfl, trivial, Nat.zero_le _, Nat.zero_le _⟩
  | d :: ds, h => by
    have r := swa_cons (h d List.mem_cons_self) (swa_all (ds := ds) fun x hx => h x (List.mem_cons_of_mem _ hx))
    rw [Nat.max_self] at r
    refine r.le (Nat.le_refl _) ?_
    rw [List.length_cons, Nat.mul_succ]
    omega
theorem sw_tup {k n : Nat} {ds : List PyData} (h : SwA k n ds) : Sw (k + 1) (3 + n) (.tuple ds) := ⟨h.sh, h.tx, Nat.succ_le_succ h.dp, Nat.add_le_add_left h.wd 3⟩
theorem sw_lst {k n : Nat} {ds : List PyData} (h : SwA k n ds) : Sw (k + 1) (2 + n) (.list ds) := ⟨h.sh, h.tx, Nat.succ_le_succ h.dp, Nat.add_le_add_left h.wd 2⟩
theorem sw_dict0 : Sw 1 2 (.dict []) := ⟨rfl, trivial, Nat.le_of_ble_eq_true rfl, Nat.le_of_ble_eq_true rfl⟩
theorem sw_dict1 {a b : Int} (ha : a.natAbs.log2 < 1920) (hb : b.natAbs.log2 < 1920) : Sw 1 4000 (.dict [(.int a, .int b)]) := ⟨by
  show ((PyData.int a).showable && (PyData.int b).showable && true) = true
  rw [showI ha, showI hb]
  rfl, ⟨trivial, trivial, trivial⟩, Nat.le_of_ble_eq_true rfl, Nat.le_of_ble_eq_true rfl⟩
theorem sw_pair {k n : Nat} {d e : PyData} (h1 : Sw k n d) (h2 : Sw k n e) : Sw (k + 1) (2 * n + 10) (.list [d, e]) :=
  (sw_lst (swa_cons h1 (swa_cons h2 swa_nil))).le (by omega) (by omega)
/-- sys.modules stands among what is known, a dict -/
def SMK (K : PySem.W.Frag) : Prop := ∃ o es ep, K.lookup sysModules = some o ∧ o.data = .dict es ep
section
variable {X : Cx} {pins : List (Addr × Obj)} {σ : L2.St} {H : Hp} {s : Shared}
mutual
theorem Dt.readsS (S : SMK X.K) (I : Inv X pins σ H s) : ∀ (d : PyData) (v : V) (u : Value), Dt H v d → RelV v u → ∃ as, Reads s.heap u d as ∧ sysModules ∉ as
  | .none, _, _, h, r => by
    cases h
    cases r
    exact ⟨_, .none, fun z => nomatch z⟩
  | .bool b, _, _, h, r => by
    cases h
    cases r
    exact ⟨_, .bool b, fun z => nomatch z⟩
  | .int i, _, _, h, r => by
    cases h
    obtain ⟨t, rfl⟩ := r
    exact ⟨_, .int i t, fun z => nomatch z⟩
  | .str x, _, _, h, r => by
    cases h
    obtain ⟨t, rfl⟩ := r
    exact ⟨_, .str x t, fun z => nomatch z⟩
  | .list ds, _, _, h, r => by
    cases h with
    | lst hs ha =>
      cases r
      obtain ⟨its, rv, ⟨o, n, ho, hc, _, hd⟩, _⟩ := I.list (sq_of hs)
      obtain ⟨as, hr, hn⟩ := DtAll.readsS S I ds _ its ha rv
      refine ⟨_, .list ho hc hd hr, fun z => ?_⟩
      rcases List.mem_cons.mp z with z | z
      · obtain ⟨o2, es, ep, h1, h2⟩ := S
        have h3 := I.kIn _ _ h1
        rw [z, ho] at h3
        rw [← Option.some.inj h3, hd] at h2
        cases h2
      · exact hn z
  | .tuple ds, _, _, h, r => by
    cases h with
    | tup hs ha =>
      cases r
      obtain ⟨its, rv, ⟨o, ho, hc, n, hd⟩, _⟩ := I.tuple (st_of hs)
      obtain ⟨as, hr, hn⟩ := DtAll.readsS S I ds _ its ha rv
      exact ⟨_, .tuple ho hc hd hr, hn⟩
  | .dict _, _, _, h, r => by
    cases h with
    | @dic a ns hs =>
      cases r
      obtain ⟨_, hsm, ws, kv, o, es, ep, h1, h2, h3, _, h5, _⟩ := (show ObjOk X.prog X.w H s.heap a (.dK (ns.map fun p => ((Sum.inl p.1 : Key), V.int p.2))) from I.hok a _ hs)
      obtain ⟨q1, q2⟩ := kv_reads (X := X) (h := s.heap) _ _ _ kv h5
      refine ⟨_, .dict (kvs := ns.map fun p => (PyData.int p.1, PyData.int p.2)) h1 h2.1 h3 (by rw [List.map_map]; exact q1) (by rw [List.map_map]; exact q2), fun z => ?_⟩
      have z : sysModules ∈ [a] := z
      have z := List.mem_singleton.mp z
      rw [← z] at hsm
      exact absurd hsm (by simp)
theorem DtAll.readsS (S : SMK X.K) (I : Inv X pins σ H s) : ∀ (ds : List PyData) (vs : List V) (us : List Value), DtAll H vs ds → Vals vs us → ∃ as, ReadsAll s.heap us ds as ∧ sysModules ∉ as
  | [], _, _, h, r => by
    cases h
    cases r
    exact ⟨_, .nil, fun z => nomatch z⟩
  | d :: ds, _, _, h, r => by
    cases h with
    | cons h1 h2 =>
      cases r with
      | cons r1 r2 =>
        obtain ⟨as, q1, n1⟩ := Dt.readsS S I d _ _ h1 r1
        obtain ⟨bs, q2, n2⟩ := DtAll.readsS S I ds _ _ h2 r2
        refine ⟨_, .cons q1 q2, fun m => ?_⟩
        rcases List.mem_append.mp m with m | m
        · exact n1 m
        · exact n2 m
end
def rReprX : List V → Hp → VK → Prop := fun xs H Q => ∃ v d, xs = [v] ∧ Dt H v d ∧ Sw 50 10000000 d ∧ Q (.str d.shown) H
theorem call_reprX (S : SMK X.K) (hG : X.A.guards = some []) (hu : X.A.units + 64 < cLine) : CallR X (.builtin "repr") rReprX := by
  intro pins s σ H xs us Q I r h
  obtain ⟨v, d, rfl, hd, hs, q⟩ := h
  obtain ⟨u, rfl, rv⟩ := vals1 r
  have hln : d.shown.length ≤ sizeLine := Nat.le_trans (Nat.le_trans (shown_le d hs.sh hs.tx) hs.wd) (by decide)
  have fin : ∀ (a : Addr), v = .ref a → wpAny (model X.prog X.w) X.A (call (.builtin "repr") [u]) (EP X pins σ Q) X.xe s := fun a e => by
    subst e
    have e2 : u = Value.ref a := rv
    subst e2
    obtain ⟨as, hr, hn⟩ := Dt.readsS S I d _ _ hd rv
    have := hs.dp
    refine repr_of_reads' hr hs.sh (fun _ => hn) hG (by omega) (fun _ _ z => z) (fun h' t tk hk => ?_) hln
    exact ⟨.str d.shown, H, I.kept (t' := tk) hk, ⟨t, rfl⟩, q⟩
  cases hd with
  | non =>
    cases (show u = Value.none from rv)
    exact PySem.P.repr_of_none ⟨.str _, H, I.tok _, ⟨_, rfl⟩, q⟩
  | bl b =>
    cases (show u = Value.bool b from rv)
    exact PySem.P.repr_of_bool ⟨.str _, H, I.tok _, ⟨_, rfl⟩, q⟩
  | int i =>
    obtain ⟨t, rfl⟩ := (show ∃ t, u = Value.int i t from rv)
    exact PySem.P.repr_of_int (of_decide_eq_true hs.sh) ⟨.str _, H, I.tok _, ⟨_, rfl⟩, q⟩
  | str x =>
    obtain ⟨t, rfl⟩ := (show ∃ t, u = Value.str x t from rv)
    exact PySem.P.repr_of_str ⟨.str _, H, I.tok _, ⟨_, rfl⟩, q⟩ hln
  | lst a b => exact fin _ rfl
  | tup a b => exact fin _ rfl
  | dic a => exact fin _ rfl
/-! ### a text times a number -/
def repT (m : Str) (k : Int) : Str := ⟨(List.replicate k.toNat m.cps).foldl (· ++ ·) #[]⟩
def rRepS : R2 := fun x y H Q => ∃ (m : Str) (k : Int), x = .str m ∧ y = .int k ∧ 2 ≤ k ∧ k < 1000000 ∧ m.length ≠ 0 ∧ m.length * k.toNat ≤ 1000000 ∧ (repT m k).length ≤ 1000000 ∧ Q (.str (repT m k)) H
theorem op_repS : OpR X (binaryOp .Mult) rRepS := by
  intro pins s σ H x y v u Q I rx ry h
  obtain ⟨m, k, rfl, rfl, k0, k1, m0, m1, m2, q⟩ := h
  obtain ⟨t, rfl⟩ := rx
  obtain ⟨t2, rfl⟩ := ry
  have hb : (k == 1 || m.length == 0) = false := by
    rw [Bool.or_eq_false_iff]
    exact ⟨by simp; omega, by simp; omega⟩
  refine PySem.P.mul_str ?_ (fun _ _ => ?_) (fun _ _ => ?_) ?_
  · rw [decide_eq_false (by omega), decide_eq_false (by omega)]
    rfl
  · have h1 : (2 ^ 63 - 1 : Int) / 1000000 ≤ (2 ^ 63 - 1) / k := by
      refine Int.le_ediv_of_mul_le (by omega) ?_
      have : (2 ^ 63 - 1 : Int) / 1000000 * k ≤ (2 ^ 63 - 1) / 1000000 * 1000000 := Int.mul_le_mul_of_nonneg_left (by omega) (by decide)
      omega
    have h2 : m.length ≤ 1000000 := by
      have : m.length * 1 ≤ m.length * k.toNat := Nat.mul_le_mul_left _ (by omega)
      omega
    omega
  · show decide (_ > _) = false
    refine decide_eq_false ?_
    have := sizeLine_eq
    omega
  · rw [if_neg (by omega), if_neg (by rw [hb]; exact Bool.false_ne_true)]
    refine ⟨?_, ⟨.str (repT m k), H, I.tok _, ⟨_, rfl⟩, q⟩⟩
    have h9 : (repT m k).length ≤ 1000000 := m2
    have := sizeLine_eq
    show (repT m k).length ≤ sizeLine
    omega
end
/-! ### facts about the classes, by names, and sys.modules -/
def smB (K : PySem.W.Frag) : Bool := match K.lookup sysModules with
  | some o => match o.data with
    | .dict _ _ => true
    | _ => false
  | none => false
theorem smB_ok {K : PySem.W.Frag} (h : smB K = true) : SMK K := by
  unfold smB at h
  split at h
  · rename_i o e
    split at h
    · rename_i es ep e2
      exact ⟨o, es, ep, e, e2⟩
    · cases h
  · cases h
abbrev AlY : Type := Bool × AlX
def SaysY (xf : List XF) (fa : List He.Fa) (fn : List He.DefD) (K : PySem.W.Frag) : Prop := smB K = true ∧ SaysX xf fa fn K
def frY (g : Addr → Option Obj) (n : Nat) : PySem.W.Frag := He.frG g (sysModules :: He.asD g n)
def obsY (n : Nat) (xf : List XF) (fa : List He.Fa) (fn : List He.DefD) (g : Addr → Option Obj) : AlY := (smB (frY g n), xf.all fun f => f.ok (frY g n), He.obsD fa fn (frY g n))
def hookY (n : Nat) (xf : List XF) (fa : List He.Fa) (fn : List He.DefD) : PySem.W.Hook where
  α := AlY
  obs := fun s => obsY n xf fa fn s.heap.get?
  val := fun _ => (true, true, He.valD fn)
  says := fun _ h => ∃ K : PySem.W.Frag, K.In h ∧ SaysY xf fa fn K
  of := fun _ _ e => ⟨_, He.frG_in, congrArg (fun z : AlY => z.1) e, congrArg (fun z : AlY => z.2.1) e, congrArg (fun z : AlY => z.2.2) e⟩
  keeps := fun _ _ _ ⟨K, hK, c⟩ k => ⟨K, PySem.W.Frag.In.keeps hK k, c⟩
theorem obsY_eq {n : Nat} {xf : List XF} {fa : List He.Fa} {fn : List He.DefD} {g : Addr → Option Obj} {s : Shared} (h : ∀ a, g a = s.heap.get? a) : obsY n xf fa fn g = (hookY n xf fa fn).obs s := by
  have e : g = s.heap.get? := funext h
  rw [e] <;> rfl
def topS (i : Nat) : Stmt := PySem.Challenge.pw_toldback_k04_no_fractions_and_no_primes.main.body.getD i (.Pass ⟨0, 0, 0, 0⟩)
abbrev s_is_whole : Stmt := topS 17
abbrev N_is_whole : List Str := ["thing"]
theorem sc_is_whole : FnScope N_is_whole ["thing"] (defScope s_is_whole) := ⟨rfl, rfl, rfl, by decide +kernel, rfl, by decide +kernel, by decide +kernel⟩
abbrev s_common_divisor : Stmt := topS 18
abbrev N_common_divisor : List Str := ["one", "other"]
theorem sc_common_divisor : FnScope N_common_divisor ["one", "other"] (defScope s_common_divisor) := ⟨rfl, rfl, rfl, by decide +kernel, rfl, by decide +kernel, by decide +kernel⟩
abbrev s_short_row : Stmt := topS 19
abbrev N_short_row : List Str := ["modulus", "number", "most", "above", "left", "factor_above", "factor", "times"]
theorem sc_short_row : FnScope N_short_row ["modulus", "number", "most"] (defScope s_short_row) := ⟨rfl, rfl, rfl, by decide +kernel, rfl, by decide +kernel, by decide +kernel⟩
abbrev s_inverse : Stmt := topS 20
abbrev N_inverse : List Str := ["number", "prime"]
theorem sc_inverse : FnScope N_inverse ["number", "prime"] (defScope s_inverse) := ⟨rfl, rfl, rfl, by decide +kernel, rfl, by decide +kernel, by decide +kernel⟩
abbrev s_is_pair : Stmt := topS 23
abbrev N_is_pair : List Str := ["thing"]
theorem sc_is_pair : FnScope N_is_pair ["thing"] (defScope s_is_pair) := ⟨rfl, rfl, rfl, by decide +kernel, rfl, by decide +kernel, by decide +kernel⟩
abbrev s_is_fraction : Stmt := topS 24
abbrev N_is_fraction : List Str := ["thing", "top", "bottom"]
theorem sc_is_fraction : FnScope N_is_fraction ["thing"] (defScope s_is_fraction) := ⟨rfl, rfl, rfl, by decide +kernel, rfl, by decide +kernel, by decide +kernel⟩
abbrev s_is_prime : Stmt := topS 25
abbrev N_is_prime : List Str := ["thing", "divisor"]
theorem sc_is_prime : FnScope N_is_prime ["thing"] (defScope s_is_prime) := ⟨rfl, rfl, rfl, by decide +kernel, rfl, by decide +kernel, by decide +kernel⟩
abbrev s_need_fraction : Stmt := topS 26
abbrev N_need_fraction : List Str := ["thing"]
theorem sc_need_fraction : FnScope N_need_fraction ["thing"] (defScope s_need_fraction) := ⟨rfl, rfl, rfl, by decide +kernel, rfl, by decide +kernel, by decide +kernel⟩
abbrev s_need_prime : Stmt := topS 27
abbrev N_need_prime : List Str := ["thing"]
theorem sc_need_prime : FnScope N_need_prime ["thing"] (defScope s_need_prime) := ⟨rfl, rfl, rfl, by decide +kernel, rfl, by decide +kernel, by decide +kernel⟩
abbrev s_rest_by : Stmt := topS 28
abbrev N_rest_by : List Str := ["f", "p", "top", "bottom"]
theorem sc_rest_by : FnScope N_rest_by ["f", "p"] (defScope s_rest_by) := ⟨rfl, rfl, rfl, by decide +kernel, rfl, by decide +kernel, by decide +kernel⟩
abbrev s_rest_of : Stmt := topS 29
abbrev N_rest_of : List Str := ["f", "p"]
theorem sc_rest_of : FnScope N_rest_of ["f", "p"] (defScope s_rest_of) := ⟨rfl, rfl, rfl, by decide +kernel, rfl, by decide +kernel, by decide +kernel⟩
abbrev s_rests_of : Stmt := topS 30
abbrev N_rests_of : List Str := ["f", "primes", "p"]
theorem sc_rests_of : FnScope N_rests_of ["f", "primes"] (defScope s_rests_of) := ⟨rfl, rfl, rfl, by decide +kernel, rfl, by decide +kernel, by decide +kernel⟩
abbrev s__law_pool : Stmt := topS 32
abbrev N__law_pool : List Str := ["script", "k", "cell"]
theorem sc__law_pool : FnScope N__law_pool ["script", "k"] (defScope s__law_pool) := ⟨rfl, rfl, rfl, by decide +kernel, rfl, by decide +kernel, by decide +kernel⟩
abbrev s__law_take : Stmt := topS 33
abbrev N__law_take : List Str := ["pool", "many", "found", "step", "mark"]
theorem sc__law_take : FnScope N__law_take ["pool", "many"] (defScope s__law_take) := ⟨rfl, rfl, rfl, by decide +kernel, rfl, by decide +kernel, by decide +kernel⟩
abbrev s__law_far : Stmt := topS 34
abbrev N__law_far : List Str := ["pool", "turns", "found", "turn"]
theorem sc__law_far : FnScope N__law_far ["pool", "turns"] (defScope s__law_far) := ⟨rfl, rfl, rfl, by decide +kernel, rfl, by decide +kernel, by decide +kernel⟩
abbrev s__law_number : Stmt := topS 35
abbrev N__law_number : List Str := ["pool", "way"]
theorem sc__law_number : FnScope N__law_number ["pool"] (defScope s__law_number) := ⟨rfl, rfl, rfl, by decide +kernel, rfl, by decide +kernel, by decide +kernel⟩
abbrev s__law_all_primes : Stmt := topS 36
abbrev N__law_all_primes : List Str := ["p", "d"]
theorem sc__law_all_primes : FnScope N__law_all_primes [] (defScope s__law_all_primes) := ⟨rfl, rfl, rfl, by decide +kernel, rfl, by decide +kernel, by decide +kernel⟩
abbrev s__law_prime : Stmt := topS 37
abbrev N__law_prime : List Str := ["pool", "primes", "way"]
theorem sc__law_prime : FnScope N__law_prime ["pool", "primes"] (defScope s__law_prime) := ⟨rfl, rfl, rfl, by decide +kernel, rfl, by decide +kernel, by decide +kernel⟩
abbrev s__law_shared : Stmt := topS 38
abbrev N__law_shared : List Str := ["one", "other"]
theorem sc__law_shared : FnScope N__law_shared ["one", "other"] (defScope s__law_shared) := ⟨rfl, rfl, rfl, by decide +kernel, rfl, by decide +kernel, by decide +kernel⟩
abbrev s__law_fraction : Stmt := topS 39
abbrev N__law_fraction : List Str := ["pool", "primes", "top", "bottom", "way", "some", "turn", "part"]
theorem sc__law_fraction : FnScope N__law_fraction ["pool", "primes"] (defScope s__law_fraction) := ⟨rfl, rfl, rfl, by decide +kernel, rfl, by decide +kernel, by decide +kernel⟩
abbrev s__law_is_fraction : Stmt := topS 40
abbrev N__law_is_fraction : List Str := ["thing", "part"]
theorem sc__law_is_fraction : FnScope N__law_is_fraction ["thing"] (defScope s__law_is_fraction) := ⟨rfl, rfl, rfl, by decide +kernel, rfl, by decide +kernel, by decide +kernel⟩
abbrev s__law_spoilt : Stmt := topS 41
abbrev N__law_spoilt : List Str := ["pool", "f", "primes", "top", "bottom", "by", "some"]
theorem sc__law_spoilt : FnScope N__law_spoilt ["pool", "f", "primes"] (defScope s__law_spoilt) := ⟨rfl, rfl, rfl, by decide +kernel, rfl, by decide +kernel, by decide +kernel⟩
abbrev s__law_bad_primes : Stmt := topS 42
abbrev N__law_bad_primes : List Str := ["pool", "primes", "p", "q", "far", "some"]
theorem sc__law_bad_primes : FnScope N__law_bad_primes ["pool", "primes"] (defScope s__law_bad_primes) := ⟨rfl, rfl, rfl, by decide +kernel, rfl, by decide +kernel, by decide +kernel⟩
abbrev s__law_is : Stmt := topS 43
abbrev N__law_is : List Str := ["caught", "due", "kinds", "k"]
theorem sc__law_is : FnScope N__law_is ["caught", "due"] (defScope s__law_is) := ⟨rfl, rfl, rfl, by decide +kernel, rfl, by decide +kernel, by decide +kernel⟩
abbrev s__law_caught : Stmt := topS 44
abbrev N__law_caught : List Str := ["way", "f", "p", "caught", "e"]
theorem sc__law_caught : FnScope N__law_caught ["way", "f", "p"] (defScope s__law_caught) := ⟨rfl, rfl, rfl, by decide +kernel, rfl, by decide +kernel, by decide +kernel⟩
abbrev s__law_refused : Stmt := topS 45
abbrev N__law_refused : List Str := ["way", "f", "p", "due", "kept"]
theorem sc__law_refused : FnScope N__law_refused ["way", "f", "p", "due"] (defScope s__law_refused) := ⟨rfl, rfl, rfl, by decide +kernel, rfl, by decide +kernel, by decide +kernel⟩
abbrev s_law : Stmt := topS 46
abbrev N_law : List Str := ["script", "primes", "k", "pool", "f", "p", "ahead", "none", "many", "row", "at", "lists", "thing", "bad", "prime", "some", "turn", "one", "words"]
theorem sc_law : FnScope N_law ["script"] (defScope s_law) := ⟨rfl, rfl, rfl, by decide +kernel, rfl, by decide +kernel, by decide +kernel⟩
abbrev FnP (K : PySem.W.Frag) (x : Str) (st : Stmt) (f : Addr) (fd : FuncData) : Prop := FunD K x x (defArgs st) (defBody st) (defScope st) [] [] f fd
structure Ad where
  a_is_whole : Addr
  d_is_whole : FuncData
  a_common_divisor : Addr
  d_common_divisor : FuncData
  a_short_row : Addr
  d_short_row : FuncData
  a_inverse : Addr
  d_inverse : FuncData
  a_is_pair : Addr
  d_is_pair : FuncData
  a_is_fraction : Addr
  d_is_fraction : FuncData
  a_is_prime : Addr
  d_is_prime : FuncData
  a_need_fraction : Addr
  d_need_fraction : FuncData
  a_need_prime : Addr
  d_need_prime : FuncData
  a_rest_by : Addr
  d_rest_by : FuncData
  a_rest_of : Addr
  d_rest_of : FuncData
  a_rests_of : Addr
  d_rests_of : FuncData
  a__law_pool : Addr
  d__law_pool : FuncData
  a__law_take : Addr
  d__law_take : FuncData
  a__law_far : Addr
  d__law_far : FuncData
  a__law_number : Addr
  d__law_number : FuncData
  a__law_all_primes : Addr
  d__law_all_primes : FuncData
  a__law_prime : Addr
  d__law_prime : FuncData
  a__law_shared : Addr
  d__law_shared : FuncData
  a__law_fraction : Addr
  d__law_fraction : FuncData
  a__law_is_fraction : Addr
  d__law_is_fraction : FuncData
  a__law_spoilt : Addr
  d__law_spoilt : FuncData
  a__law_bad_primes : Addr
  d__law_bad_primes : FuncData
  a__law_is : Addr
  d__law_is : FuncData
  a__law_caught : Addr
  d__law_caught : FuncData
  a__law_refused : Addr
  d__law_refused : FuncData
  a_law : Addr
  d_law : FuncData
  t_PRIME_LIMIT : Tok
  k_BackError : Addr
  k_NoFraction : Addr
  k_NoPrime : Addr
  k_NoReadings : Addr
  k_NoBounds : Addr
  k_NoNumber : Addr
  k_TooFew : Addr
  k_TooMany : Addr
  k_NoText : Addr
  k_NoName : Addr
  k_NoRow : Addr
  k_NoPoly : Addr
  k_NoQuotient : Addr
  k_NoWorths : Addr
  k_NoDegrees : Addr
structure Txt (K : PySem.W.Frag) (mg : Str → Option Value) (z : Ad) : Prop where
  F_is_whole : FnP K "is_whole" s_is_whole z.a_is_whole z.d_is_whole
  g_is_whole : mg "is_whole" = some (.ref z.a_is_whole)
  b_is_whole : Binds K z.d_is_whole ["thing"] []
  F_common_divisor : FnP K "common_divisor" s_common_divisor z.a_common_divisor z.d_common_divisor
  g_common_divisor : mg "common_divisor" = some (.ref z.a_common_divisor)
  b_common_divisor : Binds K z.d_common_divisor ["one", "other"] []
  F_short_row : FnP K "short_row" s_short_row z.a_short_row z.d_short_row
  g_short_row : mg "short_row" = some (.ref z.a_short_row)
  b_short_row : Binds K z.d_short_row ["modulus", "number", "most"] []
  F_inverse : FnP K "inverse" s_inverse z.a_inverse z.d_inverse
  g_inverse : mg "inverse" = some (.ref z.a_inverse)
  b_inverse : Binds K z.d_inverse ["number", "prime"] []
  F_is_pair : FnP K "is_pair" s_is_pair z.a_is_pair z.d_is_pair
  g_is_pair : mg "is_pair" = some (.ref z.a_is_pair)
  b_is_pair : Binds K z.d_is_pair ["thing"] []
  F_is_fraction : FnP K "is_fraction" s_is_fraction z.a_is_fraction z.d_is_fraction
  g_is_fraction : mg "is_fraction" = some (.ref z.a_is_fraction)
  b_is_fraction : Binds K z.d_is_fraction ["thing"] []
  F_is_prime : FnP K "is_prime" s_is_prime z.a_is_prime z.d_is_prime
  g_is_prime : mg "is_prime" = some (.ref z.a_is_prime)
  b_is_prime : Binds K z.d_is_prime ["thing"] []
  F_need_fraction : FnP K "need_fraction" s_need_fraction z.a_need_fraction z.d_need_fraction
  g_need_fraction : mg "need_fraction" = some (.ref z.a_need_fraction)
  b_need_fraction : Binds K z.d_need_fraction ["thing"] []
  F_need_prime : FnP K "need_prime" s_need_prime z.a_need_prime z.d_need_prime
  g_need_prime : mg "need_prime" = some (.ref z.a_need_prime)
  b_need_prime : Binds K z.d_need_prime ["thing"] []
  F_rest_by : FnP K "rest_by" s_rest_by z.a_rest_by z.d_rest_by
  g_rest_by : mg "rest_by" = some (.ref z.a_rest_by)
  b_rest_by : Binds K z.d_rest_by ["f", "p"] []
  F_rest_of : FnP K "rest_of" s_rest_of z.a_rest_of z.d_rest_of
  g_rest_of : mg "rest_of" = some (.ref z.a_rest_of)
  b_rest_of : Binds K z.d_rest_of ["f", "p"] []
  F_rests_of : FnP K "rests_of" s_rests_of z.a_rests_of z.d_rests_of
  g_rests_of : mg "rests_of" = some (.ref z.a_rests_of)
  b_rests_of : Binds K z.d_rests_of ["f", "primes"] []
  F__law_pool : FnP K "_law_pool" s__law_pool z.a__law_pool z.d__law_pool
  g__law_pool : mg "_law_pool" = some (.ref z.a__law_pool)
  b__law_pool : Binds K z.d__law_pool ["script", "k"] []
  F__law_take : FnP K "_law_take" s__law_take z.a__law_take z.d__law_take
  g__law_take : mg "_law_take" = some (.ref z.a__law_take)
  b__law_take : Binds K z.d__law_take ["pool", "many"] []
  F__law_far : FnP K "_law_far" s__law_far z.a__law_far z.d__law_far
  g__law_far : mg "_law_far" = some (.ref z.a__law_far)
  b__law_far : Binds K z.d__law_far ["pool", "turns"] []
  F__law_number : FnP K "_law_number" s__law_number z.a__law_number z.d__law_number
  g__law_number : mg "_law_number" = some (.ref z.a__law_number)
  b__law_number : Binds K z.d__law_number ["pool"] []
  F__law_all_primes : FnP K "_law_all_primes" s__law_all_primes z.a__law_all_primes z.d__law_all_primes
  g__law_all_primes : mg "_law_all_primes" = some (.ref z.a__law_all_primes)
  b__law_all_primes : Binds K z.d__law_all_primes [] []
  F__law_prime : FnP K "_law_prime" s__law_prime z.a__law_prime z.d__law_prime
  g__law_prime : mg "_law_prime" = some (.ref z.a__law_prime)
  b__law_prime : Binds K z.d__law_prime ["pool", "primes"] []
  F__law_shared : FnP K "_law_shared" s__law_shared z.a__law_shared z.d__law_shared
  g__law_shared : mg "_law_shared" = some (.ref z.a__law_shared)
  b__law_shared : Binds K z.d__law_shared ["one", "other"] []
  F__law_fraction : FnP K "_law_fraction" s__law_fraction z.a__law_fraction z.d__law_fraction
  g__law_fraction : mg "_law_fraction" = some (.ref z.a__law_fraction)
  b__law_fraction : Binds K z.d__law_fraction ["pool", "primes"] []
  F__law_is_fraction : FnP K "_law_is_fraction" s__law_is_fraction z.a__law_is_fraction z.d__law_is_fraction
  g__law_is_fraction : mg "_law_is_fraction" = some (.ref z.a__law_is_fraction)
  b__law_is_fraction : Binds K z.d__law_is_fraction ["thing"] []
  F__law_spoilt : FnP K "_law_spoilt" s__law_spoilt z.a__law_spoilt z.d__law_spoilt
  g__law_spoilt : mg "_law_spoilt" = some (.ref z.a__law_spoilt)
  b__law_spoilt : Binds K z.d__law_spoilt ["pool", "f", "primes"] []
  F__law_bad_primes : FnP K "_law_bad_primes" s__law_bad_primes z.a__law_bad_primes z.d__law_bad_primes
  g__law_bad_primes : mg "_law_bad_primes" = some (.ref z.a__law_bad_primes)
  b__law_bad_primes : Binds K z.d__law_bad_primes ["pool", "primes"] []
  F__law_is : FnP K "_law_is" s__law_is z.a__law_is z.d__law_is
  g__law_is : mg "_law_is" = some (.ref z.a__law_is)
  b__law_is : Binds K z.d__law_is ["caught", "due"] []
  F__law_caught : FnP K "_law_caught" s__law_caught z.a__law_caught z.d__law_caught
  g__law_caught : mg "_law_caught" = some (.ref z.a__law_caught)
  b__law_caught : Binds K z.d__law_caught ["way", "f", "p"] []
  F__law_refused : FnP K "_law_refused" s__law_refused z.a__law_refused z.d__law_refused
  g__law_refused : mg "_law_refused" = some (.ref z.a__law_refused)
  b__law_refused : Binds K z.d__law_refused ["way", "f", "p", "due"] []
  F_law : FnP K "law" s_law z.a_law z.d_law
  g_law : mg "law" = some (.ref z.a_law)
  b_law : Binds K z.d_law ["script"] []
  m_isinstance : mg "isinstance" = none
  m_bool : mg "bool" = none
  m_int : mg "int" = none
  m_len : mg "len" = none
  m_tuple : mg "tuple" = none
  m_list : mg "list" = none
  m_range : mg "range" = none
  m_abs : mg "abs" = none
  m_max : mg "max" = none
  m_str : mg "str" = none
  m_ValueError : mg "ValueError" = none
  m_repr : mg "repr" = none
  m_min : mg "min" = none
  c_PRIME_LIMIT : mg "PRIME_LIMIT" = some (.int 1000 z.t_PRIME_LIMIT)
  k_BackError : mg "BackError" = some (.ref z.k_BackError)
  x_BackError : ExcFacts K z.k_BackError
  k_NoFraction : mg "NoFraction" = some (.ref z.k_NoFraction)
  x_NoFraction : ExcFacts K z.k_NoFraction
  k_NoPrime : mg "NoPrime" = some (.ref z.k_NoPrime)
  x_NoPrime : ExcFacts K z.k_NoPrime
  k_NoReadings : mg "NoReadings" = some (.ref z.k_NoReadings)
  x_NoReadings : ExcFacts K z.k_NoReadings
  k_NoBounds : mg "NoBounds" = some (.ref z.k_NoBounds)
  x_NoBounds : ExcFacts K z.k_NoBounds
  k_NoNumber : mg "NoNumber" = some (.ref z.k_NoNumber)
  x_NoNumber : ExcFacts K z.k_NoNumber
  k_TooFew : mg "TooFew" = some (.ref z.k_TooFew)
  x_TooFew : ExcFacts K z.k_TooFew
  k_TooMany : mg "TooMany" = some (.ref z.k_TooMany)
  x_TooMany : ExcFacts K z.k_TooMany
  k_NoText : mg "NoText" = some (.ref z.k_NoText)
  x_NoText : ExcFacts K z.k_NoText
  k_NoName : mg "NoName" = some (.ref z.k_NoName)
  x_NoName : ExcFacts K z.k_NoName
  k_NoRow : mg "NoRow" = some (.ref z.k_NoRow)
  x_NoRow : ExcFacts K z.k_NoRow
  k_NoPoly : mg "NoPoly" = some (.ref z.k_NoPoly)
  x_NoPoly : ExcFacts K z.k_NoPoly
  k_NoQuotient : mg "NoQuotient" = some (.ref z.k_NoQuotient)
  x_NoQuotient : ExcFacts K z.k_NoQuotient
  k_NoWorths : mg "NoWorths" = some (.ref z.k_NoWorths)
  x_NoWorths : ExcFacts K z.k_NoWorths
  k_NoDegrees : mg "NoDegrees" = some (.ref z.k_NoDegrees)
  x_NoDegrees : ExcFacts K z.k_NoDegrees
  xc_NoFraction : L2.ExcC K z.k_NoFraction
  xs_NoFraction : PySem.W.findIn K (.ref z.k_NoFraction) "__str__" = some (some (.builtin "BaseException.__str__"))
  kv_NoFraction : PySem.W.kitOne K (.ref z.k_NoFraction) (.type "ValueError") = some true
  xm_NoFraction : PySem.W.exmOne K (.ref z.k_NoFraction) (.ref z.k_BackError) = some true
  ki_NoFraction_BackError : PySem.W.kitOne K (.ref z.k_NoFraction) (.ref z.k_BackError) = some true
  ki_NoFraction_NoFraction : PySem.W.kitOne K (.ref z.k_NoFraction) (.ref z.k_NoFraction) = some true
  ki_NoFraction_NoPrime : PySem.W.kitOne K (.ref z.k_NoFraction) (.ref z.k_NoPrime) = some false
  ki_NoFraction_NoReadings : PySem.W.kitOne K (.ref z.k_NoFraction) (.ref z.k_NoReadings) = some false
  ki_NoFraction_NoBounds : PySem.W.kitOne K (.ref z.k_NoFraction) (.ref z.k_NoBounds) = some false
  ki_NoFraction_NoNumber : PySem.W.kitOne K (.ref z.k_NoFraction) (.ref z.k_NoNumber) = some false
  ki_NoFraction_TooFew : PySem.W.kitOne K (.ref z.k_NoFraction) (.ref z.k_TooFew) = some false
  ki_NoFraction_TooMany : PySem.W.kitOne K (.ref z.k_NoFraction) (.ref z.k_TooMany) = some false
  ki_NoFraction_NoText : PySem.W.kitOne K (.ref z.k_NoFraction) (.ref z.k_NoText) = some false
  ki_NoFraction_NoName : PySem.W.kitOne K (.ref z.k_NoFraction) (.ref z.k_NoName) = some false
  ki_NoFraction_NoRow : PySem.W.kitOne K (.ref z.k_NoFraction) (.ref z.k_NoRow) = some false
  ki_NoFraction_NoPoly : PySem.W.kitOne K (.ref z.k_NoFraction) (.ref z.k_NoPoly) = some false
  ki_NoFraction_NoQuotient : PySem.W.kitOne K (.ref z.k_NoFraction) (.ref z.k_NoQuotient) = some false
  ki_NoFraction_NoWorths : PySem.W.kitOne K (.ref z.k_NoFraction) (.ref z.k_NoWorths) = some false
  ki_NoFraction_NoDegrees : PySem.W.kitOne K (.ref z.k_NoFraction) (.ref z.k_NoDegrees) = some false
  xc_NoPrime : L2.ExcC K z.k_NoPrime
  xs_NoPrime : PySem.W.findIn K (.ref z.k_NoPrime) "__str__" = some (some (.builtin "BaseException.__str__"))
  kv_NoPrime : PySem.W.kitOne K (.ref z.k_NoPrime) (.type "ValueError") = some true
  xm_NoPrime : PySem.W.exmOne K (.ref z.k_NoPrime) (.ref z.k_BackError) = some true
  ki_NoPrime_BackError : PySem.W.kitOne K (.ref z.k_NoPrime) (.ref z.k_BackError) = some true
  ki_NoPrime_NoFraction : PySem.W.kitOne K (.ref z.k_NoPrime) (.ref z.k_NoFraction) = some false
  ki_NoPrime_NoPrime : PySem.W.kitOne K (.ref z.k_NoPrime) (.ref z.k_NoPrime) = some true
  ki_NoPrime_NoReadings : PySem.W.kitOne K (.ref z.k_NoPrime) (.ref z.k_NoReadings) = some false
  ki_NoPrime_NoBounds : PySem.W.kitOne K (.ref z.k_NoPrime) (.ref z.k_NoBounds) = some false
  ki_NoPrime_NoNumber : PySem.W.kitOne K (.ref z.k_NoPrime) (.ref z.k_NoNumber) = some false
  ki_NoPrime_TooFew : PySem.W.kitOne K (.ref z.k_NoPrime) (.ref z.k_TooFew) = some false
  ki_NoPrime_TooMany : PySem.W.kitOne K (.ref z.k_NoPrime) (.ref z.k_TooMany) = some false
  ki_NoPrime_NoText : PySem.W.kitOne K (.ref z.k_NoPrime) (.ref z.k_NoText) = some false
  ki_NoPrime_NoName : PySem.W.kitOne K (.ref z.k_NoPrime) (.ref z.k_NoName) = some false
  ki_NoPrime_NoRow : PySem.W.kitOne K (.ref z.k_NoPrime) (.ref z.k_NoRow) = some false
  ki_NoPrime_NoPoly : PySem.W.kitOne K (.ref z.k_NoPrime) (.ref z.k_NoPoly) = some false
  ki_NoPrime_NoQuotient : PySem.W.kitOne K (.ref z.k_NoPrime) (.ref z.k_NoQuotient) = some false
  ki_NoPrime_NoWorths : PySem.W.kitOne K (.ref z.k_NoPrime) (.ref z.k_NoWorths) = some false
  ki_NoPrime_NoDegrees : PySem.W.kitOne K (.ref z.k_NoPrime) (.ref z.k_NoDegrees) = some false
  sm : SMK K
section
variable {P : Program} {w : World} {K : PySem.W.Frag} {mg : Str → Option Value} {base : Heap} {z : Ad}
def sp_is_whole : Sp := fun vs H Q _ => ∃ v d, vs = [v] ∧ Dt H v d ∧ Q (.bl (dWhole d)) H
theorem ok_is_whole (T : Txt K mg z) : FnOk P w K mg base CX0 1 z.a_is_whole z.d_is_whole ["thing"] (sp_is_whole) := by
  refine T.F_is_whole.ok sc_is_whole (fun vs H Q E h => ?_) (fun cdv A outer s H vs Q E hr h => ?_)
  · obtain ⟨v, d, rfl, _⟩ := h
    rfl
  · obtain ⟨v, d, rfl, hd, q⟩ := h
    refine ⟨_, (PSs.nox (pss_one (ps_ret (pe_and (pe_callB (r := rIsi K) call_isi (by rfl) T.m_isinstance (by decide +kernel) (pa_cons (pv 0) (pa_cons (pe_bltn (v := .ty "int") (by rfl) T.m_int (by decide +kernel) rfl) pa_nil))) (pe_one (pe_not (pe_callB (r := rIsi K) call_isi (by rfl) T.m_isinstance (by decide +kernel) (pa_cons (pv 0) (pa_cons (pe_bltn (v := .ty "bool") (by rfl) T.m_bool (by decide +kernel) rfl) pa_nil))))))))), ?_⟩
    refine ⟨v, rfl, _, _, _, _, _, rfl, .ty _, (hd).ty, kit_ty ( kit_int d), dInt d, rfl, ?_⟩
    cases d with
    | int i => exact itT rfl ⟨v, rfl, _, _, _, _, _, rfl, .ty _, (hd).ty, kit_ty ( kit_bool _), _, rfl, q⟩
    | bool b => exact itT rfl ⟨v, rfl, _, _, _, _, _, rfl, .ty _, (hd).ty, kit_ty ( kit_bool _), _, rfl, q⟩
    | none => exact itF rfl q
    | str x => exact itF rfl q
    | list x => exact itF rfl q
    | tuple x => exact itF rfl q
    | dict x => exact itF rfl q
def sp_common_divisor : Sp := fun vs H Q _ => ∃ a b : Int, vs = [.int a, .int b] ∧ 0 < b ∧ Q (.int (Int.gcd a b)) H
theorem ok_common_divisor (T : Txt K mg z) : FnOk P w K mg base CX0 1 z.a_common_divisor z.d_common_divisor ["one", "other"] (sp_common_divisor) := by
  refine T.F_common_divisor.ok sc_common_divisor (fun vs H Q E h => ?_) (fun cdv A outer s H vs Q E hr h => ?_)
  · obtain ⟨a, b, rfl, _⟩ := h
    rfl
  · obtain ⟨a, b, rfl, hb, q⟩ := h
    refine ⟨_, (PSs.nox (pss_cons (ps_while PassesOwn.never (pt_cmpR op_ne (pv 1) pe_int (nomark _)) (pss_one (ps_par (i := 0) (j := 1) (by rfl) sc_common_divisor.nd rfl rfl (by decide) rfl rfl (pa_cons (pv 1) (pa_cons (pe_op op_mod (pv 0) (pv 1)) pa_nil)) (by rfl))))
      (pss_one (ps_ret (pv 0))))), ?_⟩
    refine ⟨fun m σ H' => ∃ x y : Int, σ = [some (.int x), some (.int y)] ∧ H' = H ∧ 0 ≤ y ∧ (y = 0 → 0 ≤ x) ∧ Int.gcd x y = Int.gcd a b ∧ m = y.toNat, ⟨b.toNat, a, b, rfl, rfl, by omega, by omega, rfl, rfl⟩, fun m σ H' hW => ?_⟩
    obtain ⟨x, y, rfl, rfl, hy, hx, hg, rfl⟩ := hW
    refine ⟨.int y, rfl, rfl, _, rfl, it2 (fun e => ?_) (fun e => ?_)⟩
    · rw [dI] at e
      have e : y ≠ 0 := by simpa using e
      refine ⟨fun σ2 H2 => σ2 = [some (.int y), some (.int (x % y))] ∧ H2 = H', fun σ2 H2 hn => ?_, ?_⟩
      · obtain ⟨rfl, rfl⟩ := hn
        have h1 : 0 ≤ x % y := Int.emod_nonneg x e
        have h2 : x % y < y := Int.emod_lt_of_pos x (by omega)
        exact ⟨(x % y).toNat, by omega, y, x % y, rfl, rfl, h1, by omega, by rw [gcd_step, hg], rfl⟩
      · refine ⟨.int y, rfl, .int x, rfl, .int y, rfl, x, y, rfl, rfl, (show (0 : Int) < y by omega), _, _, rfl, rfl, rfl⟩
    · rw [dI] at e
      have e : y = 0 := by simpa using e
      subst e
      have h0 := hx rfl
      refine ⟨.int x, rfl, ?_⟩
      rw [← hg, Int.gcd_zero_right] at q
      rw [show x = ((x.natAbs : Nat) : Int) by omega]
      exact q
def sp_short_row : Sp := fun vs H Q _ => ∃ m n k : Int, vs = [.int m, .int n, .int k] ∧ 0 ≤ n ∧ n < m ∧ 0 ≤ k ∧ m.natAbs < 2 ^ 250 ∧ ∀ l f p H', Row m n k l f → Ex H H' → H p = none → H' p = some (.tup [.int l, .int f]) → Q (.ref p) H'
theorem ok_short_row (T : Txt K mg z) : FnOk P w K mg base CX0 1 z.a_short_row z.d_short_row ["modulus", "number", "most"] (sp_short_row) := by
  refine T.F_short_row.ok sc_short_row (fun vs H Q E h => ?_) (fun cdv A outer s H vs Q E hr h => ?_)
  · obtain ⟨m, n, k, rfl, _⟩ := h
    rfl
  · obtain ⟨m, n, k, rfl, n0, n1, k0, hm, q⟩ := h
    refine ⟨_, (PSs.nox (pss_cons (ps_par (i := 3) (j := 4) (by rfl) sc_short_row.nd rfl rfl (by decide) rfl rfl (pa_cons (pv 0) (pa_cons (pv 1) pa_nil)) (by rfl))
      (pss_cons (ps_asg (pe_tup (pa_cons pe_int (pa_cons pe_int pa_nil))) (pg_tup (by rfl) (pgs_cons (pg_name (i := 5) sc_short_row.nd rfl (.inl rfl)) (pgs_cons (pg_name (i := 6) sc_short_row.nd rfl (.inl rfl)) pgs_nil))))
      (pss_cons (ps_while PassesOwn.never (pt_cmpR op_gt (pv 4) (pv 2) (nomark _)) (pss_cons (ps_set (i := 7) sc_short_row.nd rfl (.inl rfl) (pe_op op_fdivW (pv 3) (pv 4)))
      (pss_cons (ps_par (i := 3) (j := 4) (by rfl) sc_short_row.nd rfl rfl (by decide) rfl rfl (pa_cons (pv 4) (pa_cons (pe_op op_sub (pv 3) (pe_op op_mulW (pv 7) (pv 4))) pa_nil)) (by rfl))
      (pss_one (ps_par (i := 5) (j := 6) (by rfl) sc_short_row.nd rfl rfl (by decide) rfl rfl (pa_cons (pv 6) (pa_cons (pe_op op_sub (pv 5) (pe_op op_mulW (pv 7) (pv 6))) pa_nil)) (by rfl))))))
      (pss_one (ps_ret (pe_tup (pa_cons (pv 4) (pa_cons (pv 6) pa_nil))))))))), ?_⟩
    refine ⟨.int m, rfl, .int n, rfl, _, _, rfl, sz_of (Nat.le_of_ble_eq_true rfl), fun p0 hp0 => ?_⟩
    refine ⟨p0, _, rfl, .inl (.inl upd_same), rfl, .int 0, [.int 1], rfl, .int 1, [], rfl, rfl, ?_⟩
    have e0 : Ex H (upd H p0 (.tup [.int 0, .int 1])) := Ex.new hp0
    show tSeq _ _ _ _ (upd H p0 (.tup [.int 0, .int 1]))
    generalize upd H p0 (.tup [.int 0, .int 1]) = H0 at e0
    refine ⟨fun c σ H' => ∃ ab l fa f t ta s y7, σ = [some (.int m), some (.int n), some (.int k), some (.int ab), some (.int l), some (.int fa), some (.int f), y7] ∧ H' = H0 ∧ EInv m n ab l fa f t ta s ∧ (k < ab ∨ (f = 1 ∧ fa = 0 ∧ ab = m)) ∧ c = l.toNat,
      ⟨n.toNat, m, n, 0, 1, 0, 1, 1, none, rfl, rfl, ⟨by omega, by omega, by decide, .inl rfl, n0, n1, Int.le_refl _, by decide, by decide⟩, .inr ⟨rfl, rfl, rfl⟩, rfl⟩, fun c σ H' hW => ?_⟩
    obtain ⟨ab, l, fa, f, t, ta, s, y7, rfl, rfl, I, hx, rfl⟩ := hW
    refine ⟨.int l, rfl, .int k, rfl, l, k, rfl, rfl, _, rfl, it2 (fun e => ?_) (fun e => ?_)⟩
    · have e : k < l := of_decide_eq_true e
      have hl : 0 < l := by omega
      obtain ⟨z1, z2⟩ := I.size
      have z2 := z2 hl
      have la := I.la
      have am := I.am
      have w1 : l.natAbs < 2 ^ 250 := by omega
      have d0 : 0 ≤ ab / l := Int.ediv_nonneg (by omega) (by omega)
      have d1 : ab / l ≤ ab := Int.ediv_le_self l (show 0 ≤ ab by omega)
      have w2 : (ab / l).natAbs < 2 ^ 250 := by omega
      have w3 : f.natAbs < 2 ^ 250 := by omega
      refine ⟨fun σ2 H2 => σ2 = [some (.int m), some (.int n), some (.int k), some (.int l), some (.int (ab - ab / l * l)), some (.int f), some (.int (fa - ab / l * f)), some (.int (ab / l))] ∧ H2 = H', fun σ2 H2 hn => ?_, ?_⟩
      · obtain ⟨rfl, rfl⟩ := hn
        have I2 := I.step hl
        have l2 := I2.la
        have l3 := I2.l0
        exact ⟨(ab - ab / l * l).toNat, by omega, l, _, f, _, _, _, _, _, rfl, rfl, I2, .inl e, rfl⟩
      · refine ⟨.int ab, rfl, .int l, rfl, ab, l, rfl, rfl, wide_div (b := 250) hl w1 (by decide) (by decide), ?_⟩
        refine ⟨.int l, rfl, .int ab, rfl, .int (ab / l), rfl, .int l, rfl, _, _, rfl, rfl, wide_mul w2 w1 (by decide) (by decide) (by decide), _, _, rfl, rfl, _, _, rfl, ?_⟩
        exact ⟨.int f, rfl, .int fa, rfl, .int (ab / l), rfl, .int f, rfl, _, _, rfl, rfl, wide_mul w2 w3 (by decide) (by decide) (by decide), _, _, rfl, rfl, _, _, rfl, rfl, rfl⟩
    · have e : ¬ k < l := of_decide_eq_false e
      refine ⟨.int l, rfl, .int f, rfl, sz_of (Nat.le_of_ble_eq_true rfl), fun p hp => ?_⟩
      exact q l f p _ ⟨ab, fa, t, ta, s, I, by omega, hx⟩ (e0.trans (Ex.new hp)) (fresh_back e0 hp) upd_same
def sp_inverse : Sp := fun vs H Q _ => ∃ a p : Int, vs = [.int a, .int p] ∧ 1 < p ∧ p.natAbs < 2 ^ 250 ∧ Int.gcd a p = 1 ∧ ∀ r H', 0 ≤ r → r < p → r * a % p = 1 → Ex H H' → Q (.int r) H'
theorem ok_inverse (T : Txt K mg z) : FnOk P w K mg base CX0 2 z.a_inverse z.d_inverse ["number", "prime"] (sp_inverse) := by
  refine T.F_inverse.ok sc_inverse (fun vs H Q E h => ?_) (fun cdv A outer s H vs Q E hr h => ?_)
  · obtain ⟨a, p, rfl, _⟩ := h
    rfl
  · obtain ⟨a, p, rfl, hp, hz, hg, q⟩ := h
    refine ⟨_, (PSs.nox (pss_one (ps_ret (pe_op op_mod (pe_ix (r := rIxT K) ix_tup (pe_call (ok_short_row T) hr (by rfl) T.g_short_row T.F_short_row.kp T.b_short_row .nil pass0 (pa_cons (pv 1) (pa_cons (pe_op op_mod (pv 0) (pv 1)) (pa_cons pe_int pa_nil)))) pe_int (fun _ _ => rfl)) (pv 1))))), ?_⟩
    have m0 := Int.emod_nonneg a (show p ≠ 0 by omega)
    have m1 := Int.emod_lt_of_pos a (show 0 < p by omega)
    refine ⟨.int p, rfl, .int a, rfl, .int p, rfl, a, p, rfl, rfl, (show 0 < p by omega), p, a % p, 1, rfl, m0, m1, by decide, hz, fun l f t H1 hR e1 _ h1 => ?_⟩
    obtain ⟨_, hi⟩ := row_inv hR hp hg
    refine ⟨t, _, 1, .int f, rfl, rfl, .inl (.inl h1), rfl, .int p, rfl, f, p, rfl, rfl, (show 0 < p by omega), ?_⟩
    exact q _ H1 (Int.emod_nonneg f (by omega)) (Int.emod_lt_of_pos f (by omega)) hi e1
def sp_is_pair : Sp := fun vs H Q _ => ∃ v d, vs = [v] ∧ Dt H v d ∧ Q (.bl (dPair d)) H
theorem ok_is_pair (T : Txt K mg z) : FnOk P w K mg base CX0 1 z.a_is_pair z.d_is_pair ["thing"] (sp_is_pair) := by
  refine T.F_is_pair.ok sc_is_pair (fun vs H Q E h => ?_) (fun cdv A outer s H vs Q E hr h => ?_)
  · obtain ⟨v, d, rfl, _⟩ := h
    rfl
  · obtain ⟨v, d, rfl, hd, q⟩ := h
    refine ⟨_, (PSs.nox (pss_one (ps_ret (pe_and (pe_callB (r := rIsi K) call_isi (by rfl) T.m_isinstance (by decide +kernel) (pa_cons (pv 0) (pa_cons (pe_bltn (v := .ty "tuple") (by rfl) T.m_tuple (by decide +kernel) rfl) pa_nil))) (pe_one (pe_cmpR op_eq (pe_callB (r := rLenS K) call_len_seq (by rfl) T.m_len (by decide +kernel) (pa_cons (pv 0) pa_nil)) pe_int (nomark _))))))), ?_⟩
    refine ⟨v, rfl, _, _, _, _, _, rfl, .ty _, (hd).ty, kit_ty ( kit_tup d), dTup d, rfl, ?_⟩
    cases d with
    | tuple ds =>
      obtain ⟨a, xs, rfl, ha, hx⟩ := hd.tup_get
      refine itT rfl ⟨_, rfl, a, xs, rfl, .inr (.inl (.inl ha)), rfl, ?_⟩
      rw [dI, hx.len]
      have e : dPair (.tuple ds) = decide ((ds.length : Int) = 2) := by
        show decide (ds.length = 2) = _
        by_cases z : ds.length = 2
        · rw [decide_eq_true z, decide_eq_true (by omega)]
        · rw [decide_eq_false z, decide_eq_false (by omega)]
      rw [← e]
      exact q
    | int i => exact itF rfl q
    | bool b => exact itF rfl q
    | none => exact itF rfl q
    | str x => exact itF rfl q
    | list x => exact itF rfl q
    | dict x => exact itF rfl q
def sp_is_fraction : Sp := fun vs H Q _ => ∃ v d, vs = [v] ∧ Dt H v d ∧ Q (.bl (dFrac d)) H
theorem ok_is_fraction (T : Txt K mg z) : FnOk P w K mg base CX0 2 z.a_is_fraction z.d_is_fraction ["thing"] (sp_is_fraction) := by
  refine T.F_is_fraction.ok sc_is_fraction (fun vs H Q E h => ?_) (fun cdv A outer s H vs Q E hr h => ?_)
  · obtain ⟨v, d, rfl, _⟩ := h
    rfl
  · obtain ⟨v, d, rfl, hd, q⟩ := h
    refine ⟨_, (PSs.nox (pss_cons (ps_if (pt_not (pt_val (pe_call (ok_is_pair T) hr (by rfl) T.g_is_pair T.F_is_pair.kp T.b_is_pair .nil pass0 (pa_cons (pv 0) pa_nil)))) (pss_one (ps_ret pe_bl)) pss_nil)
      (pss_cons (ps_asg (pv 0) (pg_tup (by rfl) (pgs_cons (pg_name (i := 1) sc_is_fraction.nd rfl (.inl rfl)) (pgs_cons (pg_name (i := 2) sc_is_fraction.nd rfl (.inl rfl)) pgs_nil))))
      (pss_cons (ps_if (PW.pt (pw_or (pt_not (pt_val (pe_call (ok_is_whole T) hr (by rfl) T.g_is_whole T.F_is_whole.kp T.b_is_whole .nil pass0 (pa_cons (pv 1) pa_nil)))) (pw_or (pt_not (pt_val (pe_call (ok_is_whole T) hr (by rfl) T.g_is_whole T.F_is_whole.kp T.b_is_whole .nil pass0 (pa_cons (pv 2) pa_nil)))) (pw_or1 (pt_cmpR op_lt (pv 2) pe_int (nomark _)))))) (pss_one (ps_ret pe_bl)) pss_nil)
      (pss_one (ps_ret (pe_cmpR op_eq (pe_call (ok_common_divisor T) hr (by rfl) T.g_common_divisor T.F_common_divisor.kp T.b_common_divisor .nil pass0 (pa_cons (pv 1) (pa_cons (pv 2) pa_nil))) pe_int (nomark _)))))))), ?_⟩
    refine ⟨v, rfl, v, d, rfl, hd, _, rfl, it2 (fun e => ?_) (fun e => ?_)⟩
    · have e : dPair d = false := by simpa using e
      rw [dFrac_pair e] at q
      exact q
    · have e : dPair d = true := by simpa using e
      obtain ⟨d1, d2, rfl⟩ := dPair_get e
      obtain ⟨a, xs, rfl, ha, hx⟩ := hd.tup_get
      cases hx with
      | @cons x1 _ _ _ h1 hx => cases hx with
        | @cons x2 _ _ _ h2 hx =>
          cases hx
          refine ⟨.ref a, rfl, a, [x1, x2], rfl, .inl (.inl ha), rfl, x1, [x2], rfl, x2, [], rfl, rfl, ?_⟩
          refine ⟨x1, rfl, x1, d1, rfl, h1, _, rfl, it2 (fun e1 => ?_) (fun e1 => ?_)⟩
          · have z : dFrac (.tuple [d1, d2]) = false := by
              cases d1 <;> first | rfl | exact nomatch e1
            rw [z] at q
            exact itT rfl q
          · have e1 : dWhole d1 = true := by simpa using e1
            obtain ⟨n, rfl⟩ := dWhole_get e1
            cases h1
            refine ⟨x2, rfl, x2, d2, rfl, h2, _, rfl, it2 (fun e2 => ?_) (fun e2 => ?_)⟩
            · have z : dFrac (.tuple [.int n, d2]) = false := by
                cases d2 <;> first | rfl | exact nomatch e2
              rw [z] at q
              exact itT rfl q
            · have e2 : dWhole d2 = true := by simpa using e2
              obtain ⟨m, rfl⟩ := dWhole_get e2
              cases h2
              refine ⟨_, rfl, m, 1, rfl, rfl, _, rfl, it2 (fun e3 => ?_) (fun e3 => ?_)⟩
              · have e3 : m < 1 := of_decide_eq_true e3
                have z : dFrac (.tuple [.int n, .int m]) = false := by
                  show (decide (1 ≤ m) && decide (Int.gcd n m = 1)) = false
                  rw [decide_eq_false (by omega)]
                  rfl
                rw [z] at q
                exact q
              · have e3 : ¬ m < 1 := of_decide_eq_false e3
                refine ⟨_, rfl, _, rfl, n, m, rfl, by omega, rfl, ?_⟩
                have z : dFrac (.tuple [.int n, .int m]) = decide (V.int ((Int.gcd n m : Nat) : Int) = V.int 1) := by
                  show (decide (1 ≤ m) && decide (Int.gcd n m = 1)) = _
                  rw [decide_eq_true (by omega), Bool.true_and, dI]
                  by_cases y : Int.gcd n m = 1
                  · rw [decide_eq_true y, decide_eq_true (by omega)]
                  · rw [decide_eq_false y, decide_eq_false (by omega)]
                rw [z] at q
                exact q
def sp_is_prime : Sp := fun vs H Q _ => ∃ v d, vs = [v] ∧ Dt H v d ∧ Q (.bl (dPrime d)) H
theorem primeB_out {n : Int} (h : n < 2 ∨ 1000 ≤ n) : primeB n = false := by
  cases e : primeB n with
  | false => rfl
  | true =>
    have := primeB_lo e
    omega
theorem ok_is_prime (T : Txt K mg z) : FnOk P w K mg base CX0 2 z.a_is_prime z.d_is_prime ["thing"] (sp_is_prime) := by
  refine T.F_is_prime.ok sc_is_prime (fun vs H Q E h => ?_) (fun cdv A outer s H vs Q E hr h => ?_)
  · obtain ⟨v, d, rfl, _⟩ := h
    rfl
  · obtain ⟨v, d, rfl, hd, q⟩ := h
    refine ⟨_, (PSs.nox (pss_cons (ps_if (PW.pt (pw_or (pt_not (pt_val (pe_call (ok_is_whole T) hr (by rfl) T.g_is_whole T.F_is_whole.kp T.b_is_whole .nil pass0 (pa_cons (pv 0) pa_nil)))) (pw_or (pt_cmpR op_lt (pv 0) pe_int (nomark _)) (pw_or1 (pt_cmpR op_ge (pv 0) (pe_glob (v := .int 1000) (by rfl) T.c_PRIME_LIMIT ⟨_, rfl⟩) (nomark _)))))) (pss_one (ps_ret pe_bl)) pss_nil)
      (pss_cons (ps_set (i := 1) sc_is_prime.nd rfl (.inl rfl) pe_int)
      (pss_cons (ps_while PassesOwn.never (pt_cmpR op_le (pe_op op_mulW (pv 1) (pv 1)) (pv 0) (nomark _)) (pss_cons (ps_if (pt_cmpR op_eq (pe_op op_mod (pv 0) (pv 1)) pe_int (nomark _)) (pss_one (ps_ret pe_bl)) pss_nil)
      (pss_one (ps_aug (i := 1) sc_is_prime.nd rfl (.inl rfl) pe_int ip_add))))
      (pss_one (ps_ret pe_bl)))))), ?_⟩
    refine ⟨v, rfl, v, d, rfl, hd, _, rfl, it2 (fun e => ?_) (fun e => ?_)⟩
    · have z : dPrime d = false := by
        cases d <;> first | rfl | exact nomatch e
      rw [z] at q
      exact itT rfl q
    · have e : dWhole d = true := by simpa using e
      obtain ⟨n, rfl⟩ := dWhole_get e
      cases hd
      refine ⟨.int n, rfl, n, 2, rfl, rfl, _, rfl, it2 (fun e1 => ?_) (fun e1 => ?_)⟩
      · rw [show dPrime (.int n) = false from primeB_out (.inl (of_decide_eq_true e1))] at q
        exact itT rfl q
      · have e1 : ¬ n < 2 := of_decide_eq_false e1
        refine ⟨.int n, rfl, n, 1000, rfl, rfl, _, rfl, it2 (fun e2 => ?_) (fun e2 => ?_)⟩
        · rw [show dPrime (.int n) = false from primeB_out (.inr (of_decide_eq_true e2))] at q
          exact q
        · have e2 : ¬ (1000 : Int) ≤ n := of_decide_eq_false e2
          refine ⟨fun c σ H' => ∃ k : Int, σ = [some (.int n), some (.int k)] ∧ H' = H ∧ 2 ≤ k ∧ k ≤ 1000 ∧ (∀ j : Int, 2 ≤ j → j < k → n % j ≠ 0) ∧ c = (1000 - k).toNat, ⟨998, 2, rfl, rfl, by decide, by decide, fun j h1 h2 => by omega, rfl⟩, fun c σ H' hW => ?_⟩
          obtain ⟨k, rfl, rfl, k0, k1, hk, rfl⟩ := hW
          refine ⟨.int k, rfl, .int k, rfl, k, k, rfl, rfl, wide_mul (a := 20) (b := 20) (by omega) (by omega) (by decide) (by decide) (by decide), .int n, rfl, k * k, n, rfl, rfl, _, rfl, it2 (fun e3 => ?_) (fun e3 => ?_)⟩
          · have e3 : k * k ≤ n := of_decide_eq_true e3
            have hk2 : k < 1000 := by
              have : k * 2 ≤ k * k := Int.mul_le_mul_of_nonneg_left k0 (by omega)
              omega
            refine ⟨fun σ2 H2 => σ2 = [some (.int n), some (.int (k + 1))] ∧ H2 = H' ∧ n % k ≠ 0, fun σ2 H2 hn => ?_, ?_⟩
            · obtain ⟨rfl, rfl, hnk⟩ := hn
              refine ⟨(1000 - (k + 1)).toNat, by omega, k + 1, rfl, rfl, by omega, by omega, fun j h1 h2 => ?_, rfl⟩
              by_cases z : j = k
              · rw [z]
                exact hnk
              · exact hk j h1 (by omega)
            · refine ⟨.int n, rfl, .int k, rfl, n, k, rfl, rfl, (show 0 < k by omega), rfl, _, rfl, it2 (fun e4 => ?_) (fun e4 => ?_)⟩
              · rw [dI] at e4
                rw [show dPrime (.int n) = false from primeB_no k0 e3 (of_decide_eq_true e4)] at q
                exact q
              · rw [dI] at e4
                exact ⟨.int k, rfl, k, 1, rfl, rfl, rfl, rfl, of_decide_eq_false e4⟩
          · have e3 : ¬ k * k ≤ n := of_decide_eq_false e3
            rw [show dPrime (.int n) = true from primeB_yes (by omega) (by omega) k0 (by omega) hk] at q
            exact q
def sp_need_fraction : Sp := fun vs H Q _ => ∃ v d, vs = [v] ∧ Dt H v d ∧ dFrac d = true ∧ Q .non H
theorem ok_need_fraction (T : Txt K mg z) : FnOk P w K mg base CX0 3 z.a_need_fraction z.d_need_fraction ["thing"] (sp_need_fraction) := by
  refine T.F_need_fraction.ok sc_need_fraction (fun vs H Q E h => ?_) (fun cdv A outer s H vs Q E hr h => ?_)
  · obtain ⟨v, d, rfl, _⟩ := h
    rfl
  · obtain ⟨v, d, rfl, hd, e, q⟩ := h
    refine ⟨_, (PSs.nox (pss_one (ps_if (pt_not (pt_val (pe_call (ok_is_fraction T) hr (by rfl) T.g_is_fraction T.F_is_fraction.kp T.b_is_fraction .nil pass0 (pa_cons (pv 0) pa_nil)))) (pss_one (ps_never)) pss_nil))), ?_⟩
    refine ⟨v, rfl, v, d, rfl, hd, _, rfl, ?_⟩
    rw [e]
    exact itF rfl q
def spX_need_fraction (C : Addr) : Sp := fun vs H Q E => ∃ v d, vs = [v] ∧ Dt H v d ∧ (dFrac d = true → Q .non H) ∧ (dFrac d = false → E (.ref C) none H)
theorem okX_need_fraction (T : Txt K mg z) : FnOk P w K mg base (L2.CX P w) 3 z.a_need_fraction z.d_need_fraction ["thing"] (spX_need_fraction z.k_NoFraction) := by
  refine T.F_need_fraction.ok (CX := L2.CX P w) sc_need_fraction (fun vs H Q E h => ?_) (fun cdv A outer s H vs Q E hr h => ?_)
  · obtain ⟨v, d, rfl, _⟩ := h
    rfl
  · obtain ⟨v, d, rfl, hd, q1, q2⟩ := h
    refine ⟨_, (pss_one (ps_if (pt_not (pt_val (pe_call (ok_is_fraction T) hr (by rfl) T.g_is_fraction T.F_is_fraction.kp T.b_is_fraction .nil pass0 (pa_cons (pv 0) pa_nil)))) (pss_one (ps_raiseX rfl takes_cx T.x_NoFraction T.k_NoFraction (by rfl) pe_str)) pss_nil)), ?_⟩
    refine ⟨v, rfl, v, d, rfl, hd, _, rfl, ?_⟩
    cases e : dFrac d with
    | true => exact itF rfl (q1 e)
    | false => exact itT rfl (q2 e)
def sp_need_prime : Sp := fun vs H Q _ => ∃ v d, vs = [v] ∧ Dt H v d ∧ dPrime d = true ∧ Q .non H
theorem ok_need_prime (T : Txt K mg z) : FnOk P w K mg base CX0 3 z.a_need_prime z.d_need_prime ["thing"] (sp_need_prime) := by
  refine T.F_need_prime.ok sc_need_prime (fun vs H Q E h => ?_) (fun cdv A outer s H vs Q E hr h => ?_)
  · obtain ⟨v, d, rfl, _⟩ := h
    rfl
  · obtain ⟨v, d, rfl, hd, e, q⟩ := h
    refine ⟨_, (PSs.nox (pss_one (ps_if (pt_not (pt_val (pe_call (ok_is_prime T) hr (by rfl) T.g_is_prime T.F_is_prime.kp T.b_is_prime .nil pass0 (pa_cons (pv 0) pa_nil)))) (pss_one (ps_never)) pss_nil))), ?_⟩
    refine ⟨v, rfl, v, d, rfl, hd, _, rfl, ?_⟩
    rw [e]
    exact itF rfl q
def spX_need_prime (C : Addr) : Sp := fun vs H Q E => ∃ v d, vs = [v] ∧ Dt H v d ∧ (dPrime d = true → Q .non H) ∧ (dPrime d = false → E (.ref C) none H)
theorem okX_need_prime (T : Txt K mg z) : FnOk P w K mg base (L2.CX P w) 3 z.a_need_prime z.d_need_prime ["thing"] (spX_need_prime z.k_NoPrime) := by
  refine T.F_need_prime.ok (CX := L2.CX P w) sc_need_prime (fun vs H Q E h => ?_) (fun cdv A outer s H vs Q E hr h => ?_)
  · obtain ⟨v, d, rfl, _⟩ := h
    rfl
  · obtain ⟨v, d, rfl, hd, q1, q2⟩ := h
    refine ⟨_, (pss_one (ps_if (pt_not (pt_val (pe_call (ok_is_prime T) hr (by rfl) T.g_is_prime T.F_is_prime.kp T.b_is_prime .nil pass0 (pa_cons (pv 0) pa_nil)))) (pss_one (ps_raiseX rfl takes_cx T.x_NoPrime T.k_NoPrime (by rfl) pe_str)) pss_nil)), ?_⟩
    refine ⟨v, rfl, v, d, rfl, hd, _, rfl, ?_⟩
    cases e : dPrime d with
    | true => exact itF rfl (q1 e)
    | false => exact itT rfl (q2 e)
def sp_rest_by : Sp := fun vs H Q _ => ∃ (v : V) (t b p : Int), vs = [v, .int p] ∧ Dt H v (.tuple [.int t, .int b]) ∧ t.natAbs < 2 ^ 250 ∧ primeB p = true ∧ ∀ v' H', Ex H H' → Dt H' v' (restD t b p) → Q v' H'
theorem ok_rest_by (T : Txt K mg z) : FnOk P w K mg base CX0 3 z.a_rest_by z.d_rest_by ["f", "p"] (sp_rest_by) := by
  refine T.F_rest_by.ok sc_rest_by (fun vs H Q E h => ?_) (fun cdv A outer s H vs Q E hr h => ?_)
  · obtain ⟨v, t, b, p, rfl, _⟩ := h
    rfl
  · obtain ⟨v, t, b, p, rfl, hd, ht, hp, q⟩ := h
    obtain ⟨a, xs, rfl, ha, hx⟩ := hd.tup_get
    have ex := DtAll.ints_eq [t, b] hx
    subst ex
    have lo := primeB_lo hp
    refine ⟨_, (PSs.nox (pss_cons (ps_asg (pv 0) (pg_tup (by rfl) (pgs_cons (pg_name (i := 2) sc_rest_by.nd rfl (.inl rfl)) (pgs_cons (pg_name (i := 3) sc_rest_by.nd rfl (.inl rfl)) pgs_nil))))
      (pss_cons (ps_if (pt_cmpR op_eq (pe_op op_mod (pv 3) (pv 1)) pe_int (nomark _)) (pss_one (ps_ret pe_non)) pss_nil)
      (pss_one (ps_ret (pe_op op_mod (pe_op op_mulW (pv 2) (pe_call (ok_inverse T) hr (by rfl) T.g_inverse T.F_inverse.kp T.b_inverse .nil pass0 (pa_cons (pv 3) (pa_cons (pv 1) pa_nil)))) (pv 1))))))), ?_⟩
    refine ⟨.ref a, rfl, a, _, rfl, .inl (.inl ha), rfl, .int t, [.int b], rfl, .int b, [], rfl, rfl, ?_⟩
    refine ⟨.int b, rfl, .int p, rfl, b, p, rfl, rfl, (show 0 < p by omega), rfl, _, rfl, it2 (fun e => ?_) (fun e => ?_)⟩
    · rw [dI] at e
      have e : b % p = 0 := of_decide_eq_true e
      refine q _ H (Ex.refl H) ?_
      unfold restD
      rw [if_pos e]
      exact .non
    · rw [dI] at e
      have e : b % p ≠ 0 := of_decide_eq_false e
      refine ⟨.int t, rfl, .int b, rfl, .int p, rfl, b, p, rfl, by omega, Nat.lt_of_lt_of_le (show p.natAbs < 2 ^ 20 by omega) (by decide), primeB_gcd hp e, fun r H1 r0 r1 hr e1 => ?_⟩
      obtain ⟨h1, h2, h3, h4⟩ := rest_ok (t := t) hp e hr
      refine ⟨t, r, rfl, rfl, wide_mul (a := 250) (b := 20) ht (by omega) (by decide) (by decide) (by decide), .int p, rfl, t * r, p, rfl, rfl, (show 0 < p by omega), q _ H1 e1 ?_⟩
      rw [h1]
      exact .int _
def sp_rest_of : Sp := fun vs H Q _ => ∃ (v : V) (t b p : Int), vs = [v, .int p] ∧ Dt H v (.tuple [.int t, .int b]) ∧ 1 ≤ b ∧ Int.gcd t b = 1 ∧ t.natAbs < 2 ^ 250 ∧ primeB p = true ∧ ∀ v' H', Ex H H' → Dt H' v' (restD t b p) → Q v' H'
theorem ok_rest_of (T : Txt K mg z) : FnOk P w K mg base CX0 4 z.a_rest_of z.d_rest_of ["f", "p"] (sp_rest_of) := by
  refine T.F_rest_of.ok sc_rest_of (fun vs H Q E h => ?_) (fun cdv A outer s H vs Q E hr h => ?_)
  · obtain ⟨v, t, b, p, rfl, _⟩ := h
    rfl
  · obtain ⟨v, t, b, p, rfl, hd, hb, hg, ht, hp, q⟩ := h
    refine ⟨_, (PSs.nox (pss_cons (ps_expr (pe_call (ok_need_fraction T) hr (by rfl) T.g_need_fraction T.F_need_fraction.kp T.b_need_fraction .nil pass0 (pa_cons (pv 0) pa_nil)))
      (pss_cons (ps_expr (pe_call (ok_need_prime T) hr (by rfl) T.g_need_prime T.F_need_prime.kp T.b_need_prime .nil pass0 (pa_cons (pv 1) pa_nil)))
      (pss_one (ps_ret (pe_call (ok_rest_by T) hr (by rfl) T.g_rest_by T.F_rest_by.kp T.b_rest_by .nil pass0 (pa_cons (pv 0) (pa_cons (pv 1) pa_nil)))))))), ?_⟩
    refine ⟨v, rfl, v, _, rfl, hd, dFrac_of hb hg, ?_⟩
    refine ⟨.int p, rfl, .int p, .int p, rfl, .int p, hp, ?_⟩
    exact ⟨v, rfl, .int p, rfl, v, t, b, p, rfl, hd, ht, hp, q⟩
def spX_rest_of (CF CP : Addr) : Sp := fun vs H Q E => ∃ v d u e, vs = [v, u] ∧ Dt H v d ∧ Dt H u e ∧ ((dFrac d = false ∧ E (.ref CF) none H) ∨ (dFrac d = true ∧ dPrime e = false ∧ E (.ref CP) none H))
theorem okX_rest_of (T : Txt K mg z) : FnOk P w K mg base (L2.CX P w) 4 z.a_rest_of z.d_rest_of ["f", "p"] (spX_rest_of z.k_NoFraction z.k_NoPrime) := by
  refine T.F_rest_of.ok (CX := L2.CX P w) sc_rest_of (fun vs H Q E h => ?_) (fun cdv A outer s H vs Q E hr h => ?_)
  · obtain ⟨v, d, u, e, rfl, _⟩ := h
    rfl
  · obtain ⟨v, d, u, e, rfl, hd, he, h⟩ := h
    refine ⟨_, (pss_cons (ps_expr (pe_callS (okX_need_fraction T) hr (by rfl) T.g_need_fraction T.F_need_fraction.kp T.b_need_fraction (passAt takes_cx) (pa_cons (pv 0) pa_nil)))
      (pss_cons (ps_expr (pe_callS (okX_need_prime T) hr (by rfl) T.g_need_prime T.F_need_prime.kp T.b_need_prime (passAt takes_cx) (pa_cons (pv 1) pa_nil))) pss_dead)), ?_⟩
    rcases h with ⟨h1, q⟩ | ⟨h1, h2, q⟩
    · exact ⟨v, rfl, v, d, rfl, hd, (fun z => by rw [h1] at z; cases z), fun _ => q⟩
    · exact ⟨v, rfl, v, d, rfl, hd, (fun _ => ⟨u, rfl, u, e, rfl, he, (fun z => by rw [h2] at z; cases z), fun _ => q⟩), (fun z => by rw [h1] at z; cases z)⟩
theorem restD_noL (t b p : Int) : noL (restD t b p) = true := by
  unfold restD
  split <;> rfl
def sp_rests_of : Sp := fun vs H Q _ => ∃ (v : V) (a : Addr) (t b : Int) (ps : List Int), vs = [v, .ref a] ∧ Dt H v (.tuple [.int t, .int b]) ∧ 1 ≤ b ∧ Int.gcd t b = 1 ∧ t.natAbs < 2 ^ 250 ∧
  H a = some (.lst (ps.map V.int)) ∧ ps.length ≤ 10000 ∧ (∀ p ∈ ps, primeB p = true) ∧ ∀ p H', H p = none → Ex H H' → AccL H' p (ps.map fun p => restD t b p) → Q (.ref p) H'
theorem ok_rests_of (T : Txt K mg z) : FnOk P w K mg base CX0 4 z.a_rests_of z.d_rests_of ["f", "primes"] (sp_rests_of) := by
  refine T.F_rests_of.ok sc_rests_of (fun vs H Q E h => ?_) (fun cdv A outer s H vs Q E hr h => ?_)
  · obtain ⟨v, a, t, b, ps, rfl, _⟩ := h
    rfl
  · obtain ⟨v, a, t, b, ps, rfl, hd, hb, hg, ht, ha, hl, hp, q⟩ := h
    refine ⟨_, (PSs.nox (pss_cons (ps_expr (pe_call (ok_need_fraction T) hr (by rfl) T.g_need_fraction T.F_need_fraction.kp T.b_need_fraction .nil pass0 (pa_cons (pv 0) pa_nil)))
      (pss_cons (ps_if (pt_not (pt_val (pe_callB (r := rIsi K) call_isi (by rfl) T.m_isinstance (by decide +kernel) (pa_cons (pv 1) (pa_cons (pe_bltn (v := .ty "list") (by rfl) T.m_list (by decide +kernel) rfl) pa_nil))))) (pss_one (ps_never)) pss_nil)
      (pss_cons (ps_for PassesOwn.never rfl (pi_listK K (pv 1)) (pg_name (i := 2) sc_rests_of.nd rfl (.inl rfl)) (pss_one (ps_expr (pe_call (ok_need_prime T) hr (by rfl) T.g_need_prime T.F_need_prime.kp T.b_need_prime .nil pass0 (pa_cons (pv 2) pa_nil)))))
      (pss_one (ps_ret (pe_lc (own := [("p", 2)]) (by rfl) sc_rests_of.nd (pi_listK K (pv 1)) (blkOk_by (own := [("p", 2)]) (N := N_rests_of) (sc := (defScope s_rests_of)) (by decide +kernel)) (fun _ _ _ _ _ => (pg_name (i := 2) sc_rests_of.nd rfl (.inl rfl))) (fun _ _ _ _ _ => pts_nil) (fun _ _ _ _ _ => (pe_call (ok_rest_by T) hr (by rfl) T.g_rest_by T.F_rest_by.kp T.b_rest_by .nil pass0 (pa_cons (pv 0) (pa_cons (pv 2) pa_nil))))))))))), ?_⟩
    refine ⟨v, rfl, v, _, rfl, hd, dFrac_of hb hg, ?_⟩
    have hda : Dt H (.ref a) (.list (ps.map PyData.int)) := .lst ha (DtAll.ints ps)
    refine ⟨.ref a, rfl, _, _, _, _, _, rfl, .ty _, (hda).ty, kit_ty ( kit_lst _), true, rfl, itF rfl ?_⟩
    refine ⟨.ref a, rfl, a, rfl, ⟨_, .inl (.inl ha)⟩, for_list (xs := ps.map V.int) (fun i σ H' => (∃ y2, σ = [some v, some (.ref a), y2]) ∧ H' = H) ⟨⟨none, rfl⟩, rfl⟩ (fun i σ H' _ hP => by rw [hP.2]; exact .inl (.inl ha)) (fun i x σ H' hi hP => ?_) (fun σ H' hP => ?_)⟩
    · obtain ⟨⟨y2, rfl⟩, rfl⟩ := hP
      have hm := List.mem_of_getElem? hi
      obtain ⟨p, hpm, rfl⟩ := List.mem_map.mp hm
      exact ⟨.int p, rfl, .int p, .int p, rfl, .int p, hp p hpm, ⟨_, rfl⟩, rfl⟩
    · obtain ⟨⟨y2, rfl⟩, rfl⟩ := hP
      have e : ps.map (fun p => restD t b p) = ((ps.map PyData.int).filter fun _ => true).map fun x => restD t b (dI0 x) := by
        rw [List.filter_eq_self.mpr (fun _ _ => rfl), List.map_map]
        rfl
      rw [e] at q
      dsimp only
      refine s_retN (en_lcD (H := H') (ds := ps.map PyData.int) (fun _ => true) (fun x => restD t b (dI0 x)) ?hs ?hz ?hw ?ht ?he ?hn) ?hq
      case hq => exact q
      case hs => exact ed_var rfl hda
      case hz =>
        rw [List.length_map]
        omega
      case hw => exact fun _ => rfl
      case ht => exact fun H1 v d _ _ _ H2 _ Q' q' => q' H2 (Ex.refl H2)
      case hn => exact fun d _ _ => restD_noL t b (dI0 d)
      case he =>
        intro H1 v1 d e1 hm hv _ H2 e2 Q' q'
        obtain ⟨p, hpm, rfl⟩ := List.mem_map.mp hm
        cases hv
        exact ⟨v, rfl, .int p, rfl, v, t, b, p, rfl, hd.up (e1.trans e2), ht, hp p hpm, q'⟩
def spX_rests_of (CF CP : Addr) : Sp := fun vs H Q E => ∃ v d u e, vs = [v, u] ∧ Dt H v d ∧ Dt H u e ∧ ((dFrac d = false ∧ E (.ref CF) none H) ∨ (dFrac d = true ∧ dLst e = false ∧ E (.ref CP) none H) ∨
  (dFrac d = true ∧ (∃ ds, e = .list ds ∧ ∃ x ∈ ds, dPrime x = false) ∧ E (.ref CP) none H))
theorem okX_rests_of (T : Txt K mg z) : FnOk P w K mg base (L2.CX P w) 4 z.a_rests_of z.d_rests_of ["f", "primes"] (spX_rests_of z.k_NoFraction z.k_NoPrime) := by
  refine T.F_rests_of.ok (CX := L2.CX P w) sc_rests_of (fun vs H Q E h => ?_) (fun cdv A outer s H vs Q E hr h => ?_)
  · obtain ⟨v, d, u, e, rfl, _⟩ := h
    rfl
  · obtain ⟨v, d, u, e, rfl, hd, he, h⟩ := h
    refine ⟨_, (pss_cons (ps_expr (pe_callS (okX_need_fraction T) hr (by rfl) T.g_need_fraction T.F_need_fraction.kp T.b_need_fraction (passAt takes_cx) (pa_cons (pv 0) pa_nil)))
      (pss_cons (ps_if (pt_not (pt_val (pe_callB (r := rIsi K) call_isi (by rfl) T.m_isinstance (by decide +kernel) (pa_cons (pv 1) (pa_cons (pe_bltn (v := .ty "list") (by rfl) T.m_list (by decide +kernel) rfl) pa_nil))))) (pss_one (ps_raiseX rfl takes_cx T.x_NoPrime T.k_NoPrime (by rfl) pe_str)) pss_nil)
      (pss_cons (ps_for pass_own rfl (pi_listK K (pv 1)) (pg_name (i := 2) sc_rests_of.nd rfl (.inl rfl)) (pss_one (ps_expr (pe_callS (okX_need_prime T) hr (by rfl) T.g_need_prime T.F_need_prime.kp T.b_need_prime (passAt takes_cx) (pa_cons (pv 2) pa_nil))))) pss_dead))), ?_⟩
    rcases h with ⟨h1, q⟩ | ⟨h1, h2, q⟩ | ⟨h1, ⟨ds, rfl, x, hx, hp⟩, q⟩
    · exact ⟨v, rfl, v, d, rfl, hd, (fun z => by rw [h1] at z; cases z), fun _ => q⟩
    · refine ⟨v, rfl, v, d, rfl, hd, (fun _ => ?_), (fun z => by rw [h1] at z; cases z)⟩
      refine ⟨u, rfl, _, _, _, _, _, rfl, .ty _, (he).ty, kit_ty ( kit_lst _), dLst e, rfl, ?_⟩
      rw [h2]
      exact itT rfl q
    · refine ⟨v, rfl, v, d, rfl, hd, (fun _ => ?_), (fun z => by rw [h1] at z; cases z)⟩
      refine ⟨u, rfl, _, _, _, _, _, rfl, .ty _, (he).ty, kit_ty ( kit_lst _), true, rfl, itF rfl ?_⟩
      obtain ⟨a, xs, rfl, ha, hxs⟩ := he.lst_get
      refine ⟨.ref a, rfl, a, rfl, ⟨_, .inl (.inl ha)⟩, for_list (xs := xs) (fun i σ H' => (∃ y2, σ = [some v, some (.ref a), y2]) ∧ H' = H ∧ ∀ j y, j < i → ds[j]? = some y → dPrime y = true) ⟨⟨none, rfl⟩, rfl, fun j y hj _ => absurd hj (Nat.not_lt_zero j)⟩ (fun i σ H' _ hP => by rw [hP.2.1]; exact .inl (.inl ha)) (fun i y σ H' hi hP => ?_) (fun σ H' hP => ?_)⟩
      · obtain ⟨⟨y2, rfl⟩, rfl, hb⟩ := hP
        obtain ⟨dy, hdi, hyd⟩ := hxs.get i hi
        refine ⟨y, rfl, y, dy, rfl, hyd, (fun z => ⟨⟨_, rfl⟩, rfl, fun j w hj hw => ?_⟩), fun _ => q⟩
        rcases Nat.lt_succ_iff_lt_or_eq.mp hj with h | h
        · exact hb j w h hw
        · rw [h, hdi] at hw
          cases hw
          exact z
      · obtain ⟨⟨y2, rfl⟩, rfl, hb⟩ := hP
        obtain ⟨j, hj⟩ := List.getElem?_of_mem hx
        have hl : j < xs.length := by
          rw [hxs.len]
          exact (List.getElem?_eq_some_iff.mp hj).1
        have z := hb j x hl hj
        rw [hp] at z
        cases z
def sp__law_pool (K : PySem.W.Frag) : Sp := fun vs H Q _ => ∃ (sa : Addr) (ns : List Int) (k : Int), vs = [.ref sa, .int k] ∧ SqL K H sa (ns.map V.int) ∧ 0 ≤ k ∧ k < 100 ∧
  ∀ p H', H p = none → Ex H H' → PoolB H' p 1000000000 → Q (.ref p) H'
theorem ok__law_pool (T : Txt K mg z) : FnOk P w K mg base CX0 1 z.a__law_pool z.d__law_pool ["script", "k"] (sp__law_pool K) := by
  refine T.F__law_pool.ok sc__law_pool (fun vs H Q E h => ?_) (fun cdv A outer s H vs Q E hr h => ?_)
  · obtain ⟨sa, ns, k, rfl, _⟩ := h
    rfl
  · obtain ⟨sa, ns, k, rfl, hS, hk, hk2, q⟩ := h
    refine ⟨_, (PSs.nox (pss_cons (ps_set (i := 2) sc__law_pool.nd rfl (.inl rfl) pe_int)
      (pss_cons (ps_if (pt_cmpR op_lt (pv 1) (pe_callB (r := rLenS K) call_len_seq (by rfl) T.m_len (by decide +kernel) (pa_cons (pv 0) pa_nil)) (nomark _)) (pss_one (ps_set (i := 2) sc__law_pool.nd rfl (.inl rfl) (pe_ix (r := rIxL K) ix_list (pv 0) (pv 1) (fun _ _ => rfl)))) pss_nil)
      (pss_cons (ps_if (pt_cmpR op_ge (pv 2) (pe_op op_pow pe_int pe_int) (nomark _)) (pss_one (ps_ret (pe_lst (pa_cons (pe_op op_sub (pv 2) (pe_op op_pow pe_int pe_int)) (pa_cons pe_int (pa_cons pe_int pa_nil)))))) pss_nil)
      (pss_one (ps_ret (pe_lst (pa_cons (pv 2) (pa_cons pe_int (pa_cons (pe_op op_mul pe_int (pv 1)) pa_nil)))))))))), ?_⟩
    have fin : ∀ cell : Int, (tSeq (tIfS (tTest (tOp (rI0 fun i j => .bl (decide (j ≤ i))) (tVar 2) (tOp (rI CPow fun i j => .int (i ^ j.toNat)) (tC (.int 10)) (tC (.int 18))))) (tRet (tLst (tCons (tOp (rI0 fun i j => .int (i - j)) (tVar 2) (tOp (rI CPow fun i j => .int (i ^ j.toNat)) (tC (.int 10)) (tC (.int 18)))) (tCons (tC (.int 1)) (tCons (tC (.int 0)) tNil))))) tNext) (tRet (tLst (tCons (tVar 2) (tCons (tC (.int 0)) (tCons (tOp (rI CMul fun i j => .int (i * j)) (tC (.int 61)) (tVar 1)) tNil)))))) { nx := fun _ H' => Q .non H', rt := Q } [some (.ref sa), some (.int k), some (.int cell)] H := by
      intro cell
      refine ⟨.int cell, rfl, 10, 18, rfl, rfl, ⟨by decide, by decide, by decide⟩, cell, _, rfl, rfl, _, rfl, it2 (fun e => ?_) (fun e => ?_)⟩
      · refine ⟨.int cell, rfl, 10, 18, rfl, rfl, ⟨by decide, by decide, by decide⟩, cell, _, rfl, rfl, sz_of (Nat.le_of_ble_eq_true rfl), fun p hp => ?_⟩
        exact q p _ hp (Ex.new hp) ⟨_, _, _, upd_same, by decide, by decide⟩
      · refine ⟨.int cell, rfl, .int k, rfl, 61, k, rfl, rfl, .inl ⟨by decide, by decide⟩, sz_of (Nat.le_of_ble_eq_true rfl), fun p hp => ?_⟩
        exact q p _ hp (Ex.new hp) ⟨_, _, _, upd_same, by omega, by omega⟩
    refine ⟨.int k, rfl, .ref sa, rfl, sa, _, rfl, .inl hS, k, _, rfl, rfl, _, rfl, it2 (fun e => ?_) (fun e => ?_)⟩
    · have e : k < ((ns.map V.int).length : Int) := of_decide_eq_true e
      rw [List.length_map] at e
      obtain ⟨cell, g⟩ : ∃ cell, (ns.map V.int)[k.toNat]? = some (.int cell) := by
        refine ⟨ns[k.toNat]'(by omega), ?_⟩
        rw [List.getElem?_map, List.getElem?_eq_getElem (by omega)]
        rfl
      refine ⟨.ref sa, rfl, .int k, rfl, sa, _, k, .int cell, rfl, rfl, hS, ?_, fin cell⟩
      have z : k = ((k.toNat : Nat) : Int) := by omega
      rw [z]
      exact atI_nat (j := k.toNat) g
    · exact fin 0
def sp__law_take : Sp := fun vs H Q _ => ∃ (pa : Addr) (m : Int) (n : Nat), vs = [.ref pa, .int m] ∧ 0 < m ∧ m < 1099511627776 ∧ PoolB H pa (n + 1) ∧
  ∀ v H', 0 ≤ v → v < m → PoolB H' pa n → ExB pa H H' → Q (.int v) H'
theorem ok__law_take (T : Txt K mg z) : FnOk P w K mg base CX0 1 z.a__law_take z.d__law_take ["pool", "many"] (sp__law_take) := by
  refine T.F__law_take.ok sc__law_take (fun vs H Q E h => ?_) (fun cdv A outer s H vs Q E hr h => ?_)
  · obtain ⟨pa, m, n, rfl, _⟩ := h
    rfl
  · obtain ⟨pa, m, n, rfl, hm, hm2, ⟨a, b, c, hp, hc, hn⟩, q⟩ := h
    have hS : SqL K H pa [.int a, .int b, .int c] := .inl (.inl hp)
    refine ⟨_, (PSs.nox (pss_cons (ps_if (pt_cmpR op_eq (pe_ix (r := rIxL K) ix_list (pv 0) pe_int (fun _ _ => rfl)) pe_int (nomark _)) (pss_cons (ps_set (i := 2) sc__law_take.nd rfl (.inl rfl) (pe_op op_mod (pe_ix (r := rIxL K) ix_list (pv 0) pe_int (fun _ _ => rfl)) (pv 1)))
      (pss_cons (ps_asg (pe_op op_fdivW (pe_ix (r := rIxL K) ix_list (pv 0) pe_int (fun _ _ => rfl)) (pv 1)) (pg_sub (pv 0) pe_int set_list))
      (pss_one (ps_ret (pv 2))))) pss_nil)
      (pss_cons (ps_asg (pe_op op_add (pe_ix (r := rIxL K) ix_list (pv 0) pe_int (fun _ _ => rfl)) pe_int) (pg_sub (pv 0) pe_int set_list))
      (pss_cons (ps_set (i := 3) sc__law_take.nd rfl (.inl rfl) (pe_ix (r := rIxL K) ix_list (pv 0) pe_int (fun _ _ => rfl)))
      (pss_cons (ps_set (i := 4) sc__law_take.nd rfl (.inl rfl) (pe_op op_mulW (pe_op op_add (pe_op op_mod (pe_ix (r := rIxL K) ix_list (pv 0) pe_int (fun _ _ => rfl)) pe_int) pe_int) (pe_op op_add (pe_op op_mul pe_int (pv 3)) pe_int)))
      (pss_cons (ps_set (i := 4) sc__law_take.nd rfl (.inl rfl) (pe_op op_add (pv 4) (pe_op op_mulW (pe_op op_mul pe_int (pv 3)) (pv 3))))
      (pss_cons (ps_set (i := 4) sc__law_take.nd rfl (.inl rfl) (pe_op op_mod (pe_op op_mulW (pv 4) (pv 4)) pe_int))
      (pss_one (ps_ret (pe_op op_mod (pe_op op_fdivW (pe_op op_mod (pe_op op_mulW (pv 4) (pe_op op_add (pv 4) pe_int)) pe_int) pe_int) (pv 1))))))))))), ?_⟩
    refine ⟨.ref pa, rfl, pa, _, 1, .int b, rfl, rfl, hS, rfl, rfl, _, rfl, it2 (fun e => ?_) (fun e => ?_)⟩
    · refine ⟨.ref pa, rfl, pa, _, 0, .int a, rfl, rfl, hS, rfl, .int m, rfl, a, m, rfl, rfl, hm, ?_⟩
      refine ⟨.ref pa, rfl, pa, _, 0, .int a, rfl, rfl, hS, rfl, .int m, rfl, a, m, rfl, rfl, wide_div (b := 40) hm (by omega) (by decide) (by decide), ?_⟩
      refine ⟨.ref pa, rfl, pa, _, 0, 0, rfl, rfl, hp, rfl, ?_⟩
      exact ⟨_, rfl, q _ _ (Int.emod_nonneg a (by omega)) (Int.emod_lt_of_pos a hm) ⟨a / m, b, c, upd_same, hc, by omega⟩ ExB.upd⟩
    · refine ⟨.ref pa, rfl, pa, _, 2, .int c, rfl, rfl, hS, rfl, c, 1, rfl, rfl, ?_⟩
      refine ⟨.ref pa, rfl, pa, _, 2, 2, rfl, rfl, hp, rfl, ?_⟩
      generalize hH2 : upd H pa _ = H2
      have hp2 : H2 pa = some (.lst [.int a, .int b, .int (c + 1)]) := by
        rw [← hH2]
        exact upd_same
      have e2 : ExB pa H H2 := by
        rw [← hH2]
        exact ExB.upd
      have hS2 : SqL K H2 pa [.int a, .int b, .int (c + 1)] := .inl (.inl hp2)
      refine ⟨.ref pa, rfl, pa, _, 2, .int (c + 1), rfl, rfl, hS2, rfl, ?_⟩
      have m1 := Int.emod_nonneg a (show (9999999517 : Int) ≠ 0 by decide)
      have m2 := Int.emod_lt_of_pos a (show (0 : Int) < 9999999517 by decide)
      have w1 : (a % 9999999517 + 1031).natAbs < 2 ^ 40 := by omega
      have w2 : (53 * (c + 1) + 83).natAbs < 2 ^ 60 := by omega
      have w3 : (3607 * (c + 1)).natAbs < 2 ^ 60 := by omega
      have w4 : (c + 1).natAbs < 2 ^ 60 := by omega
      refine ⟨.ref pa, rfl, pa, _, 0, .int a, rfl, rfl, hS2, rfl, a, _, rfl, rfl, (show (0 : Int) < 9999999517 by decide), _, _, rfl, rfl, .int (c + 1), rfl, _, _, rfl, rfl, .inl ⟨by decide, by decide⟩, _, _, rfl, rfl, _, _, rfl, rfl, wide_mul w1 w2 (by decide) (by decide) (by decide), ?_⟩
      have w5 := wide_lt w1 w2
      try dsimp only
      generalize (a % 9999999517 + 1031) * (53 * (c + 1) + 83) = k1 at w5 ⊢
      refine ⟨.int k1, rfl, .int (c + 1), rfl, _, _, rfl, rfl, .inl ⟨by decide, by decide⟩, .int (c + 1), rfl, _, _, rfl, rfl, wide_mul w3 w4 (by decide) (by decide) (by decide), _, _, rfl, rfl, ?_⟩
      have w6 := wide_lt w3 w4
      try dsimp only
      generalize 3607 * (c + 1) * (c + 1) = k2 at w6 ⊢
      have w7 : (k1 + k2).natAbs < 2 ^ 130 := by omega
      try dsimp only
      generalize k1 + k2 = k3 at w7 ⊢
      refine ⟨.int k3, rfl, .int k3, rfl, _, _, rfl, rfl, wide_mul w7 w7 (by decide) (by decide) (by decide), _, _, rfl, rfl, (show (0 : Int) < 99999999563 by decide), ?_⟩
      have m3 := Int.emod_nonneg (k3 * k3) (show (99999999563 : Int) ≠ 0 by decide)
      have m4 := Int.emod_lt_of_pos (k3 * k3) (show (0 : Int) < 99999999563 by decide)
      try dsimp only
      generalize k3 * k3 % 99999999563 = k4 at m3 m4 ⊢
      have w8 : k4.natAbs < 2 ^ 40 := by omega
      have w9 : (k4 + 67).natAbs < 2 ^ 40 := by omega
      refine ⟨.int k4, rfl, .int k4, rfl, _, _, rfl, rfl, _, _, rfl, rfl, wide_mul w8 w9 (by decide) (by decide) (by decide), _, _, rfl, rfl, (show (0 : Int) < 99999999853 by decide), _, _, rfl, rfl, wide_div (b := 40) (by decide) (by decide) (by decide) (by decide), .int m, rfl, _, _, rfl, rfl, hm, ?_⟩
      exact q _ _ (Int.emod_nonneg _ (by omega)) (Int.emod_lt_of_pos _ hm) ⟨a, b, c + 1, hp2, by omega, by omega⟩ e2
def sp__law_far : Sp := fun vs H Q _ => ∃ (pa : Addr) (m n : Nat), vs = [.ref pa, .int (m : Int)] ∧ m ≤ 5 ∧ PoolB H pa (n + m) ∧ ∀ v H', 0 ≤ v → v < big m → PoolB H' pa n → ExB pa H H' → Q (.int v) H'
theorem ok__law_far (T : Txt K mg z) : FnOk P w K mg base CX0 2 z.a__law_far z.d__law_far ["pool", "turns"] (sp__law_far) := by
  refine T.F__law_far.ok sc__law_far (fun vs H Q E h => ?_) (fun cdv A outer s H vs Q E hr h => ?_)
  · obtain ⟨pa, m, n, rfl, _⟩ := h
    rfl
  · obtain ⟨pa, m, n, rfl, hm, pb, q⟩ := h
    refine ⟨_, (PSs.nox (pss_cons (ps_set (i := 2) sc__law_far.nd rfl (.inl rfl) pe_int)
      (pss_cons (ps_for PassesOwn.never rfl (pi_range1 (by rfl) T.m_range (pa_cons (pv 1) pa_nil)) (pg_name (i := 3) sc__law_far.nd rfl (.inl rfl)) (pss_one (ps_set (i := 2) sc__law_far.nd rfl (.inl rfl) (pe_op op_add (pe_op op_mulW (pv 2) (pe_op op_pow pe_int pe_int)) (pe_call (ok__law_take T) hr (by rfl) T.g__law_take T.F__law_take.kp T.b__law_take .nil pass0 (pa_cons (pv 0) (pa_cons (pe_op op_pow pe_int pe_int) pa_nil)))))))
      (pss_one (ps_ret (pv 2)))))), ?_⟩
    refine ⟨.int (m : Int), rfl, (m : Int), rfl, by omega, by omega, for_range (lo := 0) (n := (m : Int).toNat) (fun i σ H' => (∃ v y3, σ = [some (.ref pa), some (.int (m : Int)), some (.int v), y3] ∧ 0 ≤ v ∧ v < big i) ∧ i ≤ m ∧ PoolB H' pa (n + (m - i)) ∧ ExB pa H H') ⟨⟨0, none, rfl, by decide, by decide⟩, Nat.zero_le _, pb, ExB.refl _ _⟩ (fun i σ H1 hi hP => ?_) (fun σ H1 hP => ?_)⟩
    · obtain ⟨⟨v, y3, rfl, v0, v1⟩, hi2, pb1, e1⟩ := hP
      have hi3 : i < m := by omega
      have hb := big_le i (by omega)
      refine ⟨.int v, rfl, 10, 6, rfl, rfl, ⟨by decide, by decide, by decide⟩, v, 10 ^ (6 : Int).toNat, rfl, rfl, wide_mul (a := 100) (b := 20) (by omega) (by decide) (by decide) (by decide) (by decide), ?_⟩
      refine ⟨.ref pa, rfl, 10, 6, rfl, rfl, ⟨by decide, by decide, by decide⟩, pa, 10 ^ (6 : Int).toNat, n + (m - (i + 1)), rfl, by decide, by decide, ?_, fun w H2 w0 w1 pb2 e2 => ?_⟩
      · rw [show n + (m - (i + 1)) + 1 = n + (m - i) by omega]
        exact pb1
      · have w1 : w < 1000000 := w1
        obtain ⟨g0, g1⟩ := big_far v0 v1 w0 w1
        exact ⟨_, _, rfl, rfl, ⟨v * 1000000 + w, _, rfl, g0, g1⟩, hi3, pb2, e1.trans e2⟩
    · obtain ⟨⟨v, y3, rfl, v0, v1⟩, hi2, pb1, e1⟩ := hP
      rw [show (m : Int).toNat = m by omega] at v1 pb1
      rw [show n + (m - m) = n by omega] at pb1
      exact ⟨.int v, rfl, q v H1 v0 v1 pb1 e1⟩
def sp__law_number : Sp := fun vs H Q _ => ∃ (pa : Addr) (n : Nat), vs = [.ref pa] ∧ PoolB H pa (n + 6) ∧ ∀ v H', 0 ≤ v → v < 1000000000000000000000000000000 → PoolB H' pa n → ExB pa H H' → Q (.int v) H'
theorem ok__law_number (T : Txt K mg z) : FnOk P w K mg base CX0 3 z.a__law_number z.d__law_number ["pool"] (sp__law_number) := by
  refine T.F__law_number.ok sc__law_number (fun vs H Q E h => ?_) (fun cdv A outer s H vs Q E hr h => ?_)
  · obtain ⟨pa, n, rfl, _⟩ := h
    rfl
  · obtain ⟨pa, n, rfl, pb, q⟩ := h
    refine ⟨_, (PSs.nox (pss_cons (ps_set (i := 1) sc__law_number.nd rfl (.inl rfl) (pe_call (ok__law_take T) (hr.mono (by decide)) (by rfl) T.g__law_take T.F__law_take.kp T.b__law_take .nil pass0 (pa_cons (pv 0) (pa_cons pe_int pa_nil))))
      (pss_cons (ps_if (pt_cmpR op_lt (pv 1) pe_int (nomark _)) (pss_one (ps_ret (pe_call (ok__law_take T) (hr.mono (by decide)) (by rfl) T.g__law_take T.F__law_take.kp T.b__law_take .nil pass0 (pa_cons (pv 0) (pa_cons pe_int pa_nil))))) pss_nil)
      (pss_cons (ps_if (pt_cmpR op_eq (pv 1) pe_int (nomark _)) (pss_one (ps_ret (pe_call (ok__law_take T) (hr.mono (by decide)) (by rfl) T.g__law_take T.F__law_take.kp T.b__law_take .nil pass0 (pa_cons (pv 0) (pa_cons pe_int pa_nil))))) pss_nil)
      (pss_cons (ps_if (pt_cmpR op_eq (pv 1) pe_int (nomark _)) (pss_one (ps_ret (pe_op op_sub (pe_op op_sub (pe_op op_pow pe_int pe_int) pe_int) (pe_call (ok__law_take T) (hr.mono (by decide)) (by rfl) T.g__law_take T.F__law_take.kp T.b__law_take .nil pass0 (pa_cons (pv 0) (pa_cons pe_int pa_nil)))))) pss_nil)
      (pss_one (ps_ret (pe_call (ok__law_far T) hr (by rfl) T.g__law_far T.F__law_far.kp T.b__law_far .nil pass0 (pa_cons (pv 0) (pa_cons (pe_ix (r := rIxL K) ix_list (pe_lst (pa_cons pe_int (pa_cons pe_int pa_nil))) (pe_op op_sub (pv 1) pe_int) (fun _ _ => rfl)) pa_nil)))))))))), ?_⟩
    refine ⟨.ref pa, rfl, pa, 6, n + 5, rfl, by decide, by decide, pb, fun way H1 l1 u1 pb1 e1 => ?_⟩
    refine ⟨.int way, rfl, way, 2, rfl, rfl, _, rfl, it2 (fun _ => ?_) (fun c1 => ?_)⟩
    · exact ⟨.ref pa, rfl, pa, 13, n + 4, rfl, by decide, by decide, pb1, fun v H2 l2 u2 pb2 e2 => q v H2 l2 (by omega) (pb2.less (by omega)) (e1.trans e2)⟩
    have c1 : ¬ way < 2 := of_decide_eq_false c1
    refine ⟨.int way, rfl, rfl, _, rfl, it2 (fun _ => ?_) (fun c2 => ?_)⟩
    · exact ⟨.ref pa, rfl, pa, 1200, n + 4, rfl, by decide, by decide, pb1, fun v H2 l2 u2 pb2 e2 => q v H2 l2 (by omega) (pb2.less (by omega)) (e1.trans e2)⟩
    rw [dI] at c2
    have c2 : ¬ way = 2 := of_decide_eq_false c2
    refine ⟨.int way, rfl, rfl, _, rfl, it2 (fun _ => ?_) (fun c3 => ?_)⟩
    · refine ⟨10, 30, rfl, rfl, ⟨by decide, by decide, by decide⟩, _, 1, rfl, rfl, .ref pa, rfl, pa, 40, n + 4, rfl, by decide, by decide, pb1, fun v H2 l2 u2 pb2 e2 => ?_⟩
      refine ⟨_, v, rfl, rfl, q _ H2 ?_ ?_ (pb2.less (by omega)) (e1.trans e2)⟩
      · show (0 : Int) ≤ 1000000000000000000000000000000 - 1 - v
        omega
      · show (1000000000000000000000000000000 : Int) - 1 - v < 1000000000000000000000000000000
        omega
    rw [dI] at c3
    have c3 : ¬ way = 5 := of_decide_eq_false c3
    have fin : ∀ (m : Nat) (H2 : Hp), m ≤ 5 → PoolB H2 pa (n + 5) → ExB pa H H2 → sp__law_far [.ref pa, .int (m : Int)] H2 Q E0 := fun m H2 hm pb2 e2 =>
      ⟨pa, m, n, rfl, hm, pb2.less (by omega), fun v H3 v0 v1 pb3 e3 => q v H3 v0 (Int.lt_of_lt_of_le v1 (big_le m (by omega))) pb3 (e2.trans e3)⟩
    refine ⟨.ref pa, rfl, sz_of (Nat.le_of_ble_eq_true rfl), fun l hl => ?_⟩
    have e2 : Ex H1 (upd H1 l (.lst [.int 2, .int 5])) := Ex.new hl
    rcases (show way = 3 ∨ way = 4 by omega) with rfl | rfl
    · exact ⟨.int 3, rfl, 3, 3, rfl, rfl, l, _, 0, .int 2, rfl, rfl, .inl (.inl upd_same), rfl, fin 2 _ (by decide) (pb1.up e2) (e1.trans (ExB.of e2))⟩
    · exact ⟨.int 4, rfl, 4, 3, rfl, rfl, l, _, 1, .int 5, rfl, rfl, .inl (.inl upd_same), rfl, fin 5 _ (by decide) (pb1.up e2) (e1.trans (ExB.of e2))⟩
def sp__law_all_primes : Sp := fun vs H Q _ => vs = [] ∧ ∀ p H', H p = none → Ex H H' → AccL H' p (primesL.map PyData.int) → Q (.ref p) H'
theorem ok__law_all_primes (T : Txt K mg z) : FnOk P w K mg base CX0 1 z.a__law_all_primes z.d__law_all_primes [] (sp__law_all_primes) := by
  refine T.F__law_all_primes.ok sc__law_all_primes (fun vs H Q E h => ?_) (fun cdv A outer s H vs Q E hr h => ?_)
  · obtain ⟨rfl, _⟩ := h
    rfl
  · obtain ⟨rfl, q⟩ := h
    refine ⟨_, (PSs.nox (pss_one (ps_ret (pe_lc (own := [("p", 0)]) (by rfl) sc__law_all_primes.nd (pi_range2 (by rfl) T.m_range (pa_cons pe_int (pa_cons pe_int pa_nil))) (blkOk_by (own := [("p", 0)]) (N := N__law_all_primes) (sc := (defScope s__law_all_primes)) (by decide +kernel)) (fun _ _ _ _ _ => (pg_name (i := 0) sc__law_all_primes.nd rfl (.inr rfl))) (fun _ _ _ _ _ => (pts_one (pt_cmpR (r := rEqD K) (op_eqD hr.units) (pe_lc (own := [("d", 1)]) (by rfl) sc__law_all_primes.nd (pi_range2 (by rfl) T.m_range (pa_cons pe_int (pa_cons pe_int pa_nil))) (blkOk_by (own := [("d", 1)]) (N := N__law_all_primes) (sc := (relS ({ kind := .function, names := [(".0", .local), ("p", .cell), ("range", .globalImplicit)], isGenerator := false, isCoroutine := false, more := [] } : Scope) (defScope s__law_all_primes))) (by decide +kernel)) (fun _ _ _ _ _ => (pg_name (i := 1) sc__law_all_primes.nd rfl (.inl rfl))) (fun _ _ _ _ _ => (pts_one (PW.pt (pw_and (pt_cmpR op_eq (pe_op op_mod (pv 0) (pv 1)) pe_int (nomark _)) (pw_and1 (pt_cmpR op_lt (pv 1) (pv 0) (nomark _))))))) (fun _ _ _ _ _ => (pv 1))) (pe_lst pa_nil) (nomark _)))) (fun _ _ _ _ _ => (pv 0)))))), ?_⟩
    refine s_retN (ds := primesL.map PyData.int) ?_ q
    refine en_lcR2 (lo := 2) (hi := 1000) (fun p => ((irng 2 32).filter fun d => decide (p % d = 0) && decide (d < p)).isEmpty) PyData.int (ea_cons ev_c (ea_cons ev_c ea_nil)) ⟨by decide, by decide, by decide, by decide, by decide⟩ ?hw ?ht ?he ?hn
    case hw => exact fun _ => rfl
    case he => exact fun x _ _ _ => ed_int (ev_var rfl)
    case hn => exact fun _ _ _ _ => rfl
    case ht =>
      intro p p0 p1
      have hN := en_lcR2 (ta := tCons (tC (.int 2)) (tCons (tC (.int 32)) tNil)) (j := 1) (vs := [1]) (σ := [some (.int p), none]) (H := H) (t := tAnd (tTest (tOp rEq (tOp (rI (fun _ j => 0 < j) fun i j => .int (i % j)) (tVar 0) (tVar 1)) (tC (.int 0)))) (tTest (tOp (rI0 fun i j => .bl (decide (i < j))) (tVar 1) (tVar 0)))) (te := tVar 1) (lo := 2) (hi := 32)
        (fun d => decide (p % d = 0) && decide (d < p)) PyData.int (ea_cons ev_c (ea_cons ev_c ea_nil)) ⟨by decide, by decide, by decide, by decide, by decide⟩ (fun _ => rfl) (fun d d0 d1 => ?_) (fun d _ _ _ => ed_int (ev_var rfl)) (fun _ _ _ _ => rfl)
      · have h := ev_eqNil (K := K) hN (shaped_ints _)
        rw [show (((irng 2 32).filter fun d => decide (p % d = 0) && decide (d < p)).map PyData.int).isEmpty = ((irng 2 32).filter fun d => decide (p % d = 0) && decide (d < p)).isEmpty from by cases ((irng 2 32).filter fun d => decide (p % d = 0) && decide (d < p)) <;> rfl] at h
        exact et_test h
      · have h := rv_eq (H := H) (x := .int (p % d)) (y := .int 0) rfl
        rw [dI] at h
        exact et_and (et_test (ev_op (ev_op (ev_var (v := .int p) rfl) (ev_var (v := .int d) rfl) (rv_I (C := fun _ j => 0 < j) (show (0 : Int) < d by omega))) ev_c h)) fun _ => et_test (ev_op (ev_var (v := .int d) rfl) (ev_var (v := .int p) rfl) rv_I0)
def sp__law_prime : Sp := fun vs H Q _ => ∃ (pa la : Addr) (n : Nat), vs = [.ref pa, .ref la] ∧ H la = some (.lst (primesL.map V.int)) ∧ la ≠ pa ∧ PoolB H pa (n + 2) ∧ ∀ p H', p ∈ primesL → PoolB H' pa n → ExB pa H H' → Q (.int p) H'
theorem ok__law_prime (T : Txt K mg z) : FnOk P w K mg base CX0 2 z.a__law_prime z.d__law_prime ["pool", "primes"] (sp__law_prime) := by
  refine T.F__law_prime.ok sc__law_prime (fun vs H Q E h => ?_) (fun cdv A outer s H vs Q E hr h => ?_)
  · obtain ⟨pa, la, n, rfl, _⟩ := h
    rfl
  · obtain ⟨pa, la, n, rfl, hl, hne, pb, q⟩ := h
    refine ⟨_, (PSs.nox (pss_cons (ps_set (i := 2) sc__law_prime.nd rfl (.inl rfl) (pe_call (ok__law_take T) hr (by rfl) T.g__law_take T.F__law_take.kp T.b__law_take .nil pass0 (pa_cons (pv 0) (pa_cons pe_int pa_nil))))
      (pss_cons (ps_if (pt_cmpR op_eq (pv 2) pe_int (nomark _)) (pss_one (ps_ret (pe_ix (r := rIxL K) ix_list (pv 1) (pe_call (ok__law_take T) hr (by rfl) T.g__law_take T.F__law_take.kp T.b__law_take .nil pass0 (pa_cons (pv 0) (pa_cons pe_int pa_nil))) (fun _ _ => rfl)))) pss_nil)
      (pss_cons (ps_if (pt_cmpR op_eq (pv 2) pe_int (nomark _)) (pss_one (ps_ret (pe_ix (r := rIxL K) ix_list (pv 1) (pe_call (ok__law_take T) hr (by rfl) T.g__law_take T.F__law_take.kp T.b__law_take .nil pass0 (pa_cons (pv 0) (pa_cons pe_int pa_nil))) (fun _ _ => rfl)))) pss_nil)
      (pss_one (ps_ret (pe_ix (r := rIxL K) ix_list (pv 1) (pe_op op_sub pe_int (pe_call (ok__law_take T) hr (by rfl) T.g__law_take T.F__law_take.kp T.b__law_take .nil pass0 (pa_cons (pv 0) (pa_cons pe_int pa_nil)))) (fun _ _ => rfl)))))))), ?_⟩
    refine ⟨.ref pa, rfl, pa, 3, n + 1, rfl, by decide, by decide, pb, fun way H1 l1 u1 pb1 e1 => ?_⟩
    have hl1 := e1 _ _ hne hl
    have fin : ∀ (v : Int) (H2 : Hp), 0 ≤ v → v < 168 → PoolB H2 pa n → ExB pa H1 H2 → rIxL K (.ref la) (.int v) H2 Q := fun v H2 v0 v1 pb2 e2 => by
      obtain ⟨p, h1, h2⟩ := primesL_get (i := v.toNat) (by omega)
      refine ⟨la, _, v, .int p, rfl, rfl, .inl (.inl (e2 _ _ hne hl1)), ?_, q p H2 h2 pb2 (e1.trans e2)⟩
      rw [show v = ((v.toNat : Nat) : Int) by omega]
      exact atI_nat (j := v.toNat) h1
    refine ⟨.int way, rfl, rfl, _, rfl, it2 (fun _ => ?_) (fun c1 => ?_)⟩
    · exact ⟨.ref la, rfl, .ref pa, rfl, pa, 8, n, rfl, by decide, by decide, pb1, fun v H2 l2 u2 pb2 e2 => fin v H2 l2 (by omega) pb2 e2⟩
    refine ⟨.int way, rfl, rfl, _, rfl, it2 (fun _ => ?_) (fun c2 => ?_)⟩
    · exact ⟨.ref la, rfl, .ref pa, rfl, pa, 168, n, rfl, by decide, by decide, pb1, fun v H2 l2 u2 pb2 e2 => fin v H2 l2 (by omega) pb2 e2⟩
    · exact ⟨.ref la, rfl, .ref pa, rfl, pa, 12, n, rfl, by decide, by decide, pb1, fun v H2 l2 u2 pb2 e2 => ⟨167, v, rfl, rfl, fin (167 - v) H2 (by omega) (by omega) pb2 e2⟩⟩
/-- [_law_prime(pool, primes) for turn in range(m)] -/
theorem lc_primes {ta : TA} {j ip il : Nat} {σ : L2.St} {H : Hp} {pa la : Addr} {m : Int} {n : Nat} {Q : VK} (hA : EvA ta σ H [.int m]) (hm : 0 ≤ m ∧ m ≤ 1000) (hw : ∀ x, wipe ((wipe σ [j]).set j (some x)) [j] = wipe σ [j])
    (hi : ∀ x, ((wipe σ [j]).set j (some x))[ip]? = some (some (.ref pa))) (hil : ∀ x, ((wipe σ [j]).set j (some x))[il]? = some (some (.ref la))) (hl : H la = some (.lst (primesL.map V.int))) (hne : la ≠ pa) (pb : PoolB H pa (n + 2 * m.toNat))
    (q : ∀ (D : Addr) (qs : List Int) (H' : Hp), H D = none → qs.length = m.toNat → (∀ x ∈ qs, x ∈ primesL) → H' D = some (.lst (qs.map V.int)) → PoolB H' pa n → ExB pa H H' → Q (.ref D) H') :
    tLc (iRng1 ta) (gName j) tYes (tCall sp__law_prime [] E0 (tCons (tVar ip) (tCons (tVar il) tNil))) [j] σ H Q := hA H (Ex.refl H) _ fun H1 e1 => by
  refine ⟨m, rfl, by omega, by omega, fun D hD => lc_range (lo := 0) (n := m.toNat) (fun i H' => ∃ qs : List Int, qs.length = i ∧ (∀ x ∈ qs, x ∈ primesL) ∧ H' D = some (.lst (qs.map V.int)) ∧ i ≤ m.toNat ∧ PoolB H' pa (n + 2 * (m.toNat - i)) ∧ ExB pa H H')
    ⟨[], rfl, (fun x hx => nomatch hx), upd_same, Nat.zero_le _, (pb.up e1).dr hD, ExB.of (e1.trans (Ex.new hD))⟩ (fun i H2 hi2 hP => ?_) (fun H2 hP => ?_)⟩
  · obtain ⟨qs, h1, h2, h3, h4, pb2, e2⟩ := hP
    refine ⟨hw _, ?_⟩
    have hDp : D ≠ pa := (pb.up e1).ne hD
    refine ⟨.ref pa, hi _, .ref la, hil _, pa, la, n + 2 * (m.toNat - (i + 1)), rfl, e2 _ _ hne hl, hne, ?_, fun p H4 hp pb4 e4 => ?_⟩
    · rw [show n + 2 * (m.toNat - (i + 1)) + 2 = n + 2 * (m.toNat - i) by omega]
      exact pb2
    · refine ⟨_, e4 _ _ hDp h3, sz_lt ?_, qs ++ [p], ?_, ?_, ?_, by omega, ?_, ?_⟩
      · rw [List.length_map]
        omega
      · rw [List.length_append, h1]
        rfl
      · intro x hx
        rcases List.mem_append.mp hx with z | z
        · exact h2 x z
        · rcases List.mem_cons.mp z with z | z
          · rw [z]
            exact hp
          · cases z
      · rw [upd_same, List.map_append]
        rfl
      · obtain ⟨a, b, c, h, k⟩ := pb4
        exact ⟨a, b, c, by rw [upd_ne (Ne.symm hDp)]; exact h, k⟩
      · intro x o hx hox
        have hxD : x ≠ D := ne_of_none hox (fresh_back e1 hD)
        rw [upd_ne hxD]
        exact e4 _ _ hx (e2 _ _ hx hox)
  · obtain ⟨qs, h1, h2, h3, h4, pb2, e2⟩ := hP
    rw [show n + 2 * (m.toNat - m.toNat) = n by omega] at pb2
    exact q D qs H2 (fresh_back e1 hD) h1 h2 h3 pb2 e2
def sp__law_shared : Sp := fun vs H Q _ => ∃ a b : Int, vs = [.int a, .int b] ∧ Q (.int (Int.gcd a b)) H
theorem gcd_abs (a b : Int) : Int.gcd (if a < 0 then -a else a) (if b < 0 then -b else b) = Int.gcd a b := by
  rw [Int.gcd_eq_natAbs_gcd_natAbs, Int.gcd_eq_natAbs_gcd_natAbs]
  congr 1
  · split <;> omega
  · split <;> omega
theorem ok__law_shared (T : Txt K mg z) : FnOk P w K mg base CX0 1 z.a__law_shared z.d__law_shared ["one", "other"] (sp__law_shared) := by
  refine T.F__law_shared.ok sc__law_shared (fun vs H Q E h => ?_) (fun cdv A outer s H vs Q E hr h => ?_)
  · obtain ⟨a, b, rfl, _⟩ := h
    rfl
  · obtain ⟨a, b, rfl, q⟩ := h
    refine ⟨_, (PSs.nox (pss_cons (ps_set (i := 0) sc__law_shared.nd rfl (.inl rfl) (pe_callB call_abs (by rfl) T.m_abs (by decide +kernel) (pa_cons (pv 0) pa_nil)))
      (pss_cons (ps_set (i := 1) sc__law_shared.nd rfl (.inl rfl) (pe_callB call_abs (by rfl) T.m_abs (by decide +kernel) (pa_cons (pv 1) pa_nil)))
      (pss_cons (ps_while PassesOwn.never (pt_cmpR op_gt (pv 1) pe_int (nomark _)) (pss_one (ps_par (i := 0) (j := 1) (by rfl) sc__law_shared.nd rfl rfl (by decide) rfl rfl (pa_cons (pv 1) (pa_cons (pe_op op_mod (pv 0) (pv 1)) pa_nil)) (by rfl))))
      (pss_one (ps_ret (pv 0))))))), ?_⟩
    refine ⟨.int a, rfl, a, rfl, .int b, rfl, b, rfl, ?_⟩
    rw [← gcd_abs] at q
    have ha : 0 ≤ (if a < 0 then -a else a) := by split <;> omega
    have hb : 0 ≤ (if b < 0 then -b else b) := by split <;> omega
    show tSeq _ _ _ [some (.int (if a < 0 then -a else a)), some (.int (if b < 0 then -b else b))] H
    generalize (if a < 0 then -a else a) = a' at ha q
    generalize (if b < 0 then -b else b) = b' at hb q
    refine ⟨fun m σ H' => ∃ x y : Int, σ = [some (.int x), some (.int y)] ∧ H' = H ∧ 0 ≤ y ∧ 0 ≤ x ∧ Int.gcd x y = Int.gcd a' b' ∧ m = y.toNat, ⟨b'.toNat, a', b', rfl, rfl, hb, ha, rfl, rfl⟩, fun m σ H' hW => ?_⟩
    obtain ⟨x, y, rfl, rfl, hy, hx, hg, rfl⟩ := hW
    refine ⟨.int y, rfl, y, 0, rfl, rfl, _, rfl, it2 (fun e => ?_) (fun e => ?_)⟩
    · have e : (0 : Int) < y := of_decide_eq_true e
      refine ⟨fun σ2 H2 => σ2 = [some (.int y), some (.int (x % y))] ∧ H2 = H', fun σ2 H2 hn => ?_, ?_⟩
      · obtain ⟨rfl, rfl⟩ := hn
        have h1 : 0 ≤ x % y := Int.emod_nonneg x (by omega)
        have h2 : x % y < y := Int.emod_lt_of_pos x e
        exact ⟨(x % y).toNat, by omega, y, x % y, rfl, rfl, h1, hy, by rw [gcd_step, hg], rfl⟩
      · exact ⟨.int y, rfl, .int x, rfl, .int y, rfl, x, y, rfl, rfl, e, _, _, rfl, rfl, rfl⟩
    · have e : ¬ (0 : Int) < y := of_decide_eq_false e
      have e : y = 0 := by omega
      subst e
      refine ⟨.int x, rfl, ?_⟩
      rw [← hg, Int.gcd_zero_right] at q
      rw [show x = ((x.natAbs : Nat) : Int) by omega]
      exact q
theorem frac_red {t b : Int} (h1 : 1 ≤ b) (h2 : b < 1000000000000000000000000000000) (h3 : t < 1000000000000000000000000000000) (h4 : -1000000000000000000000000000000 < t) : FracOk (t / (Int.gcd t b : Int)) (b / (Int.gcd t b : Int)) ∧ 0 < (Int.gcd t b : Int) ∧ (Int.gcd t b : Int) ≤ b := by
  have d1 := Int.gcd_dvd_left t b
  have d2 := Int.gcd_dvd_right t b
  have g0 : Int.gcd t b ≠ 0 := fun e => by
    rw [e] at d2
    have := Int.zero_dvd.mp d2
    omega
  have gp : 0 < Int.gcd t b := by omega
  have gl := Int.le_of_dvd (by omega) d2
  have h5 := Int.gcd_ediv_gcd_ediv_gcd gp
  obtain ⟨x, hx⟩ := d1
  obtain ⟨y, hy⟩ := d2
  have e1 : t / (Int.gcd t b : Int) = x := Int.ediv_eq_of_eq_mul_right (by omega) hx
  have e2 : b / (Int.gcd t b : Int) = y := Int.ediv_eq_of_eq_mul_right (by omega) hy
  have gi : 0 < (Int.gcd t b : Int) := by omega
  refine ⟨?_, gi, gl⟩
  rw [e1, e2] at h5 ⊢
  generalize (Int.gcd t b : Int) = g at *
  have y0 : 0 < y := by
    by_cases z : 0 < y
    · exact z
    · have : g * y ≤ g * 0 := Int.mul_le_mul_of_nonneg_left (by omega) (by omega)
      omega
  have y1 : 1 * y ≤ g * y := Int.mul_le_mul_of_nonneg_right (by omega) (by omega)
  refine ⟨by omega, by omega, ?_, ?_, h5⟩
  · by_cases z : 0 ≤ x
    · have : 1 * x ≤ g * x := Int.mul_le_mul_of_nonneg_right (by omega) z
      omega
    · omega
  · by_cases z : x ≤ 0
    · have : g * x ≤ 1 * x := Int.mul_le_mul_of_nonpos_right (by omega) z
      omega
    · omega
def sp__law_fraction : Sp := fun vs H Q _ => ∃ (pa la : Addr) (n : Nat), vs = [.ref pa, .ref la] ∧ H la = some (.lst (primesL.map V.int)) ∧ la ≠ pa ∧ PoolB H pa (n + 30) ∧
  ∀ (t b : Int) (p : Addr) H', FracOk t b → PoolB H' pa n → ExB pa H H' → H p = none → H' p = some (.tup [.int t, .int b]) → Q (.ref p) H'
theorem ok__law_fraction (T : Txt K mg z) : FnOk P w K mg base CX0 4 z.a__law_fraction z.d__law_fraction ["pool", "primes"] (sp__law_fraction) := by
  refine T.F__law_fraction.ok sc__law_fraction (fun vs H Q E h => ?_) (fun cdv A outer s H vs Q E hr h => ?_)
  · obtain ⟨pa, la, n, rfl, _⟩ := h
    rfl
  · obtain ⟨pa, la, n, rfl, hl, hne, pb, q⟩ := h
    refine ⟨_, (PSs.nox (pss_cons (ps_set (i := 2) sc__law_fraction.nd rfl (.inl rfl) (pe_call (ok__law_number T) hr (by rfl) T.g__law_number T.F__law_number.kp T.b__law_number .nil pass0 (pa_cons (pv 0) pa_nil)))
      (pss_cons (ps_set (i := 3) sc__law_fraction.nd rfl (.inl rfl) (pe_callB (call_max2 rfl) (by rfl) T.m_max (by decide +kernel) (pa_cons pe_int (pa_cons (pe_call (ok__law_number T) hr (by rfl) T.g__law_number T.F__law_number.kp T.b__law_number .nil pass0 (pa_cons (pv 0) pa_nil)) pa_nil))))
      (pss_cons (ps_set (i := 4) sc__law_fraction.nd rfl (.inl rfl) (pe_call (ok__law_take T) (hr.mono (by decide)) (by rfl) T.g__law_take T.F__law_take.kp T.b__law_take .nil pass0 (pa_cons (pv 0) (pa_cons pe_int pa_nil))))
      (pss_cut (ps_if (pt_cmpR op_lt (pv 4) pe_int (nomark _)) (pss_cons (ps_set (i := 5) sc__law_fraction.nd rfl (.inl rfl) (pe_op op_add pe_int (pe_call (ok__law_take T) (hr.mono (by decide)) (by rfl) T.g__law_take T.F__law_take.kp T.b__law_take .nil pass0 (pa_cons (pv 0) (pa_cons pe_int pa_nil)))))
      (pss_cons (ps_for PassesOwn.never rfl (pi_range1 (by rfl) T.m_range (pa_cons (pe_op op_add pe_int (pe_call (ok__law_take T) (hr.mono (by decide)) (by rfl) T.g__law_take T.F__law_take.kp T.b__law_take .nil pass0 (pa_cons (pv 0) (pa_cons pe_int pa_nil)))) pa_nil)) (pg_name (i := 6) sc__law_fraction.nd rfl (.inl rfl)) (pss_one (ps_set (i := 5) sc__law_fraction.nd rfl (.inl rfl) (pe_op op_mulW (pv 5) (pe_call (ok__law_prime T) (hr.mono (by decide)) (by rfl) T.g__law_prime T.F__law_prime.kp T.b__law_prime .nil pass0 (pa_cons (pv 0) (pa_cons (pv 1) pa_nil)))))))
      (pss_cons (ps_set (i := 2) sc__law_fraction.nd rfl (.inl rfl) (pe_ix (r := rIxL K) ix_list (pe_lst (pa_cons (pv 5) (pa_cons (pv 2) pa_nil))) (pv 4) (fun _ _ => rfl)))
      (pss_one (ps_set (i := 3) sc__law_fraction.nd rfl (.inl rfl) (pe_ix (r := rIxL K) ix_list (pe_lst (pa_cons (pv 3) (pa_cons (pv 5) pa_nil))) (pv 4) (fun _ _ => rfl))))))) pss_nil)
      (pss_cut (ps_if (pt_cmpR op_eq (pe_call (ok__law_take T) (hr.mono (by decide)) (by rfl) T.g__law_take T.F__law_take.kp T.b__law_take .nil pass0 (pa_cons (pv 0) (pa_cons pe_int pa_nil))) pe_int (nomark _)) (pss_one (ps_set (i := 2) sc__law_fraction.nd rfl (.inl rfl) (pe_op op_sub pe_int (pv 2)))) pss_nil)
      (pss_cons (ps_set (i := 7) sc__law_fraction.nd rfl (.inl rfl) (pe_call (ok__law_shared T) (hr.mono (by decide)) (by rfl) T.g__law_shared T.F__law_shared.kp T.b__law_shared .nil pass0 (pa_cons (pv 2) (pa_cons (pv 3) pa_nil))))
      (pss_one (ps_ret (pe_tup (pa_cons (pe_op op_fdivW (pv 2) (pv 7)) (pa_cons (pe_op op_fdivW (pv 3) (pv 7)) pa_nil)))))))))))), ?_⟩
    refine ⟨.ref pa, rfl, pa, n + 24, rfl, pb, fun top H1 t0 t1 pb1 e1 => ?_⟩
    refine ⟨.ref pa, rfl, pa, n + 18, rfl, pb1, fun bot H2 b0 b1 pb2 e2 => ?_⟩
    refine ⟨1, bot, rfl, ?_⟩
    have hb : 1 ≤ (if bot > 1 then bot else 1) ∧ (if bot > 1 then bot else 1) < 1000000000000000000000000000000 := by split <;> omega
    refine ⟨.ref pa, rfl, pa, 4, n + 17, rfl, by decide, by decide, pb2, fun way H3 w0 w1 pb3 e3 => ?_⟩
    show tCut _ _ _ [some (.ref pa), some (.ref la), some (.int top), some (.int (if bot > 1 then bot else 1)), some (.int way), none, none, none] H3
    generalize (if bot > 1 then bot else 1) = bt at hb
    have e03 : ExB pa H H3 := (e1.trans e2).trans e3
    refine ⟨fun σ H' => ∃ (t b : Int) (y5 y6 : Option V), σ = [some (.ref pa), some (.ref la), some (.int t), some (.int b), some (.int way), y5, y6, none] ∧ 0 ≤ t ∧ t < 1000000000000000000000000000000 ∧ 1 ≤ b ∧ b < 1000000000000000000000000000000 ∧ PoolB H' pa (n + 1) ∧ ExB pa H H', ?_, fun σ H4 hM => ?_⟩
    · refine ⟨.int way, rfl, way, 2, rfl, rfl, _, rfl, it2 (fun c => ?_) (fun c => ?_)⟩
      · have c : way < 2 := of_decide_eq_true c
        refine ⟨.ref pa, rfl, pa, 6, n + 16, rfl, by decide, by decide, pb3, fun s0 H4 s1 s2 pb4 e4 => ⟨1, s0, rfl, rfl, ?_⟩⟩
        refine ⟨.ref pa, rfl, pa, 3, n + 15, rfl, by decide, by decide, pb4, fun r H5 r0 r1 pb5 e5 => ⟨1, r, rfl, rfl, ?_⟩⟩
        have e05 : ExB pa H H5 := (e03.trans e4).trans e5
        refine ⟨1 + r, rfl, by omega, by omega, for_range (lo := 0) (n := (1 + r).toNat) (fun i σ H' => (∃ (sm : Int) (y6 : Option V), σ = [some (.ref pa), some (.ref la), some (.int top), some (.int bt), some (.int way), some (.int sm), y6, none] ∧ 1 ≤ sm ∧ sm ≤ 6 * 1000 ^ i) ∧ PoolB H' pa (n + 15 - 2 * i) ∧ ExB pa H H') ⟨⟨1 + s0, none, rfl, by omega, by omega⟩, pb5, e05⟩ (fun i σ H6 hi hP => ?_) (fun σ H6 hP => ?_)⟩
        · obtain ⟨⟨sm, y6, rfl, m0, m1⟩, pb6, e6⟩ := hP
          have hi3 : i < 3 := by omega
          have hm1 : sm ≤ 6000000000 := by
            rcases (show i = 0 ∨ i = 1 ∨ i = 2 by omega) with rfl | rfl | rfl <;> simp at m1 <;> omega
          refine ⟨.int sm, rfl, .ref pa, rfl, .ref la, rfl, pa, la, n + 15 - 2 * (i + 1), rfl, e6 _ _ hne hl, hne, ?_, fun p H7 hp pb7 e7 => ?_⟩
          · rw [show n + 15 - 2 * (i + 1) + 2 = n + 15 - 2 * i by omega]
            exact pb6
          · have lo := primesL_lo hp
            refine ⟨sm, p, rfl, rfl, wide_mul (a := 40) (b := 20) (by omega) (by omega) (by decide) (by decide) (by decide), ⟨sm * p, _, rfl, ?_, ?_⟩, pb7, e6.trans e7⟩
            · have : 1 * 1 ≤ sm * p := Int.mul_le_mul m0 (by omega) (by decide) (by omega)
              omega
            · have h1 : sm * p ≤ 6 * 1000 ^ i * 1000 := Int.mul_le_mul m1 (by omega) (by omega) (by omega)
              rw [Int.pow_succ, ← Int.mul_assoc]
              exact h1
        · obtain ⟨⟨sm, y6, rfl, m0, m1⟩, pb6, e6⟩ := hP
          have hm1 : sm ≤ 6000000000 := by
            rcases (show (1 + r).toNat = 1 ∨ (1 + r).toNat = 2 ∨ (1 + r).toNat = 3 by omega) with z | z | z <;> rw [z] at m1 <;> simp at m1 <;> omega
          refine ⟨.int sm, rfl, .int top, rfl, sz_of (Nat.le_of_ble_eq_true rfl), fun l1 hl1 => ?_⟩
          have f1 : Ex H6 (upd H6 l1 (.lst [.int sm, .int top])) := Ex.new hl1
          have pb7 : PoolB (upd H6 l1 (.lst [.int sm, .int top])) pa (n + 1) := (pb6.up f1).less (by omega)
          have e7 : ExB pa H (upd H6 l1 (.lst [.int sm, .int top])) := e6.trans (ExB.of f1)
          have fin : ∀ (t b : Int) (H8 : Hp), Ex (upd H6 l1 (.lst [.int sm, .int top])) H8 → 0 ≤ t → t < 1000000000000000000000000000000 → 1 ≤ b → b < 1000000000000000000000000000000 → ∃ (t' b' : Int) (y5 y6' : Option V), [some (.ref pa), some (.ref la), some (.int t), some (.int b), some (.int way), some (.int sm), y6, none] = [some (.ref pa), some (.ref la), some (.int t'), some (.int b'), some (.int way), y5, y6', none] ∧ 0 ≤ t' ∧ t' < 1000000000000000000000000000000 ∧ 1 ≤ b' ∧ b' < 1000000000000000000000000000000 ∧ PoolB H8 pa (n + 1) ∧ ExB pa H H8 :=
            fun t b H8 x h1 h2 h3 h4 => ⟨t, b, _, _, rfl, h1, h2, h3, h4, pb7.up x, e7.trans (ExB.of x)⟩
          rcases (show way = 0 ∨ way = 1 by omega) with rfl | rfl
          · refine ⟨.int 0, rfl, l1, _, 0, .int sm, rfl, rfl, .inl (.inl upd_same), rfl, ?_⟩
            refine ⟨.int bt, rfl, .int sm, rfl, sz_of (Nat.le_of_ble_eq_true rfl), fun l2 hl2 => ?_⟩
            refine ⟨.int 0, rfl, l2, _, 0, .int bt, rfl, rfl, .inl (.inl upd_same), rfl, ?_⟩
            exact fin sm bt _ (Ex.new hl2) (by omega) (by omega) hb.1 hb.2
          · refine ⟨.int 1, rfl, l1, _, 1, .int top, rfl, rfl, .inl (.inl upd_same), rfl, ?_⟩
            refine ⟨.int bt, rfl, .int sm, rfl, sz_of (Nat.le_of_ble_eq_true rfl), fun l2 hl2 => ?_⟩
            refine ⟨.int 1, rfl, l2, _, 1, .int sm, rfl, rfl, .inl (.inl upd_same), rfl, ?_⟩
            exact fin top sm _ (Ex.new hl2) t0 t1 (by omega) (by omega)
      · exact ⟨top, bt, none, none, rfl, t0, t1, hb.1, hb.2, pb3.less (by omega), e03⟩
    · obtain ⟨t, b, y5, y6, rfl, t0, t1, b0, b1, pb4, e4⟩ := hM
      refine ⟨fun σ H' => ∃ (t : Int), σ = [some (.ref pa), some (.ref la), some (.int t), some (.int b), some (.int way), y5, y6, none] ∧ t < 1000000000000000000000000000000 ∧ -1000000000000000000000000000000 < t ∧ PoolB H' pa n ∧ ExB pa H H', ?_, fun σ H5 hM => ?_⟩
      · refine ⟨.ref pa, rfl, pa, 2, n, rfl, by decide, by decide, pb4, fun w H5 _ _ pb5 e5 => ⟨rfl, _, rfl, it2 (fun _ => ?_) (fun _ => ?_)⟩⟩
        · exact ⟨.int t, rfl, 0, t, rfl, rfl, 0 - t, rfl, by omega, by omega, pb5, e4.trans e5⟩
        · exact ⟨t, rfl, by omega, by omega, pb5, e4.trans e5⟩
      · obtain ⟨t, rfl, t1, t0, pb5, e5⟩ := hM
        obtain ⟨hF, g0, g1⟩ := frac_red b0 b1 t1 t0
        refine ⟨.int t, rfl, .int b, rfl, t, b, rfl, ?_⟩
        have wd : CDivW t (Int.gcd t b : Int) := wide_div (b := 120) g0 (by omega) (by decide) (by decide)
        have wd2 : CDivW b (Int.gcd t b : Int) := wide_div (b := 120) g0 (by omega) (by decide) (by decide)
        refine ⟨.int t, rfl, _, rfl, t, _, rfl, rfl, wd, .int b, rfl, _, rfl, b, _, rfl, rfl, wd2, sz_of (Nat.le_of_ble_eq_true rfl), fun p hp => ?_⟩
        exact q _ _ p _ hF (pb5.dr hp) (e5.trans (ExB.of (Ex.new hp))) (e5.free pb5.isL hp) upd_same
def sp__law_is_fraction : Sp := fun vs H Q _ => ∃ v d, vs = [v] ∧ Dt H v d ∧ ∀ H', Ex H H' → Q (.bl (dFrac d)) H'
theorem ok__law_is_fraction (T : Txt K mg z) : FnOk P w K mg base CX0 2 z.a__law_is_fraction z.d__law_is_fraction ["thing"] (sp__law_is_fraction) := by
  refine T.F__law_is_fraction.ok sc__law_is_fraction (fun vs H Q E h => ?_) (fun cdv A outer s H vs Q E hr h => ?_)
  · obtain ⟨v, d, rfl, _⟩ := h
    rfl
  · obtain ⟨v, d, rfl, hd, q⟩ := h
    refine ⟨_, (PSs.nox (pss_cons (ps_if (PW.pt (pw_or (pt_not (pt_val (pe_callB (r := rIsi K) call_isi (by rfl) T.m_isinstance (by decide +kernel) (pa_cons (pv 0) (pa_cons (pe_bltn (v := .ty "tuple") (by rfl) T.m_tuple (by decide +kernel) rfl) pa_nil))))) (pw_or1 (pt_cmpR op_ne (pe_callB (r := rLenS K) call_len_seq (by rfl) T.m_len (by decide +kernel) (pa_cons (pv 0) pa_nil)) pe_int (nomark _))))) (pss_one (ps_ret pe_bl)) pss_nil)
      (pss_cons (ps_if (pt_cmpR (r := rNeE) (op_neE hr.units) (pe_lc (own := [("part", 1)]) (by rfl) sc__law_is_fraction.nd (pi_tupK K (pv 0)) (blkOk_by (own := [("part", 1)]) (N := N__law_is_fraction) (sc := (defScope s__law_is_fraction)) (by decide +kernel)) (fun _ _ _ _ _ => (pg_name (i := 1) sc__law_is_fraction.nd rfl (.inl rfl))) (fun _ _ _ _ _ => (pts_one (PW.pt (pw_or (pt_not (pt_val (pe_callB (r := rIsi K) call_isi (by rfl) T.m_isinstance (by decide +kernel) (pa_cons (pv 1) (pa_cons (pe_bltn (v := .ty "int") (by rfl) T.m_int (by decide +kernel) rfl) pa_nil))))) (pw_or1 (pt_val (pe_callB (r := rIsi K) call_isi (by rfl) T.m_isinstance (by decide +kernel) (pa_cons (pv 1) (pa_cons (pe_bltn (v := .ty "bool") (by rfl) T.m_bool (by decide +kernel) rfl) pa_nil))))))))) (fun _ _ _ _ _ => (pv 1))) (pe_lst pa_nil) (nomark _)) (pss_one (ps_ret pe_bl)) pss_nil)
      (pss_one (ps_ret (pe_and (pe_cmpR op_gt (pe_ix (r := rIxT K) ix_tup (pv 0) pe_int (fun _ _ => rfl)) pe_int (nomark _)) (pe_one (pe_cmpR op_eq (pe_call (ok__law_shared T) hr (by rfl) T.g__law_shared T.F__law_shared.kp T.b__law_shared .nil pass0 (pa_cons (pe_ix (r := rIxT K) ix_tup (pv 0) pe_int (fun _ _ => rfl)) (pa_cons (pe_ix (r := rIxT K) ix_tup (pv 0) pe_int (fun _ _ => rfl)) pa_nil))) pe_int (nomark _))))))))), ?_⟩
    refine ⟨v, rfl, _, _, _, _, _, rfl, .ty _, (hd).ty, kit_ty ( kit_tup d), dTup d, rfl, it2 (fun e => ?_) (fun e => ?_)⟩
    · have z : dFrac d = false := by
        cases d <;> first | rfl | exact nomatch e
      have q := q H (Ex.refl H)
      rw [z] at q
      exact itT rfl q
    · have e : dTup d = true := by simpa using e
      match d, e, hd, q with
      | .tuple ds, _, hd, q =>
      obtain ⟨a, xs, rfl, ha, hx⟩ := hd.tup_get
      refine ⟨_, rfl, a, xs, rfl, .inr (.inl (.inl ha)), rfl, _, rfl, it2 (fun e => ?_) (fun e => ?_)⟩
      · rw [dI, hx.len] at e
        have e : (ds.length : Int) ≠ 2 := by simpa using e
        have z : dFrac (.tuple ds) = false := dFrac_pair (decide_eq_false (by omega))
        have q := q H (Ex.refl H)
        rw [z] at q
        exact q
      · rw [dI, hx.len] at e
        have e : (ds.length : Int) = 2 := by simpa using e
        match ds, e, hd, hx, q with
        | [d1, d2], _, hd, hx, q =>
        dsimp only [tNext_app]
        refine go_ifop (lcT_any (K := K) (σ := [some (.ref a), none]) (ds := [d1, d2]) (j := 1) (vs := [1]) (fun x => !dInt x || dBool x) (ev_var (i := 0) rfl) ha hx (Nat.le_of_ble_eq_true rfl) (fun _ => rfl) (fun _ => rfl) ?ht ?hk)
        case ht => exact fun H1 v d e1 hm hv => et_or (et_not (et_B (ev_isi (ev_var rfl) hv (kit_int d)))) fun _ => et_B (ev_isi (ev_var rfl) hv (kit_bool d))
        case hk =>
          intro p H2 acc hp e2 hp2 hacc
          refine ⟨Nat.zero_le _, fun p0 hp0 => ⟨p, p0, acc, rfl, rfl, (Ex.new hp0) _ _ hp2, upd_same, _, rfl, it2 (fun c => ?_) (fun c => ?_)⟩⟩
          · have e3 : Ex H (upd H2 p0 (.lst [])) := e2.trans (Ex.new hp0)
            have z : dFrac (.tuple [d1, d2]) = false := by
              cases z : dFrac (.tuple [d1, d2]) with
              | false => rfl
              | true =>
                obtain ⟨t, b, e, _⟩ := dFrac_get z
                cases e
                have hacc : acc.length = 0 := hacc
                rw [List.length_eq_zero_iff.mp hacc] at c
                exact nomatch c
            have q := q _ e3
            rw [z] at q
            exact q
          · have e3 : Ex H (upd H2 p0 (.lst [])) := e2.trans (Ex.new hp0)
            have c : acc.length = 0 := by
              cases acc with
              | nil => rfl
              | cons _ _ => exact nomatch c
            rw [c] at hacc
            have hnil := List.length_eq_zero_iff.mp hacc.symm
            have hw : ∀ x ∈ [d1, d2], dWhole x = true := fun x hx => by
              have := List.filter_eq_nil_iff.mp hnil x hx
              cases x <;> first | rfl | exact absurd rfl this
            obtain ⟨n, rfl⟩ := dWhole_get (hw d1 List.mem_cons_self)
            obtain ⟨m, rfl⟩ := dWhole_get (hw d2 (List.mem_cons_of_mem _ List.mem_cons_self))
            have ex := DtAll.ints_eq [n, m] hx
            subst ex
            have hS : SqT K (upd H2 p0 (.lst [])) a [.int n, .int m] := st_of (e3 _ _ ha)
            have q := q _ e3
            refine ⟨.ref a, rfl, a, _, 1, .int m, rfl, rfl, hS, rfl, m, 0, rfl, rfl, _, rfl, it2 (fun c1 => ?_) (fun c1 => ?_)⟩
            · have c1 : (0 : Int) < m := of_decide_eq_true c1
              refine ⟨.ref a, rfl, a, _, 0, .int n, rfl, rfl, hS, rfl, .ref a, rfl, a, _, 1, .int m, rfl, rfl, hS, rfl, n, m, rfl, rfl, ?_⟩
              have z : dFrac (.tuple [.int n, .int m]) = decide (V.int ((Int.gcd n m : Nat) : Int) = V.int 1) := by
                show (decide (1 ≤ m) && decide (Int.gcd n m = 1)) = _
                rw [decide_eq_true (by omega), Bool.true_and, dI]
                by_cases y : Int.gcd n m = 1
                · rw [decide_eq_true y, decide_eq_true (by omega)]
                · rw [decide_eq_false y, decide_eq_false (by omega)]
              rw [z] at q
              exact q
            · have c1 : ¬ (0 : Int) < m := of_decide_eq_false c1
              have z : dFrac (.tuple [.int n, .int m]) = false := by
                show (decide (1 ≤ m) && decide (Int.gcd n m = 1)) = false
                rw [decide_eq_false (by omega)]
                rfl
              rw [z] at q
              exact q
def spoiltD (t b y : Int) : List PyData :=
  (List.replicate 4 [PyData.tuple [.int (t * y), .int (b * y)]]).flatten ++ [.tuple [.int t, .int 0], .tuple [.int t, .int (0 - b)], .tuple [.int (0 - t), .int (0 - b)], .tuple [.int 0, .int b], .tuple [.int 0, .int y], .tuple [.int b, .int t]] ++
  [.tuple [.bool true, .int b], .tuple [.bool false, .int 1], .tuple [.int t, .bool true], .tuple [.int t, .bool false], .tuple [.none, .int b], .tuple [.int t, .none], .tuple [.int t, .str "1"]] ++
  [.tuple [.str (toString t), .int b], .list [.int t, .int b], .tuple [.int t], .tuple [.int t, .int b, .int 1], .tuple [.int t, .int b, .int b], .int b, .none] ++
  [.tuple [.tuple [.int t, .int b], .int b], .tuple [.list [.int t], .int b], .tuple [.int t, .tuple [.int b]], .dict [(.int t, .int b)], .tuple [.tuple [.int t, .int b]], .str (toString t), .tuple [.tuple [.int t, .int b], .int 1]]
theorem spoilt_shows {t b y : Int} (ht : t.natAbs < 2 ^ 120) (hb : b.natAbs < 2 ^ 120) (hy : y.natAbs < 2 ^ 120) : ∀ d ∈ spoiltD t b y, Sw 4 40000 d := by
  have I : ∀ x : Int, x.natAbs < 2 ^ 250 → Sh 0 1921 (.int x) := fun x h => sh_int (log_of h (by decide) (by decide))
  have it := I t (Nat.lt_trans ht (by decide))
  have ib := I b (Nat.lt_trans hb (by decide))
  have iy := I y (Nat.lt_trans hy (by decide))
  have it0 := I (0 - t) (by omega)
  have ib0 := I (0 - b) (by omega)
  have ity := I (t * y) (Nat.lt_trans (wide_lt ht hy) (by decide))
  have iby := I (b * y) (Nat.lt_trans (wide_lt hb hy) (by decide))
  have i0 := I 0 (by decide)
  have i1 := I 1 (by decide)
  have lt : t.natAbs.log2 < 1920 := log_of ht (by decide) (by decide)
  have lb : b.natAbs.log2 < 1920 := log_of hb (by decide) (by decide)
  have st : Sh 0 (10 * 1921 + 2) (.str (toString t)) := sh_str (okS_of _) (PyProof.Rows.int_text_len_1921 lt)
  have s1 : Sh 0 (10 * 1 + 2) (.str "1") := sh_str (okS_of _) (Nat.le_of_ble_eq_true rfl)
  have p2 : ∀ {k n k2 m : Nat} {d e : PyData}, Sh k n d → Sh k2 m e → Sh (max k (max k2 0) + 1) (3 + (n + 2 + (m + 2 + 0))) (.tuple [d, e]) := fun h1 h2 => sh_tup (sha_cons h1 (sha_cons h2 sha_nil))
  have p1 : ∀ {k n : Nat} {d : PyData}, Sh k n d → Sh (max k 0 + 1) (3 + (n + 2 + 0)) (.tuple [d]) := fun h1 => sh_tup (sha_cons h1 sha_nil)
  have pf := p2 it ib
  intro d hd
  simp only [spoiltD, List.replicate, List.flatten_cons, List.flatten_nil, List.append_nil, List.cons_append, List.nil_append, List.mem_cons, List.not_mem_nil, or_false] at hd
  rcases hd with rfl | rfl | rfl | rfl | rfl | rfl | rfl | rfl | rfl | rfl | rfl | rfl | rfl | rfl | rfl | rfl | rfl | rfl | rfl | rfl | rfl | rfl | rfl | rfl | rfl | rfl | rfl | rfl | rfl | rfl | rfl
  · exact (p2 ity iby).sw.le (by decide) (by decide)
  · exact (p2 ity iby).sw.le (by decide) (by decide)
  · exact (p2 ity iby).sw.le (by decide) (by decide)
  · exact (p2 ity iby).sw.le (by decide) (by decide)
  · exact (p2 it i0).sw.le (by decide) (by decide)
  · exact (p2 it ib0).sw.le (by decide) (by decide)
  · exact (p2 it0 ib0).sw.le (by decide) (by decide)
  · exact (p2 i0 ib).sw.le (by decide) (by decide)
  · exact (p2 i0 iy).sw.le (by decide) (by decide)
  · exact (p2 ib it).sw.le (by decide) (by decide)
  · exact (p2 sh_bl ib).sw.le (by decide) (by decide)
  · exact (p2 sh_bl i1).sw.le (by decide) (by decide)
  · exact (p2 it sh_bl).sw.le (by decide) (by decide)
  · exact (p2 it sh_bl).sw.le (by decide) (by decide)
  · exact (p2 sh_non ib).sw.le (by decide) (by decide)
  · exact (p2 it sh_non).sw.le (by decide) (by decide)
  · exact (p2 it s1).sw.le (by decide) (by decide)
  · exact (p2 st ib).sw.le (by decide) (by decide)
  · exact (sh_lst (sha_cons it (sha_cons ib sha_nil))).sw.le (by decide) (by decide)
  · exact (p1 it).sw.le (by decide) (by decide)
  · exact (sh_tup (sha_cons it (sha_cons ib (sha_cons i1 sha_nil)))).sw.le (by decide) (by decide)
  · exact (sh_tup (sha_cons it (sha_cons ib (sha_cons ib sha_nil)))).sw.le (by decide) (by decide)
  · exact ib.sw.le (by decide) (by decide)
  · exact sh_non.sw.le (by decide) (by decide)
  · exact (p2 pf ib).sw.le (by decide) (by decide)
  · exact (p2 (sh_lst (sha_cons it sha_nil)) ib).sw.le (by decide) (by decide)
  · exact (p2 it (p1 ib)).sw.le (by decide) (by decide)
  · exact (sw_dict1 lt lb).le (by decide) (by decide)
  · exact (p1 pf).sw.le (by decide) (by decide)
  · exact st.sw.le (by decide) (by decide)
  · exact (p2 pf i1).sw.le (by decide) (by decide)
def sp__law_spoilt : Sp := fun vs H Q _ => ∃ (pa fa la : Addr) (t b : Int) (n : Nat), vs = [.ref pa, .ref fa, .ref la] ∧ H fa = some (.tup [.int t, .int b]) ∧ FracOk t b ∧ H la = some (.lst (primesL.map V.int)) ∧ la ≠ pa ∧ PoolB H pa (n + 9) ∧
  ∀ (v : V) (d : PyData) (W H' : Hp), Sw 4 40000 d → Dt W v d → Ex W H' → (∀ b, IsL H b → W b = none) → PoolB H' pa n → ExB pa H H' → Q v H'
theorem ok__law_spoilt (T : Txt K mg z) : FnOk P w K mg base CX0 3 z.a__law_spoilt z.d__law_spoilt ["pool", "f", "primes"] (sp__law_spoilt) := by
  refine T.F__law_spoilt.ok sc__law_spoilt (fun vs H Q E h => ?_) (fun cdv A outer s H vs Q E hr h => ?_)
  · obtain ⟨pa, fa, la, t, b, n, rfl, _⟩ := h
    rfl
  · obtain ⟨pa, fa, la, t, b, n, rfl, hfa, hF, hl, hne, pb, q⟩ := h
    obtain ⟨b0, b1, t1, t0, _⟩ := hF
    refine ⟨_, (PSs.nox (pss_cons (ps_asg (pv 1) (pg_tup (by rfl) (pgs_cons (pg_name (i := 3) sc__law_spoilt.nd rfl (.inl rfl)) (pgs_cons (pg_name (i := 4) sc__law_spoilt.nd rfl (.inl rfl)) pgs_nil))))
      (pss_cons (ps_set (i := 5) sc__law_spoilt.nd rfl (.inl rfl) (pe_ix (r := rIxL K) ix_list (pe_lst (pa_cons pe_int (pa_cons pe_int (pa_cons (pe_call (ok__law_prime T) hr (by rfl) T.g__law_prime T.F__law_prime.kp T.b__law_prime .nil pass0 (pa_cons (pv 0) (pa_cons (pv 2) pa_nil))) (pa_cons pe_int (pa_cons (pe_op op_add (pe_op op_pow pe_int pe_int) pe_int) (pa_cons (pe_op op_sub (pe_op op_pow pe_int pe_int) pe_int) (pa_cons (pe_op op_add pe_int (pe_call (ok__law_far T) hr (by rfl) T.g__law_far T.F__law_far.kp T.b__law_far .nil pass0 (pa_cons (pv 0) (pa_cons pe_int pa_nil)))) pa_nil)))))))) (pe_call (ok__law_take T) (hr.mono (by decide)) (by rfl) T.g__law_take T.F__law_take.kp T.b__law_take .nil pass0 (pa_cons (pv 0) (pa_cons pe_int pa_nil))) (fun _ _ => rfl)))
      (pss_cons (ps_set (i := 6) sc__law_spoilt.nd rfl (.inl rfl) (pe_op op_rep (pe_lst (pa_cons (pe_tup (pa_cons (pe_op op_mulW (pv 3) (pv 5)) (pa_cons (pe_op op_mulW (pv 4) (pv 5)) pa_nil))) pa_nil)) pe_int))
      (pss_cons (ps_set (i := 6) sc__law_spoilt.nd rfl (.inl rfl) (pe_op op_cat (pv 6) (pe_lst (pa_cons (pe_tup (pa_cons (pv 3) (pa_cons pe_int pa_nil))) (pa_cons (pe_tup (pa_cons (pv 3) (pa_cons (pe_op op_sub pe_int (pv 4)) pa_nil))) (pa_cons (pe_tup (pa_cons (pe_op op_sub pe_int (pv 3)) (pa_cons (pe_op op_sub pe_int (pv 4)) pa_nil))) (pa_cons (pe_tup (pa_cons pe_int (pa_cons (pv 4) pa_nil))) (pa_cons (pe_tup (pa_cons pe_int (pa_cons (pv 5) pa_nil))) (pa_cons (pe_tup (pa_cons (pv 4) (pa_cons (pv 3) pa_nil))) pa_nil)))))))))
      (pss_cons (ps_set (i := 6) sc__law_spoilt.nd rfl (.inl rfl) (pe_op op_cat (pv 6) (pe_lst (pa_cons (pe_tup (pa_cons pe_bl (pa_cons (pv 4) pa_nil))) (pa_cons (pe_tup (pa_cons pe_bl (pa_cons pe_int pa_nil))) (pa_cons (pe_tup (pa_cons (pv 3) (pa_cons pe_bl pa_nil))) (pa_cons (pe_tup (pa_cons (pv 3) (pa_cons pe_bl pa_nil))) (pa_cons (pe_tup (pa_cons pe_non (pa_cons (pv 4) pa_nil))) (pa_cons (pe_tup (pa_cons (pv 3) (pa_cons pe_non pa_nil))) (pa_cons (pe_tup (pa_cons (pv 3) (pa_cons pe_str pa_nil))) pa_nil))))))))))
      (pss_cons (ps_set (i := 6) sc__law_spoilt.nd rfl (.inl rfl) (pe_op op_cat (pv 6) (pe_lst (pa_cons (pe_tup (pa_cons (pe_callTy call_str_int (by rfl) T.m_str (by decide +kernel) (pa_cons (pv 3) pa_nil)) (pa_cons (pv 4) pa_nil))) (pa_cons (pe_lst (pa_cons (pv 3) (pa_cons (pv 4) pa_nil))) (pa_cons (pe_tup (pa_cons (pv 3) pa_nil)) (pa_cons (pe_tup (pa_cons (pv 3) (pa_cons (pv 4) (pa_cons pe_int pa_nil)))) (pa_cons (pe_tup (pa_cons (pv 3) (pa_cons (pv 4) (pa_cons (pv 4) pa_nil)))) (pa_cons (pv 4) (pa_cons pe_non pa_nil))))))))))
      (pss_cons (ps_set (i := 6) sc__law_spoilt.nd rfl (.inl rfl) (pe_op op_cat (pv 6) (pe_lst (pa_cons (pe_tup (pa_cons (pv 1) (pa_cons (pv 4) pa_nil))) (pa_cons (pe_tup (pa_cons (pe_lst (pa_cons (pv 3) pa_nil)) (pa_cons (pv 4) pa_nil))) (pa_cons (pe_tup (pa_cons (pv 3) (pa_cons (pe_tup (pa_cons (pv 4) pa_nil)) pa_nil))) (pa_cons (pe_disp (pps_cons (pv 3) (pv 4) pps_nil) (by rfl) (by rfl) (fun z => by cases z) (by decide)) (pa_cons (pe_tup (pa_cons (pv 1) pa_nil)) (pa_cons (pe_callTy call_str_int (by rfl) T.m_str (by decide +kernel) (pa_cons (pv 3) pa_nil)) (pa_cons (pe_tup (pa_cons (pe_tup (pa_cons (pv 3) (pa_cons (pv 4) pa_nil))) (pa_cons pe_int pa_nil))) pa_nil))))))))))
      (pss_one (ps_ret (pe_ix (r := rIxL K) ix_list (pv 6) (pe_call (ok__law_take T) (hr.mono (by decide)) (by rfl) T.g__law_take T.F__law_take.kp T.b__law_take .nil pass0 (pa_cons (pv 0) (pa_cons pe_int pa_nil))) (fun _ _ => rfl)))))))))))), ?_⟩
    refine ⟨.ref fa, rfl, fa, _, rfl, .inl (.inl hfa), rfl, .int t, [.int b], rfl, .int b, [], rfl, rfl, ?_⟩
    refine ⟨.ref pa, rfl, .ref la, rfl, pa, la, n + 7, rfl, hl, hne, pb, fun p H1 hp pb1 e1 => ?_⟩
    refine ⟨10, 9, rfl, rfl, ⟨by decide, by decide, by decide⟩, _, 7, rfl, rfl, 2, 61, rfl, rfl, ⟨by decide, by decide, by decide⟩, _, 1, rfl, rfl, .ref pa, rfl, pa, 5, n + 2, rfl, by decide, pb1, fun fr H2 f0 f1 pb2 e2 => ?_⟩
    refine ⟨1, fr, rfl, rfl, sz_of (Nat.le_of_ble_eq_true rfl), fun bl hbl => ?_⟩
    refine ⟨.ref pa, rfl, pa, 7, n + 1, rfl, by decide, by decide, pb2.dr hbl, fun wi H3 w0 w1 pb3 e3 => ?_⟩
    have f1 : fr < 1000000000000000000000000000000 := f1
    have lp := primesL_lo hp
    have hbl3 := e3 _ _ (pb2.ne hbl) upd_same
    have e03 : ExB pa H H3 := ((e1.trans e2).trans (ExB.of (Ex.new hbl))).trans e3
    obtain ⟨y, hy, y0, y1⟩ : ∃ y : Int, atI [V.int 2, V.int 3, V.int p, V.int 999983, V.int (10 ^ (9 : Int).toNat + 7), V.int (2 ^ (61 : Int).toNat - 1), V.int (1 + fr)] wi = some (.int y) ∧ 1 ≤ y ∧ y ≤ 1000000000000000000000000000000 := by
      rcases (show wi = 0 ∨ wi = 1 ∨ wi = 2 ∨ wi = 3 ∨ wi = 4 ∨ wi = 5 ∨ wi = 6 by omega) with rfl | rfl | rfl | rfl | rfl | rfl | rfl
      · exact ⟨2, rfl, by decide, by decide⟩
      · exact ⟨3, rfl, by decide, by decide⟩
      · exact ⟨p, rfl, by omega, by omega⟩
      · exact ⟨999983, rfl, by decide, by decide⟩
      · exact ⟨_, rfl, by decide, by decide⟩
      · exact ⟨_, rfl, by decide, by decide⟩
      · exact ⟨1 + fr, rfl, by omega, by omega⟩
    refine ⟨bl, _, wi, .int y, rfl, rfl, sq_of hbl3, hy, ?_⟩
    have wt : t.natAbs < 2 ^ 120 := by omega
    have wb : b.natAbs < 2 ^ 120 := by omega
    have wy : y.natAbs < 2 ^ 120 := by omega
    have lt : t.natAbs.log2 < 1920 := log_of wt (by decide) (by decide)
    have x3 : Ex (hideL H) H3 := (hideL_ex H).keepB (hideL_lst pb.isL) e03
    have hfW : Dt (hideL H) (.ref fa) (.tuple [.int t, .int b]) := .tup (hideL_of hfa fun _ z => nomatch z) (.cons (.int _) (.cons (.int _) .nil))
    dsimp only [gName_app]
    -- some = [(top * by, bottom * by)] * 4
    refine q_asgF (W0 := hideL H) (d := .list (List.replicate 4 [PyData.tuple [.int (t * y), .int (b * y)]]).flatten) ?s1 x3 ?k1
    case s1 => exact ef_rep (k := 4) (ef_lst (efa_cons (ef_tup (efa_cons (ef_int fun H Q q => ⟨.int t, rfl, .int y, rfl, t, y, rfl, rfl, wide_mul wt wy (by decide) (by decide) (by decide), q⟩) (efa_cons (ef_int fun H Q q => ⟨.int b, rfl, .int y, rfl, b, y, rfl, rfl, wide_mul wb wy (by decide) (by decide) (by decide), q⟩) efa_nil)) (Nat.le_of_ble_eq_true rfl)) efa_nil) (Nat.le_of_ble_eq_true rfl)) (Nat.le_of_ble_eq_true rfl) (by decide)
    case k1 =>
    intro v4 W4 H4 g4 hv4
    have T2 : ∀ {W : Hp} {σ : L2.St} {ta tb : TE} {d e : PyData}, EvF ta σ W d → EvF tb σ W e → EvF (tTup (tCons ta (tCons tb tNil))) σ W (.tuple [d, e]) := fun h1 h2 => ef_tup (efa_cons h1 (efa_cons h2 efa_nil)) (Nat.le_of_ble_eq_true rfl)
    have S2 : ∀ {W : Hp} {σ : L2.St} {i j : Int} {k : Nat}, σ[k]? = some (some (.int j)) → EvF (tOp (rI0 fun i j => .int (i - j)) (tC (.int i)) (tVar k)) σ W (.int (i - j)) := fun h => ef_int fun H Q q => ⟨_, h, _, _, rfl, rfl, q⟩
    refine q_asgF (W0 := W4) (d := .list ((List.replicate 4 [PyData.tuple [.int (t * y), .int (b * y)]]).flatten ++ [.tuple [.int t, .int 0], .tuple [.int t, .int (0 - b)], .tuple [.int (0 - t), .int (0 - b)], .tuple [.int 0, .int b], .tuple [.int 0, .int y], .tuple [.int b, .int t]])) ?s2 g4.h ?k2
    case s2 => exact ef_cat (ef_var rfl hv4) (ef_lst (efa_cons (T2 (ef_vi rfl) ef_ci) (efa_cons (T2 (ef_vi rfl) (S2 rfl)) (efa_cons (T2 (S2 rfl) (S2 rfl)) (efa_cons (T2 ef_ci (ef_vi rfl)) (efa_cons (T2 ef_ci (ef_vi rfl)) (efa_cons (T2 (ef_vi rfl) (ef_vi rfl)) efa_nil)))))) (Nat.le_of_ble_eq_true rfl)) (Nat.le_of_ble_eq_true rfl)
    case k2 =>
    intro v5 W5 H5 g5 hv5
    refine q_asgF (W0 := W5) (d := .list ((List.replicate 4 [PyData.tuple [.int (t * y), .int (b * y)]]).flatten ++ [.tuple [.int t, .int 0], .tuple [.int t, .int (0 - b)], .tuple [.int (0 - t), .int (0 - b)], .tuple [.int 0, .int b], .tuple [.int 0, .int y], .tuple [.int b, .int t]] ++ [.tuple [.bool true, .int b], .tuple [.bool false, .int 1], .tuple [.int t, .bool true], .tuple [.int t, .bool false], .tuple [.none, .int b], .tuple [.int t, .none], .tuple [.int t, .str "1"]])) ?s3 g5.h ?k3
    case s3 => exact ef_cat (ef_var rfl hv5) (ef_lst (efa_cons (T2 ef_cb (ef_vi rfl)) (efa_cons (T2 ef_cb ef_ci) (efa_cons (T2 (ef_vi rfl) ef_cb) (efa_cons (T2 (ef_vi rfl) ef_cb) (efa_cons (T2 ef_cn (ef_vi rfl)) (efa_cons (T2 (ef_vi rfl) ef_cn) (efa_cons (T2 (ef_vi rfl) ef_cs) efa_nil))))))) (Nat.le_of_ble_eq_true rfl)) (Nat.le_of_ble_eq_true rfl)
    case k3 =>
    intro v6 W6 H6 g6 hv6
    refine q_asgF (W0 := W6) (d := .list ((List.replicate 4 [PyData.tuple [.int (t * y), .int (b * y)]]).flatten ++ [.tuple [.int t, .int 0], .tuple [.int t, .int (0 - b)], .tuple [.int (0 - t), .int (0 - b)], .tuple [.int 0, .int b], .tuple [.int 0, .int y], .tuple [.int b, .int t]] ++ [.tuple [.bool true, .int b], .tuple [.bool false, .int 1], .tuple [.int t, .bool true], .tuple [.int t, .bool false], .tuple [.none, .int b], .tuple [.int t, .none], .tuple [.int t, .str "1"]] ++ [.tuple [.str (toString t), .int b], .list [.int t, .int b], .tuple [.int t], .tuple [.int t, .int b, .int 1], .tuple [.int t, .int b, .int b], .int b, .none])) ?s4 g6.h ?k4
    case s4 => exact ef_cat (ef_var rfl hv6) (ef_lst (efa_cons (T2 (ef_stri rfl lt) (ef_vi rfl)) (efa_cons (ef_lst (efa_cons (ef_vi rfl) (efa_cons (ef_vi rfl) efa_nil)) (Nat.le_of_ble_eq_true rfl)) (efa_cons (ef_tup (efa_cons (ef_vi rfl) efa_nil) (Nat.le_of_ble_eq_true rfl)) (efa_cons (ef_tup (efa_cons (ef_vi rfl) (efa_cons (ef_vi rfl) (efa_cons ef_ci efa_nil))) (Nat.le_of_ble_eq_true rfl)) (efa_cons (ef_tup (efa_cons (ef_vi rfl) (efa_cons (ef_vi rfl) (efa_cons (ef_vi rfl) efa_nil))) (Nat.le_of_ble_eq_true rfl)) (efa_cons (ef_vi rfl) (efa_cons ef_cn efa_nil))))))) (Nat.le_of_ble_eq_true rfl)) (Nat.le_of_ble_eq_true rfl)
    case k4 =>
    intro v7 W7 H7 g7 hv7
    have g37 := ((g4.trans g5).trans g6).trans g7
    have hfW7 := hfW.up g37.w
    refine q_asgF (W0 := W7) (d := .list (spoiltD t b y)) ?s5 g7.h ?k5
    case s5 => exact ef_cat (ef_var rfl hv7) (ef_lst (efa_cons (T2 (ef_var rfl hfW7) (ef_vi rfl)) (efa_cons (T2 (ef_lst (efa_cons (ef_vi rfl) efa_nil) (Nat.le_of_ble_eq_true rfl)) (ef_vi rfl)) (efa_cons (T2 (ef_vi rfl) (ef_tup (efa_cons (ef_vi rfl) efa_nil) (Nat.le_of_ble_eq_true rfl))) (efa_cons (ef_dict1 (fun H Q q => ⟨.int t, rfl, q⟩) (fun H Q q => ⟨.int b, rfl, q⟩)) (efa_cons (ef_tup (efa_cons (ef_var rfl hfW7) efa_nil) (Nat.le_of_ble_eq_true rfl)) (efa_cons (ef_stri rfl lt) (efa_cons (T2 (T2 (ef_vi rfl) (ef_vi rfl)) ef_ci) efa_nil))))))) (Nat.le_of_ble_eq_true rfl)) (Nat.le_of_ble_eq_true rfl)
    case k5 =>
    intro v8 W8 H8 g8 hv8
    have g38 := g37.trans g8
    obtain ⟨sa, xs, rfl, hsa, hxs⟩ := hv8.lst_get
    have pb8 : PoolB H8 pa (n + 1) := pb3.up g38.hh
    have hW : ∀ c, IsL H c → W8 c = none := fun c hc => by
      refine g38.n c (fun z => ?_) (hideL_lst hc)
      obtain ⟨ys, hy⟩ := hc
      by_cases y : c = pa
      · obtain ⟨zs, hz⟩ := pb3.isL
        rw [y, hz] at z
        cases z
      · rw [e03 _ _ y hy] at z
        cases z
    have hsn : sa ≠ pa := fun z => by
      rw [z, hW pa pb.isL] at hsa
      cases hsa
    refine ⟨.ref sa, rfl, .ref pa, rfl, pa, 31, n, rfl, by decide, by decide, pb8, fun ix H9 i0 i1 pb9 e9 => ?_⟩
    have hlen : (spoiltD t b y).length = 31 := rfl
    have hix : ix.toNat < (spoiltD t b y).length := by rw [hlen]; omega
    obtain ⟨x, hx1, hx2⟩ := hxs.getD ix.toNat (List.getElem?_eq_getElem hix)
    refine ⟨sa, xs, ix, x, rfl, rfl, sq_of (e9 _ _ hsn (g8.h _ _ hsa)), atI_of i0 hx1, ?_⟩
    exact q x _ W8 H9 (spoilt_shows wt wb wy _ (List.getElem_mem hix)) hx2 (g8.h.keepB (hW pa pb.isL) e9) hW pb9 ((e03.trans (ExB.of g38.hh)).trans e9)
theorem comp_no {a b : Int} (ha : 2 ≤ a) (hb : 2 ≤ b) : primeB (a * b) = false := by
  cases e : primeB (a * b) with
  | false => rfl
  | true =>
    rcases primeB_div e ⟨b, rfl⟩ (by omega) with z | z
    · omega
    · have h : a * 2 ≤ a * b := Int.mul_le_mul_of_nonneg_left hb (by omega)
      omega
theorem out_no {n : Int} (h : n < 2 ∨ 1000 ≤ n) : primeB n = false := by
  cases e : primeB n with
  | false => rfl
  | true =>
    have := primeB_lo e
    omega
def badA (p q f : Int) : List PyData := [.int (p * q), .int (p * p), .int (0 - p), .int (1009 + f), .int (0 - f), .int 0, .int 1, .int 1000, .int 1009, .bool true, .bool false, .none, .str "2", .str (toString p), .list [.int p], .tuple [.int p]]
def badB (p q f : Int) : List PyData := [.dict [(.int p, .int 1)], .list [], .str "", .int 4, .int (10 * p), .int (p * q * f)]
theorem bad_ok {p q f : Int} (p0 : 2 ≤ p) (p1 : p < 1000) (q0 : 2 ≤ q) (q1 : q < 1000) (f0 : 1 ≤ f) (f1 : f ≤ 1000000000000000000000000000000) : ∀ x ∈ badA p q f ++ badB p q f, Sw 2 20000 x ∧ dPrime x = false := by
  have wp : p.natAbs < 2 ^ 10 := by omega
  have wq : q.natAbs < 2 ^ 10 := by omega
  have wf : f.natAbs < 2 ^ 110 := by omega
  have pq : (p * q).natAbs < 2 ^ 20 := by
    rw [Int.natAbs_mul]
    exact Nat.lt_of_lt_of_le (Nat.mul_lt_mul'' wp wq) (by decide)
  have pp : (p * p).natAbs < 2 ^ 20 := by
    rw [Int.natAbs_mul]
    exact Nat.lt_of_lt_of_le (Nat.mul_lt_mul'' wp wp) (by decide)
  have pqf : (p * q * f).natAbs < 2 ^ 130 := by
    rw [Int.natAbs_mul]
    exact Nat.lt_of_lt_of_le (Nat.mul_lt_mul'' pq wf) (by decide)
  have I : ∀ x : Int, x.natAbs < 2 ^ 250 → Sh 0 1921 (.int x) := fun x h => sh_int (log_of h (by decide) (by decide))
  have lp : p.natAbs.log2 < 1920 := log_of wp (by decide) (by decide)
  have l1 : (1 : Int).natAbs.log2 < 1920 := by decide
  have sp : Sh 0 (10 * 1921 + 2) (.str (toString p)) := sh_str (okS_of _) (PyProof.Rows.int_text_len_1921 lp)
  have s2 : Sh 0 (10 * 1 + 2) (.str "2") := sh_str (okS_of _) (Nat.le_of_ble_eq_true rfl)
  have two : 2 ≤ p * q := by
    have h : 2 * 2 ≤ p * q := Int.mul_le_mul p0 q0 (by decide) (by omega)
    omega
  have J : ∀ x : Int, x.natAbs < 2 ^ 250 → primeB x = false → Sw 2 20000 (.int x) ∧ dPrime (.int x) = false := fun x h z => ⟨(I x h).sw.le (by decide) (by decide), z⟩
  have up : ∀ {x : Int} {k : Nat}, x.natAbs < 2 ^ k → k ≤ 250 → x.natAbs < 2 ^ 250 := fun h hk => Nat.lt_of_lt_of_le h (Nat.pow_le_pow_right (by decide) hk)
  intro x hx
  simp only [badA, badB, List.cons_append, List.nil_append, List.mem_cons, List.not_mem_nil, or_false] at hx
  rcases hx with rfl | rfl | rfl | rfl | rfl | rfl | rfl | rfl | rfl | rfl | rfl | rfl | rfl | rfl | rfl | rfl | rfl | rfl | rfl | rfl | rfl | rfl
  · exact J _ (up pq (by decide)) (comp_no p0 q0)
  · exact J _ (up pp (by decide)) (comp_no p0 p0)
  · exact J _ (by omega) (out_no (by omega))
  · exact J _ (by omega) (out_no (by omega))
  · exact J _ (by omega) (out_no (by omega))
  · exact J _ (by decide) (out_no (by decide))
  · exact J _ (by decide) (out_no (by decide))
  · exact J _ (by decide) (out_no (by decide))
  · exact J _ (by decide) (out_no (by decide))
  · exact ⟨sh_bl.sw.le (by decide) (by decide), rfl⟩
  · exact ⟨sh_bl.sw.le (by decide) (by decide), rfl⟩
  · exact ⟨sh_non.sw.le (by decide) (by decide), rfl⟩
  · exact ⟨s2.sw.le (by decide) (by decide), rfl⟩
  · exact ⟨sp.sw.le (by decide) (by decide), rfl⟩
  · exact ⟨(sh_lst (sha_cons (I p (up wp (by decide))) sha_nil)).sw.le (by decide) (by decide), rfl⟩
  · exact ⟨(sh_tup (sha_cons (I p (up wp (by decide))) sha_nil)).sw.le (by decide) (by decide), rfl⟩
  · exact ⟨(sw_dict1 lp l1).le (by decide) (by decide), rfl⟩
  · exact ⟨(sh_lst sha_nil).sw.le (by decide) (by decide), rfl⟩
  · exact ⟨(sh_str (m := 0) (okS_of "") (Nat.le_of_ble_eq_true rfl)).sw.le (by decide) (by decide), rfl⟩
  · exact J _ (by decide) (comp_no (a := 2) (b := 2) (by decide) (by decide))
  · exact J _ (by omega) (comp_no (by decide) p0)
  · by_cases z : f = 1
    · rw [z, Int.mul_one]
      exact J _ (up pq (by decide)) (comp_no p0 q0)
    · exact J _ (up pqf (by decide)) (comp_no two (by omega))
def sp__law_bad_primes : Sp := fun vs H Q _ => ∃ (pa la : Addr) (n : Nat), vs = [.ref pa, .ref la] ∧ H la = some (.lst (primesL.map V.int)) ∧ la ≠ pa ∧ PoolB H pa (n + 9) ∧
  ∀ (v : V) (ds : List PyData) (W H' : Hp), ds.length = 22 → (∀ d ∈ ds, Sw 2 20000 d ∧ dPrime d = false) → Dt W v (.list ds) → Ex W H' → (∀ b, IsL H b → W b = none) → PoolB H' pa n → ExB pa H H' → Q v H'
theorem ok__law_bad_primes (T : Txt K mg z) : FnOk P w K mg base CX0 3 z.a__law_bad_primes z.d__law_bad_primes ["pool", "primes"] (sp__law_bad_primes) := by
  refine T.F__law_bad_primes.ok sc__law_bad_primes (fun vs H Q E h => ?_) (fun cdv A outer s H vs Q E hr h => ?_)
  · obtain ⟨pa, la, n, rfl, _⟩ := h
    rfl
  · obtain ⟨pa, la, n, rfl, hl, hne, pb, qq⟩ := h
    refine ⟨_, (PSs.nox (pss_cons (ps_set (i := 2) sc__law_bad_primes.nd rfl (.inl rfl) (pe_call (ok__law_prime T) hr (by rfl) T.g__law_prime T.F__law_prime.kp T.b__law_prime .nil pass0 (pa_cons (pv 0) (pa_cons (pv 1) pa_nil))))
      (pss_cons (ps_set (i := 3) sc__law_bad_primes.nd rfl (.inl rfl) (pe_call (ok__law_prime T) hr (by rfl) T.g__law_prime T.F__law_prime.kp T.b__law_prime .nil pass0 (pa_cons (pv 0) (pa_cons (pv 1) pa_nil))))
      (pss_cons (ps_set (i := 4) sc__law_bad_primes.nd rfl (.inl rfl) (pe_op op_add pe_int (pe_call (ok__law_far T) hr (by rfl) T.g__law_far T.F__law_far.kp T.b__law_far .nil pass0 (pa_cons (pv 0) (pa_cons pe_int pa_nil)))))
      (pss_cons (ps_set (i := 5) sc__law_bad_primes.nd rfl (.inl rfl) (pe_lst (pa_cons (pe_op op_mulW (pv 2) (pv 3)) (pa_cons (pe_op op_mulW (pv 2) (pv 2)) (pa_cons (pe_op op_sub pe_int (pv 2)) (pa_cons (pe_op op_add pe_int (pv 4)) (pa_cons (pe_op op_sub pe_int (pv 4)) (pa_cons pe_int (pa_cons pe_int (pa_cons pe_int (pa_cons pe_int (pa_cons pe_bl (pa_cons pe_bl (pa_cons pe_non (pa_cons pe_str (pa_cons (pe_callTy call_str_int (by rfl) T.m_str (by decide +kernel) (pa_cons (pv 2) pa_nil)) (pa_cons (pe_lst (pa_cons (pv 2) pa_nil)) (pa_cons (pe_tup (pa_cons (pv 2) pa_nil)) pa_nil))))))))))))))))))
      (pss_one (ps_ret (pe_op op_cat (pv 5) (pe_lst (pa_cons (pe_disp (pps_cons (pv 2) pe_int pps_nil) (by rfl) (by rfl) (fun z => by cases z) (by decide)) (pa_cons (pe_lst pa_nil) (pa_cons pe_str (pa_cons pe_int (pa_cons (pe_op op_mul pe_int (pv 2)) (pa_cons (pe_op op_mulW (pe_op op_mulW (pv 2) (pv 3)) (pv 4)) pa_nil))))))))))))))), ?_⟩
    refine ⟨.ref pa, rfl, .ref la, rfl, pa, la, n + 7, rfl, hl, hne, pb, fun p H1 hp pb1 e1 => ?_⟩
    refine ⟨.ref pa, rfl, .ref la, rfl, pa, la, n + 5, rfl, e1 _ _ hne hl, hne, pb1, fun q H2 hq pb2 e2 => ?_⟩
    refine ⟨.ref pa, rfl, pa, 5, n, rfl, by decide, pb2, fun fr H3 f0 f1 pb3 e3 => ⟨1, fr, rfl, rfl, ?_⟩⟩
    have f1 : fr < 1000000000000000000000000000000 := f1
    have lp := primesL_lo hp
    have lq := primesL_lo hq
    have e03 : ExB pa H H3 := (e1.trans e2).trans e3
    have wp : p.natAbs < 2 ^ 120 := by omega
    have wq : q.natAbs < 2 ^ 120 := by omega
    have wf : (1 + fr).natAbs < 2 ^ 120 := by omega
    have pq : (p * q).natAbs < 2 ^ 120 := by
      rw [Int.natAbs_mul]
      exact Nat.lt_of_lt_of_le (Nat.mul_lt_mul'' (show p.natAbs < 2 ^ 10 by omega) (show q.natAbs < 2 ^ 10 by omega)) (by decide)
    have lpp : p.natAbs.log2 < 1920 := log_of wp (by decide) (by decide)
    have x3 : Ex (hideL H) H3 := (hideL_ex H).keepB (hideL_lst pb.isL) e03
    have S2 : ∀ {W : Hp} {σ : L2.St} {i j : Int} {k : Nat}, σ[k]? = some (some (.int j)) → EvF (tOp (rI0 fun i j => .int (i - j)) (tC (.int i)) (tVar k)) σ W (.int (i - j)) := fun h => ef_int fun H Q q => ⟨_, h, _, _, rfl, rfl, q⟩
    have A2 : ∀ {W : Hp} {σ : L2.St} {i j : Int} {k : Nat}, σ[k]? = some (some (.int j)) → EvF (tOp (rI0 fun i j => .int (i + j)) (tC (.int i)) (tVar k)) σ W (.int (i + j)) := fun h => ef_int fun H Q q => ⟨_, h, _, _, rfl, rfl, q⟩
    have M2 : ∀ {W : Hp} {σ : L2.St} {i j : Int} {k l : Nat}, σ[l]? = some (some (.int i)) → σ[k]? = some (some (.int j)) → i.natAbs < 2 ^ 120 → j.natAbs < 2 ^ 120 → EvF (tOp (rI CMulW fun i j => .int (i * j)) (tVar l) (tVar k)) σ W (.int (i * j)) := fun h1 h2 w1 w2 => ef_int fun H Q q => ⟨_, h1, _, h2, _, _, rfl, rfl, wide_mul w1 w2 (by decide) (by decide) (by decide), q⟩
    dsimp only [gName_app]
    refine q_asgF (W0 := hideL H) (d := .list (badA p q (1 + fr))) ?s1 x3 ?k1
    case s1 => exact ef_lst (efa_cons (M2 rfl rfl wp wq) (efa_cons (M2 rfl rfl wp wp) (efa_cons (S2 rfl) (efa_cons (A2 rfl) (efa_cons (S2 rfl) (efa_cons ef_ci (efa_cons ef_ci (efa_cons ef_ci (efa_cons ef_ci (efa_cons ef_cb (efa_cons ef_cb (efa_cons ef_cn (efa_cons ef_cs (efa_cons (ef_stri rfl lpp) (efa_cons (ef_lst (efa_cons (ef_vi rfl) efa_nil) (Nat.le_of_ble_eq_true rfl)) (efa_cons (ef_tup (efa_cons (ef_vi rfl) efa_nil) (Nat.le_of_ble_eq_true rfl)) efa_nil)))))))))))))))) (Nat.le_of_ble_eq_true rfl)
    case k1 =>
    intro v4 W4 H4 g4 hv4
    have hC : EvF (tOp rCat (tVar 5) (tLst (tCons (tDisp [(tVar 2, tC (.int 1))]) (tCons (tLst tNil) (tCons (tC (.str "")) (tCons (tC (.int 4)) (tCons (tOp (rI CMul fun i j => .int (i * j)) (tC (.int 10)) (tVar 2)) (tCons (tOp (rI CMulW fun i j => .int (i * j)) (tOp (rI CMulW fun i j => .int (i * j)) (tVar 2) (tVar 3)) (tVar 4)) tNil)))))))) [some (.ref pa), some (.ref la), some (.int p), some (.int q), some (.int (1 + fr)), some v4] W4 (.list (badA p q (1 + fr) ++ badB p q (1 + fr))) := by
      refine ef_cat (ef_var rfl hv4) (ef_lst (efa_cons (ef_dict1 (fun H Q q => ⟨.int p, rfl, q⟩) (fun H Q q => q)) (efa_cons (ef_lst efa_nil (Nat.le_of_ble_eq_true rfl)) (efa_cons ef_cs (efa_cons ef_ci (efa_cons (ef_int fun H Q q => ⟨.int p, rfl, 10, p, rfl, rfl, .inl ⟨by decide, by decide⟩, q⟩) (efa_cons (ef_int fun H Q q' => ⟨.int p, rfl, .int q, rfl, p, q, rfl, rfl, wide_mul wp wq (by decide) (by decide) (by decide), .int (1 + fr), rfl, p * q, 1 + fr, rfl, rfl, wide_mul pq wf (by decide) (by decide) (by decide), q'⟩) efa_nil)))))) (Nat.le_of_ble_eq_true rfl)) (Nat.le_of_ble_eq_true rfl)
    refine hC W4 H4 (Ex.refl _) g4.h _ fun v5 W5 H5 g5 hv5 => ?_
    have g35 := g4.trans g5
    have hW : ∀ c, IsL H c → W5 c = none := fun c hc => by
      refine g35.n c (fun z => ?_) (hideL_lst hc)
      obtain ⟨ys, hy⟩ := hc
      by_cases y : c = pa
      · obtain ⟨zs, hz⟩ := pb3.isL
        rw [y, hz] at z
        cases z
      · rw [e03 _ _ y hy] at z
        cases z
    exact qq v5 _ W5 H5 rfl (bad_ok lp.1 lp.2 lq.1 lq.2 (by omega) (by omega)) hv5 g5.h hW (pb3.up g35.hh) (e03.trans (ExB.of g35.hh))
def sp__law_is (CF CP : Addr) : Sp := fun vs H Q _ => ∃ a, ((vs = [.ref a, .int 0] ∧ H a = some (ExK (.ref CF) a)) ∨ (vs = [.ref a, .int 1] ∧ H a = some (ExK (.ref CP) a))) ∧ ∀ H', Ex H H' → Q (.bl true) H'
theorem kit_cons {K : PySem.W.Frag} {t c : Value} {r : List Value} (h : PySem.W.kitOne K t c = some false) (q : PySem.W.kitAny K t r = some false) : PySem.W.kitAny K t (c :: r) = some false := by
  unfold PySem.W.kitAny
  rw [h]
  exact q
theorem ok__law_is (T : Txt K mg z) : FnOk P w K mg base CX0 1 z.a__law_is z.d__law_is ["caught", "due"] (sp__law_is z.k_NoFraction z.k_NoPrime) := by
  refine T.F__law_is.ok sc__law_is (fun vs H Q E h => ?_) (fun cdv A outer s H vs Q E hr h => ?_)
  · obtain ⟨a, ⟨rfl, _⟩ | ⟨rfl, _⟩, _⟩ := h
    · rfl
    · rfl
  · obtain ⟨a, ⟨rfl, ha⟩ | ⟨rfl, ha⟩, q⟩ := h
    · refine ⟨_, (PSs.nox (pss_cons (ps_set (i := 2) sc__law_is.nd rfl (.inl rfl) (pe_lst (pa_cons (pe_callB (r := rIsX K) call_isX (by rfl) T.m_isinstance (by decide +kernel) (pa_cons (pv 0) (pa_cons (pe_glob (v := .ref z.k_NoFraction) (by rfl) T.k_NoFraction rfl) pa_nil))) (pa_cons (pe_callB (r := rIsX K) call_isX (by rfl) T.m_isinstance (by decide +kernel) (pa_cons (pv 0) (pa_cons (pe_glob (v := .ref z.k_NoPrime) (by rfl) T.k_NoPrime rfl) pa_nil))) (pa_cons (pe_callB (r := rIsX K) call_isX (by rfl) T.m_isinstance (by decide +kernel) (pa_cons (pv 0) (pa_cons (pe_glob (v := .ref z.k_NoReadings) (by rfl) T.k_NoReadings rfl) pa_nil))) pa_nil)))))
      (pss_cons (ps_expr (pe_bm PySem.F.plainAttrs_list PySem.F.slot_list_append PySem.F.type_list_append mt_append (pv 2) (pa_cons (pe_callB (r := rIsX K) call_isX (by rfl) T.m_isinstance (by decide +kernel) (pa_cons (pv 0) (pa_cons (pe_glob (v := .ref z.k_NoBounds) (by rfl) T.k_NoBounds rfl) pa_nil))) pa_nil)))
      (pss_cons (ps_if (PW.pt (pw_or (pt_not (pt_val (pe_callB (r := rIsX K) call_isX (by rfl) T.m_isinstance (by decide +kernel) (pa_cons (pv 0) (pa_cons (pe_glob (v := .ref z.k_BackError) (by rfl) T.k_BackError rfl) pa_nil))))) (pw_or1 (pt_not (pt_val (pe_callB (r := rIsX K) call_isX (by rfl) T.m_isinstance (by decide +kernel) (pa_cons (pv 0) (pa_cons (pe_bltn (v := .ty "ValueError") (by rfl) T.m_ValueError (by decide +kernel) rfl) pa_nil)))))))) (pss_one (ps_ret pe_bl)) pss_nil)
      (pss_cons (ps_if (pt_val (pe_callB (r := rIsX K) call_isX (by rfl) T.m_isinstance (by decide +kernel) (pa_cons (pv 0) (pa_cons (pe_tup (pa_cons (pe_glob (v := .ref z.k_NoDegrees) (by rfl) T.k_NoDegrees rfl) (pa_cons (pe_glob (v := .ref z.k_NoName) (by rfl) T.k_NoName rfl) (pa_cons (pe_glob (v := .ref z.k_NoNumber) (by rfl) T.k_NoNumber rfl) (pa_cons (pe_glob (v := .ref z.k_NoPoly) (by rfl) T.k_NoPoly rfl) (pa_cons (pe_glob (v := .ref z.k_NoQuotient) (by rfl) T.k_NoQuotient rfl) (pa_cons (pe_glob (v := .ref z.k_NoRow) (by rfl) T.k_NoRow rfl) (pa_cons (pe_glob (v := .ref z.k_NoText) (by rfl) T.k_NoText rfl) (pa_cons (pe_glob (v := .ref z.k_NoWorths) (by rfl) T.k_NoWorths rfl) (pa_cons (pe_glob (v := .ref z.k_TooFew) (by rfl) T.k_TooFew rfl) (pa_cons (pe_glob (v := .ref z.k_TooMany) (by rfl) T.k_TooMany rfl) pa_nil))))))))))) pa_nil)))) (pss_one (ps_ret pe_bl)) pss_nil)
      (pss_one (ps_ret (pe_cmpR (r := rEqD K) (op_eqD hr.units) (pv 2) (pe_lc (own := [("k", 3)]) (by rfl) sc__law_is.nd (pi_range1 (by rfl) T.m_range (pa_cons pe_int pa_nil)) (blkOk_by (own := [("k", 3)]) (N := N__law_is) (sc := (defScope s__law_is)) (by decide +kernel)) (fun _ _ _ _ _ => (pg_name (i := 3) sc__law_is.nd rfl (.inl rfl))) (fun _ _ _ _ _ => pts_nil) (fun _ _ _ _ _ => (pe_cmpR op_eq (pv 3) (pv 1) (nomark _)))) (nomark _))))))))), ?_⟩
      refine ⟨.ref a, rfl, a, z.k_NoFraction, _, true, rfl, ha, T.xc_NoFraction, .inl ⟨_, .own _, T.ki_NoFraction_NoFraction⟩, ?_⟩
      refine ⟨.ref a, rfl, a, z.k_NoFraction, _, false, rfl, ha, T.xc_NoFraction, .inl ⟨_, .own _, T.ki_NoFraction_NoPrime⟩, ?_⟩
      refine ⟨.ref a, rfl, a, z.k_NoFraction, _, false, rfl, ha, T.xc_NoFraction, .inl ⟨_, .own _, T.ki_NoFraction_NoReadings⟩, ?_⟩
      refine ⟨sz_of (Nat.le_of_ble_eq_true rfl), fun l hl => ?_⟩
      have ha1 : (upd H l (.lst [.bl true, .bl false, .bl false])) a = some (ExK (.ref z.k_NoFraction) a) := by
        rw [upd_ne (ne_of_none ha hl)]
        exact ha
      refine ⟨.ref l, rfl, .inl ⟨rfl, _, .inl (.inl upd_same)⟩, .ref a, rfl, a, z.k_NoFraction, _, false, rfl, ha1, T.xc_NoFraction, .inl ⟨_, .own _, T.ki_NoFraction_NoBounds⟩, ?_⟩
      refine ⟨l, _, .bl false, rfl, rfl, upd_same, sz_lt (by decide), ?_⟩
      have e2 : Ex H (upd (upd H l (.lst [.bl true, .bl false, .bl false])) l (.lst ([.bl true, .bl false, .bl false] ++ [.bl false]))) := Ex.mut (Ex.new hl) hl
      have hd2 : Dt (upd (upd H l (.lst [.bl true, .bl false, .bl false])) l (.lst ([.bl true, .bl false, .bl false] ++ [.bl false]))) (.ref l) (.list [.bool true, .bool false, .bool false, .bool false]) := .lst upd_same (.cons (.bl _) (.cons (.bl _) (.cons (.bl _) (.cons (.bl _) .nil))))
      revert e2 hd2
      generalize upd (upd H l (.lst [.bl true, .bl false, .bl false])) l (.lst ([.bl true, .bl false, .bl false] ++ [.bl false])) = H2
      intro e2 hd2
      have ha2 := e2 _ _ ha
      refine ⟨.ref a, rfl, a, z.k_NoFraction, _, true, rfl, ha2, T.xc_NoFraction, .inl ⟨_, .own _, T.ki_NoFraction_BackError⟩, true, rfl, itF rfl ?_⟩
      refine ⟨.ref a, rfl, a, z.k_NoFraction, _, true, rfl, ha2, T.xc_NoFraction, .inl ⟨_, .ty _, T.kv_NoFraction⟩, true, rfl, itF rfl ?_⟩
      refine ⟨.ref a, rfl, sz_of (Nat.le_of_ble_eq_true rfl), fun tp htp => ?_⟩
      refine ⟨a, z.k_NoFraction, .ref tp, false, rfl, (Ex.new htp) _ _ ha2, T.xc_NoFraction, .inr ⟨tp, _, _, rfl, upd_same, .cons (.own _) (.cons (.own _) (.cons (.own _) (.cons (.own _) (.cons (.own _) (.cons (.own _) (.cons (.own _) (.cons (.own _) (.cons (.own _) (.cons (.own _) .nil))))))))),
        kit_cons T.ki_NoFraction_NoDegrees (kit_cons T.ki_NoFraction_NoName (kit_cons T.ki_NoFraction_NoNumber (kit_cons T.ki_NoFraction_NoPoly (kit_cons T.ki_NoFraction_NoQuotient (kit_cons T.ki_NoFraction_NoRow (kit_cons T.ki_NoFraction_NoText (kit_cons T.ki_NoFraction_NoWorths (kit_cons T.ki_NoFraction_TooFew (kit_cons T.ki_NoFraction_TooMany rfl)))))))))⟩, false, rfl, itF rfl ?_⟩
      refine ⟨.ref l, rfl, ?_⟩
      have hN : ∀ H3 : Hp, EvN (tLc (iRng1 (tCons (tC (.int 4)) tNil)) (gName 3) tYes (tOp rEq (tVar 3) (tVar 1)) [3]) [some (.ref a), some (.int 0), some (.ref l), none] H3 (((irng 0 4).filter fun _ => true).map fun x => .bool (decide (x = 0))) := fun H3 =>
        en_lcR1 (hi := 4) (fun _ => true) (fun x => .bool (decide (x = 0))) (ea_cons ev_c ea_nil) (by decide) (fun _ => rfl) (fun x _ _ => fun H4 e4 Q q => q H4 (Ex.refl _)) (fun x _ _ _ H4 _ Q q => ⟨.int x, rfl, .int 0, rfl, rfl, q _ _ (Ex.refl _) (by rw [dI]; exact .bl _)⟩) (fun _ _ _ _ => rfl)
      refine hN _ _ (Ex.refl _) _ fun p H5 hp e5 a5 => ?_
      refine ⟨_, _, ((hd2.up (Ex.new htp)).up e5).dp _ _ rfl, a5.dt.dp _ _ rfl, rfl, rfl, ?_⟩
      exact q H5 ((e2.trans (Ex.new htp)).trans e5)
    · refine ⟨_, (PSs.nox (pss_cons (ps_set (i := 2) sc__law_is.nd rfl (.inl rfl) (pe_lst (pa_cons (pe_callB (r := rIsX K) call_isX (by rfl) T.m_isinstance (by decide +kernel) (pa_cons (pv 0) (pa_cons (pe_glob (v := .ref z.k_NoFraction) (by rfl) T.k_NoFraction rfl) pa_nil))) (pa_cons (pe_callB (r := rIsX K) call_isX (by rfl) T.m_isinstance (by decide +kernel) (pa_cons (pv 0) (pa_cons (pe_glob (v := .ref z.k_NoPrime) (by rfl) T.k_NoPrime rfl) pa_nil))) (pa_cons (pe_callB (r := rIsX K) call_isX (by rfl) T.m_isinstance (by decide +kernel) (pa_cons (pv 0) (pa_cons (pe_glob (v := .ref z.k_NoReadings) (by rfl) T.k_NoReadings rfl) pa_nil))) pa_nil)))))
      (pss_cons (ps_expr (pe_bm PySem.F.plainAttrs_list PySem.F.slot_list_append PySem.F.type_list_append mt_append (pv 2) (pa_cons (pe_callB (r := rIsX K) call_isX (by rfl) T.m_isinstance (by decide +kernel) (pa_cons (pv 0) (pa_cons (pe_glob (v := .ref z.k_NoBounds) (by rfl) T.k_NoBounds rfl) pa_nil))) pa_nil)))
      (pss_cons (ps_if (PW.pt (pw_or (pt_not (pt_val (pe_callB (r := rIsX K) call_isX (by rfl) T.m_isinstance (by decide +kernel) (pa_cons (pv 0) (pa_cons (pe_glob (v := .ref z.k_BackError) (by rfl) T.k_BackError rfl) pa_nil))))) (pw_or1 (pt_not (pt_val (pe_callB (r := rIsX K) call_isX (by rfl) T.m_isinstance (by decide +kernel) (pa_cons (pv 0) (pa_cons (pe_bltn (v := .ty "ValueError") (by rfl) T.m_ValueError (by decide +kernel) rfl) pa_nil)))))))) (pss_one (ps_ret pe_bl)) pss_nil)
      (pss_cons (ps_if (pt_val (pe_callB (r := rIsX K) call_isX (by rfl) T.m_isinstance (by decide +kernel) (pa_cons (pv 0) (pa_cons (pe_tup (pa_cons (pe_glob (v := .ref z.k_NoDegrees) (by rfl) T.k_NoDegrees rfl) (pa_cons (pe_glob (v := .ref z.k_NoName) (by rfl) T.k_NoName rfl) (pa_cons (pe_glob (v := .ref z.k_NoNumber) (by rfl) T.k_NoNumber rfl) (pa_cons (pe_glob (v := .ref z.k_NoPoly) (by rfl) T.k_NoPoly rfl) (pa_cons (pe_glob (v := .ref z.k_NoQuotient) (by rfl) T.k_NoQuotient rfl) (pa_cons (pe_glob (v := .ref z.k_NoRow) (by rfl) T.k_NoRow rfl) (pa_cons (pe_glob (v := .ref z.k_NoText) (by rfl) T.k_NoText rfl) (pa_cons (pe_glob (v := .ref z.k_NoWorths) (by rfl) T.k_NoWorths rfl) (pa_cons (pe_glob (v := .ref z.k_TooFew) (by rfl) T.k_TooFew rfl) (pa_cons (pe_glob (v := .ref z.k_TooMany) (by rfl) T.k_TooMany rfl) pa_nil))))))))))) pa_nil)))) (pss_one (ps_ret pe_bl)) pss_nil)
      (pss_one (ps_ret (pe_cmpR (r := rEqD K) (op_eqD hr.units) (pv 2) (pe_lc (own := [("k", 3)]) (by rfl) sc__law_is.nd (pi_range1 (by rfl) T.m_range (pa_cons pe_int pa_nil)) (blkOk_by (own := [("k", 3)]) (N := N__law_is) (sc := (defScope s__law_is)) (by decide +kernel)) (fun _ _ _ _ _ => (pg_name (i := 3) sc__law_is.nd rfl (.inl rfl))) (fun _ _ _ _ _ => pts_nil) (fun _ _ _ _ _ => (pe_cmpR op_eq (pv 3) (pv 1) (nomark _)))) (nomark _))))))))), ?_⟩
      refine ⟨.ref a, rfl, a, z.k_NoPrime, _, false, rfl, ha, T.xc_NoPrime, .inl ⟨_, .own _, T.ki_NoPrime_NoFraction⟩, ?_⟩
      refine ⟨.ref a, rfl, a, z.k_NoPrime, _, true, rfl, ha, T.xc_NoPrime, .inl ⟨_, .own _, T.ki_NoPrime_NoPrime⟩, ?_⟩
      refine ⟨.ref a, rfl, a, z.k_NoPrime, _, false, rfl, ha, T.xc_NoPrime, .inl ⟨_, .own _, T.ki_NoPrime_NoReadings⟩, ?_⟩
      refine ⟨sz_of (Nat.le_of_ble_eq_true rfl), fun l hl => ?_⟩
      have ha1 : (upd H l (.lst [.bl false, .bl true, .bl false])) a = some (ExK (.ref z.k_NoPrime) a) := by
        rw [upd_ne (ne_of_none ha hl)]
        exact ha
      refine ⟨.ref l, rfl, .inl ⟨rfl, _, .inl (.inl upd_same)⟩, .ref a, rfl, a, z.k_NoPrime, _, false, rfl, ha1, T.xc_NoPrime, .inl ⟨_, .own _, T.ki_NoPrime_NoBounds⟩, ?_⟩
      refine ⟨l, _, .bl false, rfl, rfl, upd_same, sz_lt (by decide), ?_⟩
      have e2 : Ex H (upd (upd H l (.lst [.bl false, .bl true, .bl false])) l (.lst ([.bl false, .bl true, .bl false] ++ [.bl false]))) := Ex.mut (Ex.new hl) hl
      have hd2 : Dt (upd (upd H l (.lst [.bl false, .bl true, .bl false])) l (.lst ([.bl false, .bl true, .bl false] ++ [.bl false]))) (.ref l) (.list [.bool false, .bool true, .bool false, .bool false]) := .lst upd_same (.cons (.bl _) (.cons (.bl _) (.cons (.bl _) (.cons (.bl _) .nil))))
      revert e2 hd2
      generalize upd (upd H l (.lst [.bl false, .bl true, .bl false])) l (.lst ([.bl false, .bl true, .bl false] ++ [.bl false])) = H2
      intro e2 hd2
      have ha2 := e2 _ _ ha
      refine ⟨.ref a, rfl, a, z.k_NoPrime, _, true, rfl, ha2, T.xc_NoPrime, .inl ⟨_, .own _, T.ki_NoPrime_BackError⟩, true, rfl, itF rfl ?_⟩
      refine ⟨.ref a, rfl, a, z.k_NoPrime, _, true, rfl, ha2, T.xc_NoPrime, .inl ⟨_, .ty _, T.kv_NoPrime⟩, true, rfl, itF rfl ?_⟩
      refine ⟨.ref a, rfl, sz_of (Nat.le_of_ble_eq_true rfl), fun tp htp => ?_⟩
      refine ⟨a, z.k_NoPrime, .ref tp, false, rfl, (Ex.new htp) _ _ ha2, T.xc_NoPrime, .inr ⟨tp, _, _, rfl, upd_same, .cons (.own _) (.cons (.own _) (.cons (.own _) (.cons (.own _) (.cons (.own _) (.cons (.own _) (.cons (.own _) (.cons (.own _) (.cons (.own _) (.cons (.own _) .nil))))))))),
        kit_cons T.ki_NoPrime_NoDegrees (kit_cons T.ki_NoPrime_NoName (kit_cons T.ki_NoPrime_NoNumber (kit_cons T.ki_NoPrime_NoPoly (kit_cons T.ki_NoPrime_NoQuotient (kit_cons T.ki_NoPrime_NoRow (kit_cons T.ki_NoPrime_NoText (kit_cons T.ki_NoPrime_NoWorths (kit_cons T.ki_NoPrime_TooFew (kit_cons T.ki_NoPrime_TooMany rfl)))))))))⟩, false, rfl, itF rfl ?_⟩
      refine ⟨.ref l, rfl, ?_⟩
      have hN : ∀ H3 : Hp, EvN (tLc (iRng1 (tCons (tC (.int 4)) tNil)) (gName 3) tYes (tOp rEq (tVar 3) (tVar 1)) [3]) [some (.ref a), some (.int 1), some (.ref l), none] H3 (((irng 0 4).filter fun _ => true).map fun x => .bool (decide (x = 1))) := fun H3 =>
        en_lcR1 (hi := 4) (fun _ => true) (fun x => .bool (decide (x = 1))) (ea_cons ev_c ea_nil) (by decide) (fun _ => rfl) (fun x _ _ => fun H4 e4 Q q => q H4 (Ex.refl _)) (fun x _ _ _ H4 _ Q q => ⟨.int x, rfl, .int 1, rfl, rfl, q _ _ (Ex.refl _) (by rw [dI]; exact .bl _)⟩) (fun _ _ _ _ => rfl)
      refine hN _ _ (Ex.refl _) _ fun p H5 hp e5 a5 => ?_
      refine ⟨_, _, ((hd2.up (Ex.new htp)).up e5).dp _ _ rfl, a5.dt.dp _ _ rfl, rfl, rfl, ?_⟩
      exact q H5 ((e2.trans (Ex.new htp)).trans e5)
/-- the class of the error that is due -/
def dueR (CF CP : Addr) (wy : Int) (d e : PyData) (C : Addr) : Prop := (dFrac d = false ∧ C = CF) ∨ (dFrac d = true ∧ C = CP ∧ ((wy = 0 ∧ dPrime e = false) ∨ (wy ≠ 0 ∧ (dLst e = false ∨ ∃ ds, e = .list ds ∧ ∃ x ∈ ds, dPrime x = false))))
def sp__law_caught (CF CP : Addr) : Sp := fun vs H Q _ => ∃ (wy : Int) (v u : V) (d e : PyData) (C : Addr), vs = [.int wy, v, u] ∧ Dt H v d ∧ Dt H u e ∧ dueR CF CP wy d e C ∧ ∀ a, H a = none → Q (.ref a) (upd H a (ExK (.ref C) a))
theorem ok__law_caught (T : Txt K mg z) : FnOk P w K mg base CX0 5 z.a__law_caught z.d__law_caught ["way", "f", "p"] (sp__law_caught z.k_NoFraction z.k_NoPrime) := by
  refine T.F__law_caught.ok sc__law_caught (fun vs H Q E h => ?_) (fun cdv A outer s H vs Q E hr h => ?_)
  · obtain ⟨wy, v, u, d, e, C, rfl, _⟩ := h
    rfl
  · obtain ⟨wy, v, u, d, e, C, rfl, hd, he, hr2, q⟩ := h
    refine ⟨_, (PSs.nox (pss_cons (ps_set (i := 3) sc__law_caught.nd rfl (.inl rfl) pe_non)
      (pss_cons (ps_try_keep (i := 4) rfl rfl rfl sc__law_caught.nd rfl rfl ⟨by rfl, by decide, .inl T.k_BackError⟩ takes0 (fun W pn xe tk _ => (pss_one (ps_if (pt_cmpR op_eq (pv 0) pe_int (nomark _)) (pss_one (ps_expr (pe_callS (okX_rest_of T) hr (by rfl) T.g_rest_of T.F_rest_of.kp T.b_rest_of (passAt tk) (pa_cons (pv 1) (pa_cons (pv 2) pa_nil))))) (pss_one (ps_expr (pe_callS (okX_rests_of T) hr (by rfl) T.g_rests_of T.F_rests_of.kp T.b_rests_of (passAt tk) (pa_cons (pv 1) (pa_cons (pv 2) pa_nil)))))))) (fun a oe cls pn => (pss_one (ps_set (i := 3) sc__law_caught.nd rfl (.inl rfl) (pv 4)))))
      (pss_one (ps_ret (pv 3)))))), ?_⟩
    refine ⟨.int wy, rfl, rfl, _, rfl, it2 (fun hw => ?_) (fun hw => ?_)⟩
    · rw [dI] at hw
      have hw : wy = 0 := of_decide_eq_true hw
      refine ⟨v, rfl, u, rfl, v, d, u, e, rfl, hd, he, ?_⟩
      rcases hr2 with ⟨h1, rfl⟩ | ⟨h1, rfl, ⟨_, h2⟩ | ⟨h2, _⟩⟩
      · exact .inl ⟨h1, true, T.xm_NoFraction, fun _ => ⟨rfl, fun a ha => ⟨.ref a, rfl, .ref a, rfl, q a ha⟩⟩, fun z => nomatch z⟩
      · exact .inr ⟨h1, h2, true, T.xm_NoPrime, fun _ => ⟨rfl, fun a ha => ⟨.ref a, rfl, .ref a, rfl, q a ha⟩⟩, fun z => nomatch z⟩
      · exact absurd hw h2
    · rw [dI] at hw
      have hw : ¬ wy = 0 := of_decide_eq_false hw
      refine ⟨v, rfl, u, rfl, v, d, u, e, rfl, hd, he, ?_⟩
      rcases hr2 with ⟨h1, rfl⟩ | ⟨h1, rfl, ⟨h2, _⟩ | ⟨_, h2 | h2⟩⟩
      · exact .inl ⟨h1, true, T.xm_NoFraction, fun _ => ⟨rfl, fun a ha => ⟨.ref a, rfl, .ref a, rfl, q a ha⟩⟩, fun z => nomatch z⟩
      · exact absurd h2 hw
      · exact .inr (.inl ⟨h1, h2, true, T.xm_NoPrime, fun _ => ⟨rfl, fun a ha => ⟨.ref a, rfl, .ref a, rfl, q a ha⟩⟩, fun z => nomatch z⟩)
      · exact .inr (.inr ⟨h1, h2, true, T.xm_NoPrime, fun _ => ⟨rfl, fun a ha => ⟨.ref a, rfl, .ref a, rfl, q a ha⟩⟩, fun z => nomatch z⟩)
def sp__law_refused (CF CP : Addr) : Sp := fun vs H Q _ => ∃ (wy : Int) (v u : V) (d e : PyData), Sw 50 10000000 (.list [d, e]) ∧ Dt H v d ∧ Dt H u e ∧ ((vs = [.int wy, v, u, .int 0] ∧ dueR CF CP wy d e CF ∧ dFrac d = false) ∨ (vs = [.int wy, v, u, .int 1] ∧ dueR CF CP wy d e CP ∧ dFrac d = true)) ∧ ∀ H', Ex H H' → Q (.bl true) H'
theorem ok__law_refused (T : Txt K mg z) : FnG P w K mg base CX0 6 z.a__law_refused z.d__law_refused ["way", "f", "p", "due"] (sp__law_refused z.k_NoFraction z.k_NoPrime) := by
  refine okG T.F__law_refused sc__law_refused (fun vs H Q E h => ?_) (fun cdv A outer s H vs Q E hG hr h => ?_)
  · obtain ⟨wy, v, u, d, e, _, _, _, ⟨rfl, _⟩ | ⟨rfl, _⟩, _⟩ := h
    · rfl
    · rfl
  · obtain ⟨wy, v, u, d, e, hs, hd, he, ⟨rfl, hr2, h1⟩ | ⟨rfl, hr2, h1⟩, q⟩ := h
    · refine ⟨_, (PSs.nox (pss_cons (ps_set (i := 4) sc__law_refused.nd rfl (.inl rfl) (pe_callB (r := rReprX) (call_reprX T.sm hG hr.units) (by rfl) T.m_repr (by decide +kernel) (pa_cons (pe_lst (pa_cons (pv 1) (pa_cons (pv 2) pa_nil))) pa_nil)))
      (pss_one (ps_ret (pe_and (pe_call (ok__law_is T) (hr.mono (by decide)) (by rfl) T.g__law_is T.F__law_is.kp T.b__law_is .nil pass0 (pa_cons (pe_call (ok__law_caught T) hr (by rfl) T.g__law_caught T.F__law_caught.kp T.b__law_caught .nil pass0 (pa_cons (pv 0) (pa_cons (pv 1) (pa_cons (pv 2) pa_nil)))) (pa_cons (pv 3) pa_nil))) (pe_one (pe_cmpR op_eq (pe_callB (r := rReprX) (call_reprX T.sm hG hr.units) (by rfl) T.m_repr (by decide +kernel) (pa_cons (pe_lst (pa_cons (pv 1) (pa_cons (pv 2) pa_nil))) pa_nil)) (pv 4) (nomark _)))))))), ?_⟩
      refine ⟨v, rfl, u, rfl, sz_of (Nat.le_of_ble_eq_true rfl), fun l hl => ?_⟩
      have e1 : Ex H (upd H l (.lst [v, u])) := Ex.new hl
      refine ⟨.ref l, _, rfl, .lst upd_same (.cons (hd.up e1) (.cons (he.up e1) .nil)), hs, ?_⟩
      refine ⟨.int wy, rfl, v, rfl, u, rfl, wy, v, u, d, e, _, rfl, hd.up e1, he.up e1, hr2, fun a ha => ?_⟩
      have e2 := Ex.new (o := ExK (.ref z.k_NoFraction) a) ha
      refine ⟨.int 0, rfl, a, .inl ⟨rfl, upd_same⟩, fun H3 e3 => ⟨_, rfl, itT rfl ?_⟩⟩
      have e03 := (e1.trans e2).trans e3
      refine ⟨v, rfl, u, rfl, sz_of (Nat.le_of_ble_eq_true rfl), fun l2 hl2 => ?_⟩
      have e4 : Ex H3 (upd H3 l2 (.lst [v, u])) := Ex.new hl2
      refine ⟨.ref l2, _, rfl, .lst upd_same (.cons (hd.up (e03.trans e4)) (.cons (he.up (e03.trans e4)) .nil)), hs, _, rfl, rfl, ?_⟩
      rw [decide_eq_true rfl]
      exact q _ (e03.trans e4)
    · refine ⟨_, (PSs.nox (pss_cons (ps_set (i := 4) sc__law_refused.nd rfl (.inl rfl) (pe_callB (r := rReprX) (call_reprX T.sm hG hr.units) (by rfl) T.m_repr (by decide +kernel) (pa_cons (pe_lst (pa_cons (pv 1) (pa_cons (pv 2) pa_nil))) pa_nil)))
      (pss_one (ps_ret (pe_and (pe_call (ok__law_is T) (hr.mono (by decide)) (by rfl) T.g__law_is T.F__law_is.kp T.b__law_is .nil pass0 (pa_cons (pe_call (ok__law_caught T) hr (by rfl) T.g__law_caught T.F__law_caught.kp T.b__law_caught .nil pass0 (pa_cons (pv 0) (pa_cons (pv 1) (pa_cons (pv 2) pa_nil)))) (pa_cons (pv 3) pa_nil))) (pe_one (pe_cmpR op_eq (pe_callB (r := rReprX) (call_reprX T.sm hG hr.units) (by rfl) T.m_repr (by decide +kernel) (pa_cons (pe_lst (pa_cons (pv 1) (pa_cons (pv 2) pa_nil))) pa_nil)) (pv 4) (nomark _)))))))), ?_⟩
      refine ⟨v, rfl, u, rfl, sz_of (Nat.le_of_ble_eq_true rfl), fun l hl => ?_⟩
      have e1 : Ex H (upd H l (.lst [v, u])) := Ex.new hl
      refine ⟨.ref l, _, rfl, .lst upd_same (.cons (hd.up e1) (.cons (he.up e1) .nil)), hs, ?_⟩
      refine ⟨.int wy, rfl, v, rfl, u, rfl, wy, v, u, d, e, _, rfl, hd.up e1, he.up e1, hr2, fun a ha => ?_⟩
      have e2 := Ex.new (o := ExK (.ref z.k_NoPrime) a) ha
      refine ⟨.int 1, rfl, a, .inr ⟨rfl, upd_same⟩, fun H3 e3 => ⟨_, rfl, itT rfl ?_⟩⟩
      have e03 := (e1.trans e2).trans e3
      refine ⟨v, rfl, u, rfl, sz_of (Nat.le_of_ble_eq_true rfl), fun l2 hl2 => ?_⟩
      have e4 : Ex H3 (upd H3 l2 (.lst [v, u])) := Ex.new hl2
      refine ⟨.ref l2, _, rfl, .lst upd_same (.cons (hd.up (e03.trans e4)) (.cons (he.up (e03.trans e4)) .nil)), hs, _, rfl, rfl, ?_⟩
      rw [decide_eq_true rfl]
      exact q _ (e03.trans e4)
theorem go_op {r : R2} {ta tb : TE} {σ : L2.St} {H : Hp} {Q : VK} (h : ta σ H fun x H1 => tb σ H1 fun y H2 => r x y H2 Q) : tOp r ta tb σ H Q := h
/-- [_law_spoilt(pool, f, primes) for turn in range(8)] -/
theorem lc_spoilt {σ : L2.St} {H : Hp} {pa fa la : Addr} {t b : Int} {n : Nat} {Q : VK} (hw : ∀ x, wipe ((wipe σ [16]).set 16 (some x)) [16] = wipe σ [16]) (h3 : ∀ x, ((wipe σ [16]).set 16 (some x))[3]? = some (some (.ref pa))) (h4 : ∀ x, ((wipe σ [16]).set 16 (some x))[4]? = some (some (.ref fa))) (h1 : ∀ x, ((wipe σ [16]).set 16 (some x))[1]? = some (some (.ref la)))
    (hfa : H fa = some (.tup [.int t, .int b])) (hF : FracOk t b) (hl : H la = some (.lst (primesL.map V.int))) (hne : la ≠ pa) (pb : PoolB H pa (n + 90))
    (q : ∀ (D : Addr) (acc : List V) (H' : Hp), H D = none → (∀ x ∈ acc, ∃ d, Dt (rmv H' pa) x d ∧ Sw 4 40000 d) → H' D = some (.lst acc) → acc.length ≤ 8 → PoolB H' pa n → ExB pa H H' → Q (.ref D) H') :
    tLc (iRng1 (tCons (tC (.int 8)) tNil)) (gName 16) tYes (tCall sp__law_spoilt [] E0 (tCons (tVar 3) (tCons (tVar 4) (tCons (tVar 1) tNil)))) [16] σ H Q := by
  have hfn : fa ≠ pa := fun z => by
    obtain ⟨xs, hx⟩ := pb.isL
    rw [z, hx] at hfa
    cases hfa
  refine ⟨8, rfl, by decide, by decide, fun D hD => lc_range (lo := 0) (n := 8) (fun i H' => ∃ acc : List V, H' D = some (.lst acc) ∧ acc.length = i ∧ i ≤ 8 ∧ (∀ x ∈ acc, ∃ W d, Ex W H' ∧ W pa = none ∧ W D = none ∧ Dt W x d ∧ Sw 4 40000 d) ∧ PoolB H' pa (n + 9 * (10 - i)) ∧ ExB pa H H')
    ⟨[], upd_same, rfl, Nat.zero_le _, (fun x hx => nomatch hx), pb.dr hD, ExB.of (Ex.new hD)⟩ (fun i H2 hi2 hP => ?_) (fun H2 hP => ?_)⟩
  · obtain ⟨acc, g1, g2, g3, g4, pb2, e2⟩ := hP
    refine ⟨hw _, ?_⟩
    have hDp : D ≠ pa := pb.ne hD
    refine ⟨.ref pa, h3 _, .ref fa, h4 _, .ref la, h1 _, pa, fa, la, t, b, n + 9 * (10 - (i + 1)), rfl, e2 _ _ hfn hfa, hF, e2 _ _ hne hl, hne, ?_, fun v d W H4 hs hd hW hn pb4 e4 => ?_⟩
    · rw [show n + 9 * (10 - (i + 1)) + 9 = n + 9 * (10 - i) by omega]
      exact pb2
    · refine ⟨acc, e4 _ _ hDp g1, sz_lt (by omega), acc ++ [v], upd_same, ?_, by omega, fun x hx => ?_, ?_, ?_⟩
      · rw [List.length_append, g2]
        rfl
      · rcases List.mem_append.mp hx with z | z
        · obtain ⟨W1, d1, w1, w2, w3, w4, w5⟩ := g4 x z
          exact ⟨W1, d1, Ex.mut (w1.keepB w2 e4) w3, w2, w3, w4, w5⟩
        · rcases List.mem_cons.mp z with rfl | z
          · exact ⟨W, d, Ex.mut hW (hn D ⟨_, g1⟩), hn pa pb2.isL, hn D ⟨_, g1⟩, hd, hs⟩
          · cases z
      · obtain ⟨a, b, c, h, k⟩ := pb4
        exact ⟨a, b, c, by rw [upd_ne (Ne.symm hDp)]; exact h, k⟩
      · intro x o hx hox
        rw [upd_ne (ne_of_none hox hD)]
        exact e4 _ _ hx (e2 _ _ hx hox)
  · obtain ⟨acc, g1, g2, g3, g4, pb2, e2⟩ := hP
    exact q D acc H2 hD (fun x hx => by
      obtain ⟨W, d, w1, w2, _, w4, w5⟩ := g4 x hx
      exact ⟨d, w4.up (rmv_in w1 w2), w5⟩) g1 (by omega) (pb2.less (by omega)) e2
/-- what is no list of primes, of whatever is shown -/
def LOk (W : Hp) (x : V) : Prop := ∃ e, Dt W x e ∧ Sw 4 3000000 e ∧ (dLst e = false ∨ ∃ ds, e = .list ds ∧ ∃ y ∈ ds, dPrime y = false)
theorem LOk.up {W W' : Hp} {x : V} (h : LOk W x) (e : Ex W W') : LOk W' x := by
  obtain ⟨d, h1, h2⟩ := h
  exact ⟨d, h1.up e, h2⟩
theorem sw_prime {x : Int} (h : x ∈ primesL) : Sw 2 20000 (.int x) := by
  have := primesL_lo h
  exact (sh_int (log_of (k := 20) (by omega) (by decide) (by decide))).sw.le (by decide) (by decide)
/-- [row[:at] + [one] + row[at:] for one in none] -/
theorem lc_lists {σ : L2.St} {H : Hp} {pa na ra : Addr} {at_ : Int} {xs : List V} {ds : List PyData} {qs : List Int} {Q : VK} (hw : ∀ x, wipe ((wipe σ [17]).set 17 (some x)) [17] = wipe σ [17]) (h7 : σ[7]? = some (some (.ref na))) (h17 : ∀ x, ((wipe σ [17]).set 17 (some x))[17]? = some (some x))
    (h9 : ∀ x, ((wipe σ [17]).set 17 (some x))[9]? = some (some (.ref ra))) (h10 : ∀ x, ((wipe σ [17]).set 17 (some x))[10]? = some (some (.int at_))) (hP : IsL H pa) (hna : rmv H pa na = some (.lst xs)) (hxs : DtAll (rmv H pa) xs ds) (hds : ∀ d ∈ ds, Sw 2 20000 d ∧ dPrime d = false) (hlen : ds.length = 22)
    (hra : H ra = some (.lst (qs.map V.int))) (hql : qs.length ≤ 60) (hq : ∀ x ∈ qs, x ∈ primesL)
    (q : ∀ (D : Addr) (acc : List V) (H' : Hp), H D = none → Ex H H' → (∀ x ∈ acc, LOk (rmv H' pa) x) → H' D = some (.lst acc) → acc.length = 22 → Q (.ref D) H') :
    tLc (iList K (tVar 7)) (gName 17) tYes (tOp rCat (tOp rCat (tSl (rSlL K) (tVar 9) tNoPart (tPart (tVar 10))) (tLst (tCons (tVar 17) tNil))) (tSl (rSlL K) (tVar 9) (tPart (tVar 10)) tNoPart)) [17] σ H Q := by
  have hna0 := rmv_ex H pa _ _ hna
  refine ⟨.ref na, h7, na, rfl, ⟨_, sq_of hna0⟩, fun D hD => lc_list (xs := xs) (fun i H' => Ex H H' ∧ ∃ acc : List V, H' D = some (.lst acc) ∧ acc.length = i ∧ ∀ x ∈ acc, ∃ W, Ex W H' ∧ W pa = none ∧ W D = none ∧ LOk W x)
    ⟨Ex.new hD, [], upd_same, rfl, fun x hx => nomatch hx⟩ (fun i H' _ p => sq_of (p.1 _ _ hna0)) (fun i x H' hi p => ?_) (fun H' p => ?_)⟩
  · obtain ⟨e1, acc, g1, g2, g3⟩ := p
    obtain ⟨d, hd, hxd⟩ := hxs.get i hi
    obtain ⟨hd1, hd2⟩ := hds d (List.mem_of_getElem? hd)
    have hi22 : i < 22 := by
      have := (List.getElem?_eq_some_iff.mp hd).1
      omega
    have hDp : D ≠ pa := fun z => by
      obtain ⟨ys, hy⟩ := hP
      rw [z, hy] at hD
      cases hD
    refine ⟨hw x, ?_⟩
    obtain ⟨rs, er, r1, r2⟩ := cut_map qs none (some at_)
    obtain ⟨ss, es, s1, s2⟩ := cut_map qs (some at_) none
    refine ⟨.ref ra, h9 _, .int at_, h10 _, at_, rfl, ra, _, rfl, sq_of (e1 _ _ hra), fun p1 hp1 => ?_⟩
    rw [er]
    refine ⟨x, h17 _, sz_of (Nat.le_of_ble_eq_true rfl), fun p2 hp2 => ?_⟩
    refine ⟨p1, p2, _, _, rfl, rfl, (Ex.new hp2) _ _ upd_same, upd_same, sz_of ?_, fun p3 hp3 => ?_⟩
    · rw [List.length_map]
      show rs.length + 1 ≤ 100000
      omega
    have x3 : Ex H' (upd (upd (upd H' p1 (.lst (rs.map V.int))) p2 (.lst [x])) p3 (.lst (rs.map V.int ++ [x]))) := ((Ex.new hp1).trans (Ex.new hp2)).trans (Ex.new hp3)
    have h3 : (upd (upd (upd H' p1 (.lst (rs.map V.int))) p2 (.lst [x])) p3 (.lst (rs.map V.int ++ [x]))) p3 = some (.lst (rs.map V.int ++ [x])) := upd_same
    revert x3 h3
    generalize upd (upd (upd H' p1 (.lst (rs.map V.int))) p2 (.lst [x])) p3 (.lst (rs.map V.int ++ [x])) = H3
    intro x3 h3
    refine ⟨.ref ra, h9 _, .int at_, h10 _, at_, rfl, ra, _, rfl, sq_of (x3 _ _ (e1 _ _ hra)), fun p4 hp4 => ?_⟩
    rw [es]
    refine ⟨p3, p4, _, _, rfl, rfl, (Ex.new hp4) _ _ h3, upd_same, sz_of ?_, fun p5 hp5 => ?_⟩
    · rw [List.length_append, List.length_map, List.length_map]
      show rs.length + 1 + ss.length ≤ 100000
      omega
    have x5 : Ex H' (upd (upd H3 p4 (.lst (ss.map V.int))) p5 (.lst (rs.map V.int ++ [x] ++ ss.map V.int))) := (x3.trans (Ex.new hp4)).trans (Ex.new hp5)
    have h5 : (upd (upd H3 p4 (.lst (ss.map V.int))) p5 (.lst (rs.map V.int ++ [x] ++ ss.map V.int))) p5 = some (.lst (rs.map V.int ++ [x] ++ ss.map V.int)) := upd_same
    have hp5n : ∀ c o, H' c = some o → p5 ≠ c := fun c o hc z => by
      have := (x3.trans (Ex.new (o := .lst (ss.map V.int)) hp4)) _ _ hc
      rw [← z, hp5] at this
      cases this
    revert x5 h5
    generalize upd (upd H3 p4 (.lst (ss.map V.int))) p5 (.lst (rs.map V.int ++ [x] ++ ss.map V.int)) = H5
    intro x5 h5
    have e5 : Ex H H5 := e1.trans x5
    refine ⟨acc, x5 _ _ g1, sz_lt (by omega), Ex.mut e5 hD, acc ++ [.ref p5], upd_same, ?_, fun y hy => ?_⟩
    · rw [List.length_append, g2]
      rfl
    · rcases List.mem_append.mp hy with z | z
      · obtain ⟨W, w1, w2, w3, w4⟩ := g3 y z
        exact ⟨W, Ex.mut (w1.trans x5) w3, w2, w3, w4⟩
      · rcases List.mem_cons.mp z with rfl | z
        · have c1 : Ex (rmv H pa) (rmv (rmv H5 D) pa) := rmv_in (rmv_in ((rmv_ex H pa).trans e5) (fresh_back (rmv_ex H pa) hD)) rmv_at
          have hpp : p5 ≠ pa := by
            obtain ⟨ys, hy⟩ := hP
            exact hp5n _ _ (e1 _ _ hy)
          have hpD : p5 ≠ D := hp5n _ _ g1
          refine ⟨rmv (rmv H5 D) pa, Ex.mut ((rmv_ex _ _).trans (rmv_ex _ _)) ?_, rmv_at, ?_, .list (rs.map PyData.int ++ [d] ++ ss.map PyData.int), ?_, ?_, .inr ⟨_, rfl, d, ?_, hd2⟩⟩
          · rw [rmv_ne hDp, rmv_at]
          · rw [rmv_ne hDp, rmv_at]
          · refine .lst (xs := rs.map V.int ++ [x] ++ ss.map V.int) ?_ (DtAll.app (DtAll.app (DtAll.ints rs) (.cons (hxd.up c1) .nil)) (DtAll.ints ss))
            rw [rmv_ne hpp, rmv_ne hpD]
            exact h5
          · refine (sw_lst (swa_all (k := 2) (n := 20000) fun y hy => ?_)).le (by decide) ?_
            · rcases List.mem_append.mp hy with z | z
              · rcases List.mem_append.mp z with z | z
                · obtain ⟨w, hw1, rfl⟩ := List.mem_map.mp z
                  exact sw_prime (hq w (r2 w hw1))
                · rcases List.mem_cons.mp z with rfl | z
                  · exact hd1
                  · cases z
              · obtain ⟨w, hw1, rfl⟩ := List.mem_map.mp z
                exact sw_prime (hq w (s2 w hw1))
            · rw [List.length_append, List.length_append, List.length_map, List.length_map]
              show 2 + (20000 + 2) * (rs.length + 1 + ss.length) ≤ 3000000
              omega
          · exact List.mem_append.mpr (.inl (List.mem_append.mpr (.inr List.mem_cons_self)))
        · cases z
  · obtain ⟨e1, acc, g1, g2, g3⟩ := p
    refine q D acc H' hD e1 (fun x hx => ?_) g1 (by rw [g2, hxs.len, hlen])
    obtain ⟨W, w1, w2, w3, w4⟩ := g3 x hx
    exact w4.up (rmv_in w1 w2)
/-- [one for one in bad if not _law_is_fraction(one)] -/
theorem lc_flt {σ : L2.St} {H : Hp} {pa ba : Addr} {xs : List V} {Q : VK} (hw : ∀ x, wipe ((wipe σ [17]).set 17 (some x)) [17] = wipe σ [17]) (h13 : σ[13]? = some (some (.ref ba))) (h17 : ∀ x, ((wipe σ [17]).set 17 (some x))[17]? = some (some x))
    (hP : IsL H pa) (hba : H ba = some (.lst xs)) (hxs : ∀ x ∈ xs, ∃ d, Dt (rmv H pa) x d ∧ Sw 4 40000 d) (hlen : xs.length ≤ 16)
    (q : ∀ (D : Addr) (acc : List V) (H' : Hp), H D = none → Ex H H' → (∀ x ∈ acc, ∃ d, Dt (rmv H pa) x d ∧ Sw 4 40000 d ∧ dFrac d = false) → H' D = some (.lst acc) → acc.length ≤ 16 → Q (.ref D) H') :
    tLc (iList K (tVar 13)) (gName 17) (tNot (tTest (tCall sp__law_is_fraction [] E0 (tCons (tVar 17) tNil)))) (tVar 17) [17] σ H Q := by
  refine ⟨.ref ba, h13, ba, rfl, ⟨_, sq_of hba⟩, fun D hD => lc_list (xs := xs) (fun i H' => Ex H H' ∧ ∃ acc : List V, H' D = some (.lst acc) ∧ acc.length ≤ i ∧ i ≤ 16 ∧ ∀ x ∈ acc, ∃ d, Dt (rmv H pa) x d ∧ Sw 4 40000 d ∧ dFrac d = false)
    ⟨Ex.new hD, [], upd_same, Nat.le_refl _, Nat.zero_le _, fun x hx => nomatch hx⟩ (fun i H' _ p => sq_of (p.1 _ _ hba)) (fun i x H' hi p => ?_) (fun H' p => ?_)⟩
  · obtain ⟨e1, acc, g1, g2, g3, g4⟩ := p
    obtain ⟨d, hd1, hd2⟩ := hxs x (List.mem_of_getElem? hi)
    have hi16 : i < 16 := by
      have := (List.getElem?_eq_some_iff.mp hi).1
      omega
    refine ⟨hw x, x, h17 _, x, d, rfl, (hd1.up (rmv_ex H pa)).up e1, fun H2 e2 => ⟨dFrac d, rfl, ?_⟩⟩
    cases hf : dFrac d with
    | true => exact ⟨e1.trans e2, acc, e2 _ _ g1, by omega, by omega, g4⟩
    | false =>
      refine ⟨x, h17 _, acc, e2 _ _ g1, sz_lt (by omega), Ex.mut (e1.trans e2) hD, acc ++ [x], upd_same, ?_, by omega, fun y hy => ?_⟩
      · rw [List.length_append]
        show acc.length + 1 ≤ i + 1
        omega
      · rcases List.mem_append.mp hy with z | z
        · exact g4 y z
        · rcases List.mem_cons.mp z with rfl | z
          · exact ⟨d, hd1, hd2, hf⟩
          · cases z
  · obtain ⟨e1, acc, g1, g2, g3, g4⟩ := p
    exact q D acc H' hD e1 g4 g1 (by omega)
theorem rest_lay (t b p : Int) : (restD t b p).canLay0 = true ∧ (restD t b p).depth ≤ 0 := by
  unfold restD
  split
  · exact ⟨rfl, Nat.le_refl 0⟩
  · exact ⟨rfl, Nat.le_refl 0⟩
def aheadD (t b p : Int) : PyData := .list [restD t b p, .list ([p, 2].map fun p => restD t b p)]
theorem ahead_lay (t b p : Int) : (aheadD t b p).canLay0 = true ∧ (aheadD t b p).depth ≤ 2 := by
  refine lay_list fun d hd => ?_
  rcases List.mem_cons.mp hd with rfl | hd
  · have := rest_lay t b p
    exact ⟨this.1, by omega⟩
  · rcases List.mem_cons.mp hd with rfl | hd
    · refine lay_list (k := 0) fun d hd => ?_
      obtain ⟨w, _, rfl⟩ := List.mem_map.mp hd
      exact rest_lay t b w
    · cases hd
theorem ef_tupOf {K : PySem.W.Frag} {σ : L2.St} {W0 : Hp} {a : Addr} {xs : List V} {ds : List PyData} {j : Nat} (h : σ[j]? = some (some (.ref a))) (ha : W0 a = some (.lst xs)) (hx : DtAll W0 xs ds) :
    EvF (tCB (fun xs H Q => ∃ p ys, xs = [.ref p] ∧ ((SqL K H p ys ∧ ∀ l, H l = none → Q (.ref l) (upd H l (.tup ys))) ∨ (SqT K H p ys ∧ Q (.ref p) H))) (tCons (tVar j) tNil)) σ W0 (.tuple ds) := fun W H1 e0 e1 Q q =>
  ⟨.ref a, h, a, xs, rfl, .inl ⟨sq_of (e1 _ _ (e0 _ _ ha)), fun l hl => by
    have g := Grow.new (o := .tup xs) e1 hl
    exact q _ _ _ g (.tup upd_same ((hx.up e0).up g.w))⟩⟩
/-- the eight that are no lists of primes -/
def eightA (p : Int) (qs : List Int) : List PyData := [.none, .int p, .str "", .tuple [.int p], .dict [], .dict [(.int p, .int 1)], .bool true, .tuple (qs.map PyData.int)]
theorem eightA_ok {p : Int} {qs : List Int} (hp : p ∈ primesL) (hq : ∀ x ∈ qs, x ∈ primesL) (hl : qs.length ≤ 60) : ∀ e ∈ eightA p qs, Sw 4 3000000 e ∧ dLst e = false := by
  have lo := primesL_lo hp
  have lp : p.natAbs.log2 < 1920 := log_of (k := 20) (by omega) (by decide) (by decide)
  intro e he
  simp only [eightA, List.mem_cons, List.not_mem_nil, or_false] at he
  rcases he with rfl | rfl | rfl | rfl | rfl | rfl | rfl | rfl
  · exact ⟨sh_non.sw.le (by decide) (by decide), rfl⟩
  · exact ⟨(sw_prime hp).le (by decide) (by decide), rfl⟩
  · exact ⟨(sh_str (m := 0) (okS_of "") (Nat.le_of_ble_eq_true rfl)).sw.le (by decide) (by decide), rfl⟩
  · exact ⟨(sw_tup (swa_cons (sw_prime hp) swa_nil)).le (by decide) (by decide), rfl⟩
  · exact ⟨sw_dict0.le (by decide) (by decide), rfl⟩
  · exact ⟨(sw_dict1 lp (by decide)).le (by decide) (by decide), rfl⟩
  · exact ⟨sh_bl.sw.le (by decide) (by decide), rfl⟩
  · refine ⟨(sw_tup (swa_all (k := 2) (n := 20000) fun y hy => ?_)).le (by decide) ?_, rfl⟩
    · obtain ⟨w, hw1, rfl⟩ := List.mem_map.mp hy
      exact sw_prime (hq w hw1)
    · rw [List.length_map]
      show 3 + (20000 + 2) * qs.length ≤ 3000000
      omega
def eightB : List PyData := [.none, .tuple [], .list [], .tuple [.int 0, .int 0], .tuple [.int 1, .int 0], .tuple [.int 2, .int 2], .str "1", .int 7]
theorem eightB_ok : ∀ e ∈ eightB, Sw 4 40000 e := by
  have I : ∀ x : Int, x.natAbs < 2 ^ 20 → Sw 0 1921 (.int x) := fun x h => (sh_int (log_of h (by decide) (by decide))).sw
  have p2 : ∀ x y : Int, x.natAbs < 2 ^ 20 → y.natAbs < 2 ^ 20 → Sw 4 40000 (.tuple [.int x, .int y]) := fun x y h1 h2 => (sw_tup (swa_cons (I x h1) (swa_cons (I y h2) swa_nil))).le (by decide) (by decide)
  intro e he
  simp only [eightB, List.mem_cons, List.not_mem_nil, or_false] at he
  rcases he with rfl | rfl | rfl | rfl | rfl | rfl | rfl | rfl
  · exact sh_non.sw.le (by decide) (by decide)
  · exact (sw_tup swa_nil).le (by decide) (by decide)
  · exact (sw_lst swa_nil).le (by decide) (by decide)
  · exact p2 _ _ (by decide) (by decide)
  · exact p2 _ _ (by decide) (by decide)
  · exact p2 _ _ (by decide) (by decide)
  · exact (sh_str (m := 1) (okS_of "1") (Nat.le_of_ble_eq_true rfl)).sw.le (by decide) (by decide)
  · exact (I _ (by decide)).le (by decide) (by decide)
theorem DtAll.mem {W : Hp} {vs : List V} {ds : List PyData} (h : DtAll W vs ds) {x : V} (hx : x ∈ vs) : ∃ d ∈ ds, Dt W x d := by
  obtain ⟨i, hi⟩ := List.getElem?_of_mem hx
  obtain ⟨d, h1, h2⟩ := h.get i hi
  exact ⟨d, List.mem_of_getElem? h1, h2⟩
def sp_law (K : PySem.W.Frag) : Sp := fun vs H Q _ => ∃ (a : Addr) (ns : List Int), vs = [.ref a] ∧ SqL K H a (ns.map V.int) ∧ ∀ H', Q (.bl true) H'
theorem law_start {H : Hp} {a : Addr} {ns : List Int} (hl : ns.length ≤ 63) (ho : Only H) (hS : SqL K H a (ns.map V.int)) : sp_law K [.ref a] H (fun v _ => v = .bl true) fun _ _ _ => False := ⟨a, ns, rfl, hS, fun _ => rfl⟩
theorem ok_law (T : Txt K mg z) : FnG P w K mg base CX0 7 z.a_law z.d_law ["script"] (sp_law K) := by
  refine okG T.F_law sc_law (fun vs H Q E h => ?_) (fun cdv A outer s H vs Q E hG hr h => ?_)
  · obtain ⟨a, ns, rfl, _⟩ := h
    rfl
  · obtain ⟨a, ns, rfl, hS, q⟩ := h
    refine ⟨_, (PSs.nox (pss_cons (ps_set (i := 1) sc_law.nd rfl (.inr rfl) (pe_call0 (ok__law_all_primes T) (hr.mono (by decide)) (by rfl) T.g__law_all_primes T.F__law_all_primes.kp T.b__law_all_primes .nil pass0))
      (pss_cons (ps_for PassesOwn.never rfl (pi_range1 (by rfl) T.m_range (pa_cons (pe_callB (call_max2 rfl) (by rfl) T.m_max (by decide +kernel) (pa_cons pe_int (pa_cons (pe_callB (call_min2 rfl) (by rfl) T.m_min (by decide +kernel) (pa_cons pe_int (pa_cons (pe_callB (r := rLenS K) call_len_seq (by rfl) T.m_len (by decide +kernel) (pa_cons (pv 0) pa_nil)) pa_nil))) pa_nil))) pa_nil)) (pg_name (i := 2) sc_law.nd rfl (.inl rfl)) (pss_cons (ps_set (i := 3) sc_law.nd rfl (.inr rfl) (pe_call (ok__law_pool T) (hr.mono (by decide)) (by rfl) T.g__law_pool T.F__law_pool.kp T.b__law_pool .nil pass0 (pa_cons (pv 0) (pa_cons (pv 2) pa_nil))))
      (pss_cons (ps_set (i := 4) sc_law.nd rfl (.inr rfl) (pe_call (ok__law_fraction T) (hr.mono (by decide)) (by rfl) T.g__law_fraction T.F__law_fraction.kp T.b__law_fraction .nil pass0 (pa_cons (pv 3) (pa_cons (pv 1) pa_nil))))
      (pss_cons (ps_set (i := 5) sc_law.nd rfl (.inl rfl) (pe_call (ok__law_prime T) (hr.mono (by decide)) (by rfl) T.g__law_prime T.F__law_prime.kp T.b__law_prime .nil pass0 (pa_cons (pv 3) (pa_cons (pv 1) pa_nil))))
      (pss_cons (ps_set (i := 6) sc_law.nd rfl (.inl rfl) (pe_lst (pa_cons (pe_call (ok_rest_of T) (hr.mono (by decide)) (by rfl) T.g_rest_of T.F_rest_of.kp T.b_rest_of .nil pass0 (pa_cons (pv 4) (pa_cons (pv 5) pa_nil))) (pa_cons (pe_call (ok_rests_of T) (hr.mono (by decide)) (by rfl) T.g_rests_of T.F_rests_of.kp T.b_rests_of .nil pass0 (pa_cons (pv 4) (pa_cons (pe_lst (pa_cons (pv 5) (pa_cons pe_int pa_nil))) pa_nil))) pa_nil))))
      (pss_cons (ps_set (i := 7) sc_law.nd rfl (.inl rfl) (pe_call (ok__law_bad_primes T) (hr.mono (by decide)) (by rfl) T.g__law_bad_primes T.F__law_bad_primes.kp T.b__law_bad_primes .nil pass0 (pa_cons (pv 3) (pa_cons (pv 1) pa_nil))))
      (pss_cons (ps_set (i := 8) sc_law.nd rfl (.inl rfl) (pe_ix (r := rIxL K) ix_list (pe_lst (pa_cons (pe_call (ok__law_take T) (hr.mono (by decide)) (by rfl) T.g__law_take T.F__law_take.kp T.b__law_take .nil pass0 (pa_cons (pv 3) (pa_cons pe_int pa_nil))) (pa_cons (pe_call (ok__law_take T) (hr.mono (by decide)) (by rfl) T.g__law_take T.F__law_take.kp T.b__law_take .nil pass0 (pa_cons (pv 3) (pa_cons pe_int pa_nil))) pa_nil))) (pe_call (ok__law_take T) (hr.mono (by decide)) (by rfl) T.g__law_take T.F__law_take.kp T.b__law_take .nil pass0 (pa_cons (pv 3) (pa_cons pe_int pa_nil))) (fun _ _ => rfl)))
      (pss_cons (ps_set (i := 9) sc_law.nd rfl (.inr rfl) (pe_lc (own := [("turn", 16)]) (by rfl) sc_law.nd (pi_range1 (by rfl) T.m_range (pa_cons (pv 8) pa_nil)) (blkOk_by (own := [("turn", 16)]) (N := N_law) (sc := (defScope s_law)) (by decide +kernel)) (fun _ _ _ _ _ => (pg_name (i := 16) sc_law.nd rfl (.inl rfl))) (fun _ _ _ _ _ => pts_nil) (fun _ _ _ _ _ => (pe_call (ok__law_prime T) (hr.mono (by decide)) (by rfl) T.g__law_prime T.F__law_prime.kp T.b__law_prime .nil pass0 (pa_cons (pv 3) (pa_cons (pv 1) pa_nil))))))
      (pss_cons (ps_set (i := 10) sc_law.nd rfl (.inr rfl) (pe_call (ok__law_take T) (hr.mono (by decide)) (by rfl) T.g__law_take T.F__law_take.kp T.b__law_take .nil pass0 (pa_cons (pv 3) (pa_cons (pe_op op_add (pv 8) pe_int) pa_nil))))
      (pss_cons (ps_set (i := 11) sc_law.nd rfl (.inl rfl) (pe_op op_cat (pe_lc (own := [("one", 17)]) (by rfl) sc_law.nd (pi_listK K (pv 7)) (blkOk_by (own := [("one", 17)]) (N := N_law) (sc := (defScope s_law)) (by decide +kernel)) (fun _ _ _ _ _ => (pg_name (i := 17) sc_law.nd rfl (.inl rfl))) (fun _ _ _ _ _ => pts_nil) (fun _ _ _ _ _ => (pe_op op_cat (pe_op op_cat (pe_slice (r := rSlL K) sl_list (pv 9) po_none (po_some (pv 10))) (pe_lst (pa_cons (pv 17) pa_nil))) (pe_slice (r := rSlL K) sl_list (pv 9) (po_some (pv 10)) po_none)))) (pe_lst (pa_cons pe_non (pa_cons (pv 5) (pa_cons pe_str (pa_cons (pe_tup (pa_cons (pv 5) pa_nil)) (pa_cons pe_dnewK (pa_cons (pe_disp (pps_cons (pv 5) pe_int pps_nil) (by rfl) (by rfl) (fun z => by cases z) (by decide)) (pa_cons pe_bl (pa_cons (pe_callTy call_tuple_of (by rfl) T.m_tuple (by decide +kernel) (pa_cons (pv 9) pa_nil)) pa_nil)))))))))))
      (pss_cons (ps_for PassesOwn.never rfl (pi_listK K (pv 7)) (pg_name (i := 12) sc_law.nd rfl (.inl rfl)) (pss_one (ps_if (pt_not (pt_val (pe_callG (ok__law_refused T) hG hr (by rfl) T.g__law_refused T.F__law_refused.kp T.b__law_refused .nil pass0 (pa_cons pe_int (pa_cons (pv 4) (pa_cons (pv 12) (pa_cons pe_int pa_nil))))))) (pss_one (ps_ret pe_bl)) pss_nil)))
      (pss_cons (ps_for PassesOwn.never rfl (pi_listK K (pv 11)) (pg_name (i := 12) sc_law.nd rfl (.inl rfl)) (pss_one (ps_if (pt_not (pt_val (pe_callG (ok__law_refused T) hG hr (by rfl) T.g__law_refused T.F__law_refused.kp T.b__law_refused .nil pass0 (pa_cons pe_int (pa_cons (pv 4) (pa_cons (pv 12) (pa_cons pe_int pa_nil))))))) (pss_one (ps_ret pe_bl)) pss_nil)))
      (pss_cons (ps_set (i := 13) sc_law.nd rfl (.inl rfl) (pe_op op_cat (pe_lc (own := [("turn", 16)]) (by rfl) sc_law.nd (pi_range1 (by rfl) T.m_range (pa_cons pe_int pa_nil)) (blkOk_by (own := [("turn", 16)]) (N := N_law) (sc := (defScope s_law)) (by decide +kernel)) (fun _ _ _ _ _ => (pg_name (i := 16) sc_law.nd rfl (.inl rfl))) (fun _ _ _ _ _ => pts_nil) (fun _ _ _ _ _ => (pe_call (ok__law_spoilt T) (hr.mono (by decide)) (by rfl) T.g__law_spoilt T.F__law_spoilt.kp T.b__law_spoilt .nil pass0 (pa_cons (pv 3) (pa_cons (pv 4) (pa_cons (pv 1) pa_nil)))))) (pe_lst (pa_cons pe_non (pa_cons (pe_tup pa_nil) (pa_cons (pe_lst pa_nil) (pa_cons (pe_tup (pa_cons pe_int (pa_cons pe_int pa_nil))) (pa_cons (pe_tup (pa_cons pe_int (pa_cons pe_int pa_nil))) (pa_cons (pe_tup (pa_cons pe_int (pa_cons pe_int pa_nil))) (pa_cons pe_str (pa_cons pe_int pa_nil)))))))))))
      (pss_cons (ps_for PassesOwn.never rfl (pi_listK K (pe_lc (own := [("one", 17)]) (by rfl) sc_law.nd (pi_listK K (pv 13)) (blkOk_by (own := [("one", 17)]) (N := N_law) (sc := (defScope s_law)) (by decide +kernel)) (fun _ _ _ _ _ => (pg_name (i := 17) sc_law.nd rfl (.inl rfl))) (fun _ _ _ _ _ => (pts_one (pt_not (pt_val (pe_call (ok__law_is_fraction T) (hr.mono (by decide)) (by rfl) T.g__law_is_fraction T.F__law_is_fraction.kp T.b__law_is_fraction .nil pass0 (pa_cons (pv 17) pa_nil)))))) (fun _ _ _ _ _ => (pv 17)))) (pg_name (i := 12) sc_law.nd rfl (.inl rfl)) (pss_cons (ps_for PassesOwn.never rfl (pi_listK K (pe_lst (pa_cons (pv 5) (pa_cons (pe_ix (r := rIxL K) ix_list (pv 7) (pe_call (ok__law_take T) (hr.mono (by decide)) (by rfl) T.g__law_take T.F__law_take.kp T.b__law_take .nil pass0 (pa_cons (pv 3) (pa_cons pe_int pa_nil))) (fun _ _ => rfl)) (pa_cons (pe_ix (r := rIxL K) ix_list (pv 7) pe_int (fun _ _ => rfl)) pa_nil))))) (pg_name (i := 14) sc_law.nd rfl (.inl rfl)) (pss_one (ps_if (pt_not (pt_val (pe_callG (ok__law_refused T) hG hr (by rfl) T.g__law_refused T.F__law_refused.kp T.b__law_refused .nil pass0 (pa_cons pe_int (pa_cons (pv 12) (pa_cons (pv 14) (pa_cons pe_int pa_nil))))))) (pss_one (ps_ret pe_bl)) pss_nil)))
      (pss_one (ps_for PassesOwn.never rfl (pi_listK K (pe_lst (pa_cons (pe_lst pa_nil) (pa_cons (pv 9) (pa_cons (pe_ix (r := rIxL K) ix_list (pv 11) (pe_call (ok__law_take T) (hr.mono (by decide)) (by rfl) T.g__law_take T.F__law_take.kp T.b__law_take .nil pass0 (pa_cons (pv 3) (pa_cons pe_int pa_nil))) (fun _ _ => rfl)) (pa_cons (pe_ix (r := rIxL K) ix_list (pv 11) pe_int (fun _ _ => rfl)) pa_nil)))))) (pg_name (i := 15) sc_law.nd rfl (.inl rfl)) (pss_one (ps_if (pt_not (pt_val (pe_callG (ok__law_refused T) hG hr (by rfl) T.g__law_refused T.F__law_refused.kp T.b__law_refused .nil pass0 (pa_cons pe_int (pa_cons (pv 12) (pa_cons (pv 15) (pa_cons pe_int pa_nil))))))) (pss_one (ps_ret pe_bl)) pss_nil))))))
      (pss_one (ps_if (pt_cmpR (r := rNeD K) (op_neD hr.units) (pe_lst (pa_cons (pe_call (ok_rest_of T) (hr.mono (by decide)) (by rfl) T.g_rest_of T.F_rest_of.kp T.b_rest_of .nil pass0 (pa_cons (pv 4) (pa_cons (pv 5) pa_nil))) (pa_cons (pe_call (ok_rests_of T) (hr.mono (by decide)) (by rfl) T.g_rests_of T.F_rests_of.kp T.b_rests_of .nil pass0 (pa_cons (pv 4) (pa_cons (pe_lst (pa_cons (pv 5) (pa_cons pe_int pa_nil))) pa_nil))) pa_nil))) (pv 6) (nomark _)) (pss_one (ps_ret pe_bl)) pss_nil))))))))))))))))
      (pss_cons (ps_set (i := 15) sc_law.nd rfl (.inl rfl) (pe_lst (pa_cons pe_str (pa_cons pe_str (pa_cons pe_str (pa_cons (pe_op op_repS pe_str pe_int) pa_nil))))))
      (pss_one (ps_ret (pe_cmpR (r := rEqD K) (op_eqD hr.units) (pe_lc (own := [("words", 18)]) (by rfl) sc_law.nd (pi_listK K (pv 15)) (blkOk_by (own := [("words", 18)]) (N := N_law) (sc := (defScope s_law)) (by decide +kernel)) (fun _ _ _ _ _ => (pg_name (i := 18) sc_law.nd rfl (.inl rfl))) (fun _ _ _ _ _ => (pts_one (PW.pt (pw_or (pt_cmpR op_ne (pe_callTy (r := rStrX K) (call_strX hr.units) (by rfl) T.m_str (by decide +kernel) (pa_cons (pe_excA PySem.F.excBase_ValueError T.x_NoFraction.1 T.k_NoFraction T.x_NoFraction.2.1 (by rfl) (pv 18)) pa_nil)) (pv 18) (nomark _)) (pw_or1 (pt_cmpR op_ne (pe_callTy (r := rStrX K) (call_strX hr.units) (by rfl) T.m_str (by decide +kernel) (pa_cons (pe_excA PySem.F.excBase_ValueError T.x_NoPrime.1 T.k_NoPrime T.x_NoPrime.2.1 (by rfl) (pv 18)) pa_nil)) (pv 18) (nomark _))))))) (fun _ _ _ _ _ => (pv 18))) (pe_lst pa_nil) (nomark _)))))))), ?_⟩
    refine ⟨rfl, fun la H0 hla0 e0 aa0 => ?_⟩
    obtain ⟨acc0, hl0, hdt0, _⟩ := aa0
    have ei0 := DtAll.ints_eq _ hdt0
    subst ei0
    obtain ⟨t1, t2⟩ := turns_ok 8 ((ns.map V.int).length : Int) (by decide) (Int.natCast_nonneg _)
    refine ⟨.ref a, rfl, a, _, rfl, .inl (ex_l e0 hS), 8, _, rfl, 1, _, rfl, _, rfl, ?_, ?_, ?_⟩
    · show -(2 ^ 62) ≤ (if (if ((ns.map V.int).length : Int) < 8 then ((ns.map V.int).length : Int) else 8) > 1 then (if ((ns.map V.int).length : Int) < 8 then ((ns.map V.int).length : Int) else 8) else 1)
      omega
    · show (if (if ((ns.map V.int).length : Int) < 8 then ((ns.map V.int).length : Int) else 8) > 1 then (if ((ns.map V.int).length : Int) < 8 then ((ns.map V.int).length : Int) else 8) else 1) < 2 ^ 62
      omega
    generalize (if (if ((ns.map V.int).length : Int) < 8 then ((ns.map V.int).length : Int) else 8) > 1 then (if ((ns.map V.int).length : Int) < 8 then ((ns.map V.int).length : Int) else 8) else 1) = J at t1 t2
    refine for_range (lo := 0) (n := J.toNat) (fun i σ H' => (∃ y2 y3 y4 y5 y6 y7 y8 y9 y10 y11 y12 y13 y14 y15, σ = [some (.ref a), some (.ref la), y2, y3, y4, y5, y6, y7, y8, y9, y10, y11, y12, y13, y14, y15, none, none, none]) ∧ Ex H0 H') ⟨⟨none, none, none, none, none, none, none, none, none, none, none, none, none, none, rfl⟩, Ex.refl H0⟩ (fun i σ H1 hi hP => ?_) (fun σ H1 hP => ?_)
    · obtain ⟨⟨y2, y3, y4, y5, y6, y7, y8, y9, y10, y11, y12, y13, y14, y15, rfl⟩, e1⟩ := hP
      have hk : (0 : Int) ≤ 0 + (i : Int) ∧ 0 + (i : Int) < 100 := by omega
      generalize (0 : Int) + (i : Int) = k at hk ⊢
      -- pool = _law_pool(script, k)
      refine ⟨.ref a, rfl, .int k, rfl, a, ns, k, rfl, ex_l (e0.trans e1) hS, hk.1, hk.2, fun pa H2 hpa e2 pb => ?_⟩
      have hpa0 : H0 pa = none := fresh_back e1 hpa
      have g2 : Ex H0 H2 := e1.trans e2
      have hne : la ≠ pa := fun z => by
        rw [← z, hl0] at hpa0
        cases hpa0
      -- f, p
      refine ⟨.ref pa, rfl, .ref la, rfl, pa, la, 999999970, rfl, g2 _ _ hl0, hne, pb, fun t b fa H3 hF pb3 e3 hfa0 hfa => ?_⟩
      have g3 : Ex H0 H3 := g2.keepB hpa0 e3
      have hF' := hF
      obtain ⟨b0, b1, tt1, tt0, hg⟩ := hF
      have hfn : fa ≠ pa := fun z => by
        obtain ⟨xs, hx⟩ := pb3.isL
        rw [z, hx] at hfa
        cases hfa
      refine ⟨.ref pa, rfl, .ref la, rfl, pa, la, 999999968, rfl, g3 _ _ hl0, hne, pb3, fun p H4 hp pb4 e4 => ?_⟩
      have g4 : Ex H0 H4 := g3.keepB hpa0 e4
      have hfa4 := e4 _ _ hfn hfa
      have hd4 : Dt H4 (.ref fa) (.tuple [.int t, .int b]) := .tup hfa4 (.cons (.int _) (.cons (.int _) .nil))
      have wt : t.natAbs < 2 ^ 250 := Nat.lt_of_lt_of_le (show t.natAbs < 2 ^ 120 by omega) (by decide)
      have lt : t.natAbs.log2 < 1920 := log_of (k := 120) (by omega) (by decide) (by decide)
      have lb : b.natAbs.log2 < 1920 := log_of (k := 120) (by omega) (by decide) (by decide)
      have hpp := primesL_prime p hp
      have hps : ∀ x ∈ [p, 2], primeB x = true := fun x hx => by
        rcases List.mem_cons.mp hx with rfl | hx
        · exact hpp
        · rcases List.mem_cons.mp hx with rfl | hx
          · decide
          · cases hx
      have swf : Sw 4 40000 (.tuple [.int t, .int b]) := (sh_tup (sha_cons (sh_int lt) (sha_cons (sh_int lb) sha_nil))).sw.le (by decide) (by decide)
      have hdf : dFrac (.tuple [.int t, .int b]) = true := dFrac_of b0 hg
      -- ahead
      refine ⟨.ref fa, rfl, .int p, rfl, .ref fa, t, b, p, rfl, hd4, b0, hg, wt, hpp, fun r1 H5 e5 hr1 => ?_⟩
      refine ⟨.ref fa, rfl, .int p, rfl, sz_of (Nat.le_of_ble_eq_true rfl), fun l2 hl2 => ?_⟩
      refine ⟨.ref fa, l2, t, b, [p, 2], rfl, (hd4.up e5).up (Ex.new hl2), b0, hg, wt, upd_same, Nat.le_of_ble_eq_true rfl, hps, fun q1 H6 hq1 e6 a6 => ?_⟩
      refine ⟨sz_of (Nat.le_of_ble_eq_true rfl), fun l hl => ?_⟩
      show tSeq _ _ _ [some (.ref a), some (.ref la), some (.int k), some (.ref pa), some (.ref fa), some (.int p), some (.ref l), y7, y8, y9, y10, y11, y12, y13, y14, y15, none, none, none] (upd H6 l (.lst [r1, .ref q1]))
      have x7 : Ex H4 (upd H6 l (.lst [r1, .ref q1])) := ((e5.trans (Ex.new hl2)).trans e6).trans (Ex.new hl)
      have hr7 : Dt (upd H6 l (.lst [r1, .ref q1])) r1 (restD t b p) := ((hr1.up (Ex.new hl2)).up e6).up (Ex.new hl)
      have a7 : AccL (upd H6 l (.lst [r1, .ref q1])) q1 ([p, 2].map fun p => restD t b p) := a6.up (Ex.new hl)
      have hl7 : (upd H6 l (.lst [r1, .ref q1])) l = some (.lst [r1, .ref q1]) := upd_same
      have hqn : q1 ≠ pa := ((pb4.up e5).up (Ex.new hl2)).ne hq1
      have hln : l ≠ pa := (((pb4.up e5).up (Ex.new hl2)).up e6).ne hl
      revert x7 hr7 a7 hl7
      generalize upd H6 l (.lst [r1, .ref q1]) = H7
      intro x7 hr7 a7 hl7
      have pb7 := pb4.up x7
      have g7 := g4.trans x7
      have dA : Dt (rmv H7 pa) (.ref l) (aheadD t b p) := by
        obtain ⟨acc, c1, c2, c3⟩ := a7
        refine .lst (xs := [r1, .ref q1]) (by rw [rmv_ne hln]; exact hl7) (.cons (hr7.dr pb7.isL (rmv_b H7 pa) (restD_noL t b p)) (.cons (.lst (xs := acc) (by rw [rmv_ne hqn]; exact c1) (DtAll.monoB pb7.isL (rmv_b H7 pa) _ _ c3 c2)) .nil))
      have dF : Dt (rmv H7 pa) (.ref fa) (.tuple [.int t, .int b]) := (hd4.up x7).dr pb7.isL (rmv_b H7 pa) rfl
      clear hr7 a7 hl7 hr1 a6 hq1 hl hl2
      -- none
      refine ⟨.ref pa, rfl, .ref la, rfl, pa, la, 999999959, rfl, g7 _ _ hl0, hne, pb7, fun v7 ds W8 H8 hds1 hds2 hv7 hW8 hn8 pb8 e8 => ?_⟩
      have g8 := g7.keepB hpa0 e8
      have hv8 : Dt (rmv H8 pa) v7 (.list ds) := hv7.up (rmv_in hW8 (hn8 pa pb7.isL))
      obtain ⟨na, xs, rfl, hna, hxs⟩ := hv8.lst_get
      have dA := dA.up (rmv_dr e8)
      have dF := dF.up (rmv_dr e8)
      clear hv7 hW8 hn8 hv8
      -- many
      refine ⟨.ref pa, rfl, pa, 6, 999999958, rfl, by decide, by decide, pb8, fun m1 H9 l1 u1 pb9 e9 => ?_⟩
      refine ⟨.ref pa, rfl, pa, 60, 999999957, rfl, by decide, by decide, pb9, fun m2 H10 l2 u2 pb10 e10 => ?_⟩
      refine ⟨sz_of (Nat.le_of_ble_eq_true rfl), fun bl hbl => ?_⟩
      refine ⟨.ref pa, rfl, pa, 2, 999999956, rfl, by decide, by decide, pb10.dr hbl, fun w1 H11 m3 o3 pb11 e11 => ?_⟩
      have hb11 := e11 _ _ (pb10.ne hbl) upd_same
      obtain ⟨mm, hmm, mm0, mm1⟩ : ∃ n : Int, atI [V.int m1, V.int m2] w1 = some (.int n) ∧ 0 ≤ n ∧ n < 60 := by
        rcases (show w1 = 0 ∨ w1 = 1 by omega) with rfl | rfl
        · exact ⟨m1, rfl, by omega, by omega⟩
        · exact ⟨m2, rfl, by omega, by omega⟩
      refine ⟨bl, _, w1, .int mm, rfl, rfl, sq_of hb11, hmm, ?_⟩
      have x11 : ExB pa H8 H11 := ((e9.trans e10).trans (ExB.of (Ex.new hbl))).trans e11
      have g11 := g8.keepB hpa0 x11
      have r11 := rmv_dr x11
      have dA := dA.up r11
      have dF := dF.up r11
      have hna := r11 _ _ hna
      have hxs := hxs.up r11
      clear hb11
      -- row
      dsimp only [gName_app]
      refine go_asg (lc_primes (σ := [some (.ref a), some (.ref la), some (.int k), some (.ref pa), some (.ref fa), some (.int p), some (.ref l), some (.ref na), some (.int mm), y9, y10, y11, y12, y13, y14, y15, none, none, none]) (j := 16) (ip := 3) (il := 1) (m := mm) (n := 999990000) (pa := pa) (la := la) (ea_cons (ev_var rfl) ea_nil) ⟨mm0, by omega⟩ (fun _ => rfl) (fun _ => rfl) (fun _ => rfl) (g11 _ _ hl0) hne (pb11.less (by omega)) (fun ra qs H12 hra0 hq1 hq2 hra12 pb12 e12 => ?_))
      have hran : ra ≠ pa := pb11.ne hra0
      -- at
      refine ⟨.ref pa, rfl, .int mm, rfl, mm, 1, rfl, rfl, pa, mm + 1, 999989999, rfl, by omega, by omega, pb12, fun at_ H13 a0 a1 pb13 e13 => ?_⟩
      have x13 : ExB pa H11 H13 := e12.trans e13
      have g13 := g11.keepB hpa0 x13
      have r13 := rmv_dr x13
      have dA := dA.up r13
      have dF := dF.up r13
      have hna := r13 _ _ hna
      have hxs := hxs.up r13
      have hra13 := e13 _ _ hran hra12
      have hql : qs.length ≤ 60 := by omega
      -- lists
      dsimp only [gName_app]
      refine go_asg (go_op (lc_lists (K := K) (σ := [some (.ref a), some (.ref la), some (.int k), some (.ref pa), some (.ref fa), some (.int p), some (.ref l), some (.ref na), some (.int mm), some (.ref ra), some (.int at_), y11, y12, y13, y14, y15, none, none, none]) (pa := pa) (na := na) (ra := ra) (at_ := at_) (fun _ => rfl) rfl (fun _ => rfl) (fun _ => rfl) (fun _ => rfl) pb13.isL hna hxs hds2 hds1 hra13 hql hq2 (fun D acc H14 hD e14 hacc hD14 hlen => ?_)))
      have g14 := g13.trans e14
      have pb14 := pb13.up e14
      have r14 := rmv_mono (B := pa) e14
      have dA := dA.up r14
      have dF := dF.up r14
      have hna := r14 _ _ hna
      have hxs := hxs.up r14
      have hra14 : rmv H14 pa ra = some (.lst (qs.map V.int)) := by
        rw [rmv_ne hran]
        exact e14 _ _ hra13
      have hC : EvF (tLst (tCons (tC .non) (tCons (tVar 5) (tCons (tC (.str "")) (tCons (tTup (tCons (tVar 5) tNil)) (tCons tDNewK (tCons (tDisp [(tVar 5, tC (.int 1))]) (tCons (tC (.bl true)) (tCons (tCB (fun xs H Q => ∃ p ys, xs = [.ref p] ∧ ((SqL K H p ys ∧ ∀ l, H l = none → Q (.ref l) (upd H l (.tup ys))) ∨ (SqT K H p ys ∧ Q (.ref p) H))) (tCons (tVar 9) tNil)) tNil))))))))) [some (.ref a), some (.ref la), some (.int k), some (.ref pa), some (.ref fa), some (.int p), some (.ref l), some (.ref na), some (.int mm), some (.ref ra), some (.int at_), y11, y12, y13, y14, y15, none, none, none] (rmv H14 pa) (.list (eightA p qs)) :=
        ef_lst (efa_cons ef_cn (efa_cons (ef_vi rfl) (efa_cons ef_cs (efa_cons (ef_tup (efa_cons (ef_vi rfl) efa_nil) (Nat.le_of_ble_eq_true rfl)) (efa_cons ef_dict0 (efa_cons (ef_dict1 (fun H Q q => ⟨.int p, rfl, q⟩) (fun H Q q => q)) (efa_cons ef_cb (efa_cons (ef_tupOf (K := K) rfl hra14 (DtAll.ints qs)) efa_nil)))))))) (Nat.le_of_ble_eq_true rfl)
      refine hC _ H14 (Ex.refl _) (rmv_ex _ _) _ fun v15 W15 H15 w15 hv15 => ?_
      have hW15 : W15 pa = none := by
        obtain ⟨zs, hz⟩ := pb14.isL
        exact w15.n pa (by rw [hz]; exact Option.some_ne_none _) rmv_at
      obtain ⟨l8, ys8, rfl, hl8, hys8⟩ := hv15.lst_get
      have hy8 : ys8.length = 8 := hys8.len
      refine ⟨D, l8, acc, ys8, rfl, rfl, w15.hh _ _ hD14, w15.h _ _ hl8, sz_of (by rw [hlen, hy8]; decide), fun li hli => ?_⟩
      show tSeq _ _ _ [some (.ref a), some (.ref la), some (.int k), some (.ref pa), some (.ref fa), some (.int p), some (.ref l), some (.ref na), some (.int mm), some (.ref ra), some (.int at_), some (.ref li), y12, y13, y14, y15, none, none, none] (upd H15 li (.lst (acc ++ ys8)))
      have pb15 := pb14.up w15.hh
      have hlin : li ≠ pa := pb15.ne hli
      have x16 : Ex H14 (upd H15 li (.lst (acc ++ ys8))) := w15.hh.trans (Ex.new hli)
      have y16 : Ex W15 (rmv (upd H15 li (.lst (acc ++ ys8))) pa) := rmv_in (w15.h.trans (Ex.new hli)) hW15
      have hli16 : (rmv (upd H15 li (.lst (acc ++ ys8))) pa) li = some (.lst (acc ++ ys8)) := by
        rw [rmv_ne hlin]
        exact upd_same
      revert x16 y16 hli16
      generalize upd H15 li (.lst (acc ++ ys8)) = H16
      intro x16 y16 hli16
      have g16 := g14.trans x16
      have pb16 := pb14.up x16
      have r16 := rmv_mono (B := pa) x16
      have dA := dA.up r16
      have dF := dF.up r16
      have hna := r16 _ _ hna
      have hxs := hxs.up r16
      have hra16 := r16 _ _ hra14
      have hls : ∀ x ∈ acc ++ ys8, LOk (rmv H16 pa) x := fun x hx => by
        rcases List.mem_append.mp hx with z | z
        · exact (hacc x z).up r16
        · obtain ⟨e, he1, he2⟩ := hys8.mem z
          obtain ⟨s1, s2⟩ := eightA_ok hp hq2 hql e he1
          exact ⟨e, he2.up y16, s1, .inl s2⟩
      have hlsl : (acc ++ ys8).length = 30 := by rw [List.length_append, hlen, hy8]
      revert hls hlsl hli16
      generalize acc ++ ys8 = lis
      intro hli16 hls hlsl
      clear hacc hD14 hl8 hys8 hv15 w15 hW15 y16 hC hlen hy8 hD hli
      -- for thing in none
      have hna16 := rmv_ex _ _ _ _ hna
      refine ⟨.ref na, rfl, na, rfl, ⟨_, sq_of hna16⟩, loopK hna16 (fun i σ H' => ∃ y12, σ = [some (.ref a), some (.ref la), some (.int k), some (.ref pa), some (.ref fa), some (.int p), some (.ref l), some (.ref na), some (.int mm), some (.ref ra), some (.int at_), some (.ref li), y12, y13, y14, y15, none, none, none]) ⟨_, rfl⟩ (fun i x σ H17 hi7 e7 hP => ?_) (fun σ H17 hP e17 => ?_)⟩
      · obtain ⟨z12, rfl⟩ := hP
        obtain ⟨d, hd1, hd2⟩ := hxs.mem (List.mem_of_getElem? hi7)
        obtain ⟨sd, pd⟩ := hds2 d hd1
        have c7 := (rmv_ex H16 pa).trans e7
        exact ⟨.ref fa, rfl, x, rfl, 0, .ref fa, x, _, d, (sw_pair swf (sd.le (by decide) (by decide))).le (by decide) (by decide), dF.up c7, hd2.up c7, .inr ⟨rfl, .inr ⟨hdf, rfl, .inl ⟨rfl, pd⟩⟩, hdf⟩, fun H8 e8 => ⟨true, rfl, itF rfl ⟨⟨_, rfl⟩, e8⟩⟩⟩
      obtain ⟨z12, rfl⟩ := hP
      have pb17 := pb16.up e17
      have g17 := g16.trans e17
      have r17 := rmv_mono (B := pa) e17
      have dA := dA.up r17
      have dF := dF.up r17
      have hna := r17 _ _ hna
      have hxs := hxs.up r17
      have hra17 := r17 _ _ hra16
      have hli17 := r17 _ _ hli16
      have hls : ∀ x ∈ lis, LOk (rmv H17 pa) x := fun x hx => (hls x hx).up r17
      -- for thing in lists
      have hli17' := rmv_ex _ _ _ _ hli17
      refine ⟨.ref li, rfl, li, rfl, ⟨_, sq_of hli17'⟩, loopK hli17' (fun i σ H' => ∃ y12, σ = [some (.ref a), some (.ref la), some (.int k), some (.ref pa), some (.ref fa), some (.int p), some (.ref l), some (.ref na), some (.int mm), some (.ref ra), some (.int at_), some (.ref li), y12, y13, y14, y15, none, none, none]) ⟨_, rfl⟩ (fun i x σ H18 hi8 e8 hP => ?_) (fun σ H18 hP e18 => ?_)⟩
      · obtain ⟨w12, rfl⟩ := hP
        obtain ⟨e, he1, he2, he3⟩ := hls x (List.mem_of_getElem? hi8)
        have c8 := (rmv_ex H17 pa).trans e8
        exact ⟨.ref fa, rfl, x, rfl, 1, .ref fa, x, _, e, (sw_pair (swf.le (by decide) (by decide)) he2).le (by decide) (by decide), dF.up c8, he1.up c8, .inr ⟨rfl, .inr ⟨hdf, rfl, .inr ⟨by decide, he3⟩⟩, hdf⟩, fun H9 e9 => ⟨true, rfl, itF rfl ⟨⟨_, rfl⟩, e9⟩⟩⟩
      obtain ⟨w12, rfl⟩ := hP
      have pb18 := pb17.up e18
      have g18 := g17.trans e18
      have r18 := rmv_mono (B := pa) e18
      have dA := dA.up r18
      have dF := dF.up r18
      have hna := r18 _ _ hna
      have hxs := hxs.up r18
      have hra18 := r18 _ _ hra17
      have hli18 := r18 _ _ hli17
      have hls : ∀ x ∈ lis, LOk (rmv H18 pa) x := fun x hx => (hls x hx).up r18
      -- bad
      have hfa18 : H18 fa = some (.tup [.int t, .int b]) := by
        obtain ⟨fa', fs, h1, h2, h3⟩ := dF.tup_get
        cases h1
        cases h3 with
        | cons c1 c2 =>
          cases c1
          cases c2 with
          | cons c1 c2 =>
            cases c1
            cases c2
            exact rmv_ex _ _ _ _ h2
      dsimp only
      refine go_asg (go_op (lc_spoilt (σ := [some (.ref a), some (.ref la), some (.int k), some (.ref pa), some (.ref fa), some (.int p), some (.ref l), some (.ref na), some (.int mm), some (.ref ra), some (.int at_), some (.ref li), w12, y13, y14, y15, none, none, none]) (pa := pa) (fa := fa) (la := la) (t := t) (b := b) (n := 900000000) (fun _ => rfl) (fun _ => rfl) (fun _ => rfl) (fun _ => rfl) hfa18 hF' (g18 _ _ hl0) hne (pb18.less (by decide)) (fun D acc H19 hD hacc hD19 hlen pb19 e19 => ?_)))
      have g19 := g18.keepB hpa0 e19
      have r19 := rmv_dr e19
      have hC : EvF (tLst (tCons (tC .non) (tCons (tTup tNil) (tCons (tLst tNil) (tCons (tTup (tCons (tC (.int 0)) (tCons (tC (.int 0)) tNil))) (tCons (tTup (tCons (tC (.int 1)) (tCons (tC (.int 0)) tNil))) (tCons (tTup (tCons (tC (.int 2)) (tCons (tC (.int 2)) tNil))) (tCons (tC (.str "1")) (tCons (tC (.int 7)) tNil))))))))) [some (.ref a), some (.ref la), some (.int k), some (.ref pa), some (.ref fa), some (.int p), some (.ref l), some (.ref na), some (.int mm), some (.ref ra), some (.int at_), some (.ref li), w12, y13, y14, y15, none, none, none] (rmv H19 pa) (.list eightB) :=
        ef_lst (efa_cons ef_cn (efa_cons (ef_tup efa_nil (Nat.le_of_ble_eq_true rfl)) (efa_cons (ef_lst efa_nil (Nat.le_of_ble_eq_true rfl)) (efa_cons (ef_tup (efa_cons ef_ci (efa_cons ef_ci efa_nil)) (Nat.le_of_ble_eq_true rfl)) (efa_cons (ef_tup (efa_cons ef_ci (efa_cons ef_ci efa_nil)) (Nat.le_of_ble_eq_true rfl)) (efa_cons (ef_tup (efa_cons ef_ci (efa_cons ef_ci efa_nil)) (Nat.le_of_ble_eq_true rfl)) (efa_cons ef_cs (efa_cons ef_ci efa_nil)))))))) (Nat.le_of_ble_eq_true rfl)
      refine hC _ H19 (Ex.refl _) (rmv_ex _ _) _ fun v20 W20 H20 w20 hv20 => ?_
      have hW20 : W20 pa = none := by
        obtain ⟨zs, hz⟩ := pb19.isL
        exact w20.n pa (by rw [hz]; exact Option.some_ne_none _) rmv_at
      obtain ⟨l8, ys8, rfl, hl8, hys8⟩ := hv20.lst_get
      have hy8 : ys8.length = 8 := hys8.len
      refine ⟨D, l8, acc, ys8, rfl, rfl, w20.hh _ _ hD19, w20.h _ _ hl8, sz_of (by rw [hy8]; omega), fun ba hba => ?_⟩
      have pb20 := pb19.up w20.hh
      have x21 : Ex H19 (upd H20 ba (.lst (acc ++ ys8))) := w20.hh.trans (Ex.new hba)
      have y21 : Ex W20 (rmv (upd H20 ba (.lst (acc ++ ys8))) pa) := rmv_in (w20.h.trans (Ex.new hba)) hW20
      have hba21 : (upd H20 ba (.lst (acc ++ ys8))) ba = some (.lst (acc ++ ys8)) := upd_same
      show tSeq _ _ _ [some (.ref a), some (.ref la), some (.int k), some (.ref pa), some (.ref fa), some (.int p), some (.ref l), some (.ref na), some (.int mm), some (.ref ra), some (.int at_), some (.ref li), w12, some (.ref ba), y14, y15, none, none, none] (upd H20 ba (.lst (acc ++ ys8)))
      revert x21 y21 hba21
      generalize upd H20 ba (.lst (acc ++ ys8)) = H21
      intro x21 y21 hba21
      have g21 := g19.trans x21
      have pb21 := pb19.up x21
      have r21 := r19.trans (rmv_mono (B := pa) x21)
      have dA := dA.up r21
      have dF := dF.up r21
      have hna := r21 _ _ hna
      have hxs := hxs.up r21
      have hra21 := r21 _ _ hra18
      have hli21 := r21 _ _ hli18
      have hls : ∀ x ∈ lis, LOk (rmv H21 pa) x := fun x hx => (hls x hx).up r21
      have hbs : ∀ x ∈ acc ++ ys8, ∃ d, Dt (rmv H21 pa) x d ∧ Sw 4 40000 d := fun x hx => by
        rcases List.mem_append.mp hx with z | z
        · obtain ⟨d, d1, d2⟩ := hacc x z
          exact ⟨d, d1.up (rmv_mono (B := pa) x21), d2⟩
        · obtain ⟨e, he1, he2⟩ := hys8.mem z
          exact ⟨e, he2.up y21, eightB_ok e he1⟩
      have hbl : (acc ++ ys8).length ≤ 16 := by
        rw [List.length_append, hy8]
        omega
      revert hbs hbl hba21
      generalize acc ++ ys8 = bs
      intro hba21 hbs hbl
      clear hacc hD19 hl8 hys8 hv20 w20 hW20 y21 hC hlen hy8 hD hba
      -- for thing in [one for one in bad if not ..]
      refine go_forI (K := K) (lc_flt (K := K) (σ := [some (.ref a), some (.ref la), some (.int k), some (.ref pa), some (.ref fa), some (.int p), some (.ref l), some (.ref na), some (.int mm), some (.ref ra), some (.int at_), some (.ref li), w12, some (.ref ba), y14, y15, none, none, none]) (pa := pa) (ba := ba) (fun _ => rfl) rfl (fun _ => rfl) pb21.isL hba21 hbs hbl (fun D3 ths H22 hD3 e22 hths hD22 hlt => ?_))
      have hD3n : D3 ≠ pa := pb21.ne hD3
      have r22 := rmv_mono (B := pa) e22
      have hD3g : rmv H22 pa D3 = some (.lst ths) := by
        rw [rmv_ne hD3n]
        exact hD22
      have dA := dA.up r22
      have dF := dF.up r22
      have hna := r22 _ _ hna
      have hxs := hxs.up r22
      have hra22 := r22 _ _ hra21
      have hli22 := r22 _ _ hli21
      have hls : ∀ x ∈ lis, LOk (rmv H22 pa) x := fun x hx => (hls x hx).up r22
      have h0G : Ex H0 (rmv H22 pa) := rmv_in (g21.trans e22) hpa0
      have pb22 := pb21.up e22
      refine ⟨D3, rfl, ⟨_, sq_of hD22⟩, for_list (K := K) (a := D3) (xs := ths) (fun i σ H' => (∃ y12 y14 y15, σ = [some (.ref a), some (.ref la), some (.int k), some (.ref pa), some (.ref fa), some (.int p), some (.ref l), some (.ref na), some (.int mm), some (.ref ra), some (.int at_), some (.ref li), y12, some (.ref ba), y14, y15, none, none, none]) ∧ Ex (rmv H22 pa) H' ∧ PoolB H' pa (2 * (16 - i))) ⟨⟨_, _, _, rfl⟩, rmv_ex _ _, pb22.less (by decide)⟩ (fun i σ H' _ hP => sq_of (hP.2.1 _ _ hD3g)) (fun i x σ H23 hi3 hP => ?_) (fun σ H23 hP => ?_)⟩
      · obtain ⟨⟨z12, z14, z15, rfl⟩, g23, pb23⟩ := hP
        obtain ⟨d, hd1, hd2, hd3⟩ := hths x (List.mem_of_getElem? hi3)
        have hd1 := hd1.up r22
        have hi16 : i < 16 := by
          have := (List.getElem?_eq_some_iff.mp hi3).1
          omega
        rw [show 2 * (16 - i) = (2 * (16 - (i + 1)) + 1) + 1 by omega] at pb23
        -- for prime in [p, none[..], none[0]]
        dsimp only [gName_app]
        refine go_forI (K := K) ⟨.int p, rfl, .ref na, rfl, .ref pa, rfl, pa, 22, 2 * (16 - (i + 1)) + 1, rfl, by decide, by decide, pb23, fun ix H24 i0 i1 pb24 e24 => ?_⟩
        have g24 := g23.keepB rmv_at e24
        have hxl : xs.length = 22 := by rw [hxs.len, hds1]
        obtain ⟨x1, hx1⟩ : ∃ x1, xs[ix.toNat]? = some x1 := ⟨_, List.getElem?_eq_getElem (show ix.toNat < xs.length by omega)⟩
        obtain ⟨x0, hx0⟩ : ∃ x1, xs[0]? = some x1 := ⟨_, List.getElem?_eq_getElem (show 0 < xs.length by omega)⟩
        refine ⟨na, xs, ix, x1, rfl, rfl, sq_of (g24 _ _ hna), atI_of i0 hx1, ?_⟩
        refine ⟨.ref na, rfl, na, xs, 0, x0, rfl, rfl, sq_of (g24 _ _ hna), atI_of (by decide) hx0, ?_⟩
        refine ⟨sz_of (Nat.le_of_ble_eq_true rfl), fun l3 hl3 => ?_⟩
        have hall : ∀ y ∈ [V.int p, x1, x0], ∃ e, Dt (rmv H22 pa) y e ∧ Sw 4 40000 e := fun y hy => by
          rcases List.mem_cons.mp hy with rfl | hy
          · exact ⟨_, .int p, (sw_prime hp).le (by decide) (by decide)⟩
          · rcases List.mem_cons.mp hy with rfl | hy
            · obtain ⟨e, he1, he2⟩ := hxs.mem (List.mem_of_getElem? hx1)
              exact ⟨e, he2, (hds2 e he1).1.le (by decide) (by decide)⟩
            · rcases List.mem_cons.mp hy with rfl | hy
              · obtain ⟨e, he1, he2⟩ := hxs.mem (List.mem_of_getElem? hx0)
                exact ⟨e, he2, (hds2 e he1).1.le (by decide) (by decide)⟩
              · cases hy
        refine ⟨l3, rfl, ⟨_, sq_of upd_same⟩, loopK (H := upd H24 l3 (.lst [V.int p, x1, x0])) upd_same (fun i σ H' => ∃ y14, σ = [some (.ref a), some (.ref la), some (.int k), some (.ref pa), some (.ref fa), some (.int p), some (.ref l), some (.ref na), some (.int mm), some (.ref ra), some (.int at_), some (.ref li), some x, some (.ref ba), y14, z15, none, none, none]) ⟨_, rfl⟩ (fun j y σ H25 hj e25 hP => ?_) (fun σ H25 hP e25 => ?_)⟩
        · obtain ⟨w14, rfl⟩ := hP
          obtain ⟨e, he1, he2⟩ := hall y (List.mem_of_getElem? hj)
          have c5 := (g24.trans (Ex.new hl3)).trans e25
          exact ⟨x, rfl, y, rfl, 0, x, y, d, e, (sw_pair hd2 he2).le (by decide) (by decide), hd1.up c5, he1.up c5, .inl ⟨rfl, .inl ⟨hd3, rfl⟩, hd3⟩, fun H9 e9 => ⟨true, rfl, itF rfl ⟨⟨_, rfl⟩, e9⟩⟩⟩
        obtain ⟨w14, rfl⟩ := hP
        have g25 := (g24.trans (Ex.new hl3)).trans e25
        have pb25 := (pb24.dr hl3).up e25
        clear hall hx1 hx0
        -- for some in [[], row, lists[..], lists[0]]
        dsimp only
        refine ⟨sz_of (Nat.le_of_ble_eq_true rfl), fun n0 hn0 => ?_⟩
        refine ⟨.ref ra, rfl, .ref li, rfl, .ref pa, rfl, pa, 30, 2 * (16 - (i + 1)), rfl, by decide, by decide, pb25.dr hn0, fun jx H26 j0 j1 pb26 e26 => ?_⟩
        have g26 := (g25.trans (Ex.new hn0)).keepB rmv_at e26
        have hn26 := e26 _ _ (pb25.ne hn0) upd_same
        obtain ⟨x1, hx1⟩ : ∃ x1, lis[jx.toNat]? = some x1 := ⟨_, List.getElem?_eq_getElem (show jx.toNat < lis.length by omega)⟩
        obtain ⟨x0, hx0⟩ : ∃ x1, lis[0]? = some x1 := ⟨_, List.getElem?_eq_getElem (show 0 < lis.length by omega)⟩
        refine ⟨li, lis, jx, x1, rfl, rfl, sq_of (g26 _ _ hli22), atI_of j0 hx1, ?_⟩
        refine ⟨.ref li, rfl, li, lis, 0, x0, rfl, rfl, sq_of (g26 _ _ hli22), atI_of (by decide) hx0, ?_⟩
        refine ⟨sz_of (Nat.le_of_ble_eq_true rfl), fun l4 hl4 => ?_⟩
        have hall : ∀ y ∈ [V.ref n0, .ref ra, x1, x0], ∃ e, Dt H26 y e ∧ Sw 4 3000000 e := fun y hy => by
          rcases List.mem_cons.mp hy with rfl | hy
          · exact ⟨_, .lst hn26 .nil, (sw_lst swa_nil).le (by decide) (by decide)⟩
          · rcases List.mem_cons.mp hy with rfl | hy
            · refine ⟨_, .lst (g26 _ _ hra22) (DtAll.ints qs), (sw_lst (swa_all (k := 2) (n := 20000) fun y hy => ?_)).le (by decide) ?_⟩
              · obtain ⟨w, hw1, rfl⟩ := List.mem_map.mp hy
                exact sw_prime (hq2 w hw1)
              · rw [List.length_map]
                show 2 + (20000 + 2) * qs.length ≤ 3000000
                omega
            · rcases List.mem_cons.mp hy with rfl | hy
              · obtain ⟨e, he1, he2, _⟩ := hls _ (List.mem_of_getElem? hx1)
                exact ⟨e, he1.up g26, he2⟩
              · rcases List.mem_cons.mp hy with rfl | hy
                · obtain ⟨e, he1, he2, _⟩ := hls _ (List.mem_of_getElem? hx0)
                  exact ⟨e, he1.up g26, he2⟩
                · cases hy
        refine ⟨l4, rfl, ⟨_, sq_of upd_same⟩, loopK (H := upd H26 l4 (.lst [V.ref n0, .ref ra, x1, x0])) upd_same (fun i σ H' => ∃ y15, σ = [some (.ref a), some (.ref la), some (.int k), some (.ref pa), some (.ref fa), some (.int p), some (.ref l), some (.ref na), some (.int mm), some (.ref ra), some (.int at_), some (.ref li), some x, some (.ref ba), w14, y15, none, none, none]) ⟨_, rfl⟩ (fun j y σ H27 hj e27 hP => ?_) (fun σ H27 hP e27 => ?_)⟩
        · obtain ⟨w15, rfl⟩ := hP
          obtain ⟨e, he1, he2⟩ := hall y (List.mem_of_getElem? hj)
          have c7 := (Ex.new hl4).trans e27
          exact ⟨x, rfl, y, rfl, 1, x, y, d, e, (sw_pair (hd2.le (by decide) (by decide)) he2).le (by decide) (by decide), hd1.up (g26.trans c7), he1.up c7, .inl ⟨rfl, .inl ⟨hd3, rfl⟩, hd3⟩, fun H9 e9 => ⟨true, rfl, itF rfl ⟨⟨_, rfl⟩, e9⟩⟩⟩
        · obtain ⟨w15, rfl⟩ := hP
          exact ⟨⟨_, _, _, rfl⟩, (g26.trans (Ex.new hl4)).trans e27, (pb26.dr hl4).up e27⟩
      · obtain ⟨⟨z12, z14, z15, rfl⟩, g23, _⟩ := hP
        -- the good one is told behind as ahead
        have hdF := dF.up g23
        refine ⟨.ref fa, rfl, .int p, rfl, .ref fa, t, b, p, rfl, hdF, b0, hg, wt, hpp, fun r1 H24 e24 hr1 => ?_⟩
        refine ⟨.ref fa, rfl, .int p, rfl, sz_of (Nat.le_of_ble_eq_true rfl), fun l2 hl2 => ?_⟩
        refine ⟨.ref fa, l2, t, b, [p, 2], rfl, (hdF.up e24).up (Ex.new hl2), b0, hg, wt, upd_same, Nat.le_of_ble_eq_true rfl, hps, fun q1 H25 hq1 e25 a25 => ?_⟩
        refine ⟨sz_of (Nat.le_of_ble_eq_true rfl), fun l5 hl5 => ?_⟩
        have x25 : Ex H23 (upd H25 l5 (.lst [r1, .ref q1])) := ((e24.trans (Ex.new hl2)).trans e25).trans (Ex.new hl5)
        have dN : Dt (upd H25 l5 (.lst [r1, .ref q1])) (.ref l5) (aheadD t b p) := .lst upd_same (.cons (((hr1.up (Ex.new hl2)).up e25).up (Ex.new hl5)) (.cons (a25.dt.up (Ex.new hl5)) .nil))
        have hlay := ahead_lay t b p
        have hshp := shaped_of hlay (by decide)
        refine ⟨.ref l, rfl, _, _, dN.dp _ _ hlay.1, (dA.up (g23.trans x25)).dp _ _ hlay.1, hshp, hshp, _, rfl, itF ?_ ?_⟩
        · rw [eqv_self hlay.1]
          rfl
        · exact ⟨⟨_, _, _, _, _, _, _, _, _, _, _, _, _, _, rfl⟩, (h0G.trans g23).trans x25⟩
    · obtain ⟨⟨y2, y3, y4, y5, y6, y7, y8, y9, y10, y11, y12, y13, y14, y15, rfl⟩, e1⟩ := hP
      dsimp only
      refine q_asgD (d := .list [.str "words", .str "", .str " Two words, (1 2) ", .str (repT "x" 900)]) ?d1 ?k1
      case d1 => exact ed_lst (eda_cons ed_str (eda_cons ed_str (eda_cons ed_str (eda_cons (fun H1 e Q q => ⟨"x", 900, rfl, rfl, by decide, by decide, by decide, by decide, by decide +kernel, q _ H1 (Ex.refl _) (.str _)⟩) eda_nil)))) (Nat.le_of_ble_eq_true rfl)
      case k1 =>
      intro v15 H2 e2 hv15
      have hN : EvN (tLc (iList K (tVar 15)) (gName 18) (tOr (tTest (tOp rNe (tCB (rStrX K) (tCons (fun σ H Q => tVar 18 σ H fun v H1 => ∀ t a, H1 t = none → H1 a = none → t ≠ a → Q (.ref a) (upd (upd H1 t (.tup [v])) a (ExA (.ref z.k_NoFraction) t a))) tNil)) (tVar 18))) (tTest (tOp rNe (tCB (rStrX K) (tCons (fun σ H Q => tVar 18 σ H fun v H1 => ∀ t a, H1 t = none → H1 a = none → t ≠ a → Q (.ref a) (upd (upd H1 t (.tup [v])) a (ExA (.ref z.k_NoPrime) t a))) tNil)) (tVar 18)))) (tVar 18) [18]) [some (.ref a), some (.ref la), y2, y3, y4, y5, y6, y7, y8, y9, y10, y11, y12, y13, y14, some v15, none, none, none] H2 (([PyData.str "words", .str "", .str " Two words, (1 2) ", .str (repT "x" 900)].filter fun _ => false).map id) := by
        refine en_lcD (fun _ => false) id (ed_var rfl hv15) (by decide) (fun _ => rfl) (fun H4 w d e4 hm hv => ?_) (fun _ _ _ _ _ _ z => nomatch z) (fun _ _ z => nomatch z)
        obtain ⟨m, rfl⟩ : ∃ m, d = .str m := by
          simp only [List.mem_cons, List.not_mem_nil, or_false] at hm
          rcases hm with rfl | rfl | rfl | rfl
          · exact ⟨_, rfl⟩
          · exact ⟨_, rfl⟩
          · exact ⟨_, rfl⟩
          · exact ⟨_, rfl⟩
        cases hv
        intro H5 e5 Q q5
        refine ⟨.str m, rfl, fun t3 a3 ht3 ha3 hne => ?_⟩
        refine ⟨a3, t3, z.k_NoFraction, m, rfl, upd_same, ?_, T.xs_NoFraction, T.x_NoFraction.2.2.1, .str m, rfl, rfl, _, rfl, itF (by simp) ?_⟩
        · rw [upd_ne hne]
          exact upd_same
        refine ⟨.str m, rfl, fun t4 a4 ht4 ha4 hne4 => ?_⟩
        refine ⟨a4, t4, z.k_NoPrime, m, rfl, upd_same, ?_, T.xs_NoPrime, T.x_NoPrime.2.2.1, .str m, rfl, rfl, _, rfl, ?_⟩
        · rw [upd_ne hne4]
          exact upd_same
        have fr : ∀ {H : Hp} {t a : Addr} {o u : HO}, H t = none → H a = none → t ≠ a → Ex H (upd (upd H t o) a u) := fun h1 h2 h3 => (Ex.new h1).trans (Ex.new (by rw [upd_ne (Ne.symm h3)]; exact h2))
        rw [show (!decide (V.str m = V.str m)) = false by simp]
        exact q5 _ ((fr ht3 ha3 hne).trans (fr ht4 ha4 hne4))
      refine (ev_eqNil (K := K) hN rfl) _ (Ex.refl _) _ fun H3 e3 => ?_
      exact q _
end
set_option maxHeartbeats 0
def dd_is_whole : He.DefD := ⟨("is_whole", none), "is_whole", "is_whole", defArgs s_is_whole, defBody s_is_whole, defScope s_is_whole, [], []⟩
def dd_common_divisor : He.DefD := ⟨("common_divisor", none), "common_divisor", "common_divisor", defArgs s_common_divisor, defBody s_common_divisor, defScope s_common_divisor, [], []⟩
def dd_short_row : He.DefD := ⟨("short_row", none), "short_row", "short_row", defArgs s_short_row, defBody s_short_row, defScope s_short_row, [], []⟩
def dd_inverse : He.DefD := ⟨("inverse", none), "inverse", "inverse", defArgs s_inverse, defBody s_inverse, defScope s_inverse, [], []⟩
def dd_is_pair : He.DefD := ⟨("is_pair", none), "is_pair", "is_pair", defArgs s_is_pair, defBody s_is_pair, defScope s_is_pair, [], []⟩
def dd_is_fraction : He.DefD := ⟨("is_fraction", none), "is_fraction", "is_fraction", defArgs s_is_fraction, defBody s_is_fraction, defScope s_is_fraction, [], []⟩
def dd_is_prime : He.DefD := ⟨("is_prime", none), "is_prime", "is_prime", defArgs s_is_prime, defBody s_is_prime, defScope s_is_prime, [], []⟩
def dd_need_fraction : He.DefD := ⟨("need_fraction", none), "need_fraction", "need_fraction", defArgs s_need_fraction, defBody s_need_fraction, defScope s_need_fraction, [], []⟩
def dd_need_prime : He.DefD := ⟨("need_prime", none), "need_prime", "need_prime", defArgs s_need_prime, defBody s_need_prime, defScope s_need_prime, [], []⟩
def dd_rest_by : He.DefD := ⟨("rest_by", none), "rest_by", "rest_by", defArgs s_rest_by, defBody s_rest_by, defScope s_rest_by, [], []⟩
def dd_rest_of : He.DefD := ⟨("rest_of", none), "rest_of", "rest_of", defArgs s_rest_of, defBody s_rest_of, defScope s_rest_of, [], []⟩
def dd_rests_of : He.DefD := ⟨("rests_of", none), "rests_of", "rests_of", defArgs s_rests_of, defBody s_rests_of, defScope s_rests_of, [], []⟩
def dd__law_pool : He.DefD := ⟨("_law_pool", none), "_law_pool", "_law_pool", defArgs s__law_pool, defBody s__law_pool, defScope s__law_pool, [], []⟩
def dd__law_take : He.DefD := ⟨("_law_take", none), "_law_take", "_law_take", defArgs s__law_take, defBody s__law_take, defScope s__law_take, [], []⟩
def dd__law_far : He.DefD := ⟨("_law_far", none), "_law_far", "_law_far", defArgs s__law_far, defBody s__law_far, defScope s__law_far, [], []⟩
def dd__law_number : He.DefD := ⟨("_law_number", none), "_law_number", "_law_number", defArgs s__law_number, defBody s__law_number, defScope s__law_number, [], []⟩
def dd__law_all_primes : He.DefD := ⟨("_law_all_primes", none), "_law_all_primes", "_law_all_primes", defArgs s__law_all_primes, defBody s__law_all_primes, defScope s__law_all_primes, [], []⟩
def dd__law_prime : He.DefD := ⟨("_law_prime", none), "_law_prime", "_law_prime", defArgs s__law_prime, defBody s__law_prime, defScope s__law_prime, [], []⟩
def dd__law_shared : He.DefD := ⟨("_law_shared", none), "_law_shared", "_law_shared", defArgs s__law_shared, defBody s__law_shared, defScope s__law_shared, [], []⟩
def dd__law_fraction : He.DefD := ⟨("_law_fraction", none), "_law_fraction", "_law_fraction", defArgs s__law_fraction, defBody s__law_fraction, defScope s__law_fraction, [], []⟩
def dd__law_is_fraction : He.DefD := ⟨("_law_is_fraction", none), "_law_is_fraction", "_law_is_fraction", defArgs s__law_is_fraction, defBody s__law_is_fraction, defScope s__law_is_fraction, [], []⟩
def dd__law_spoilt : He.DefD := ⟨("_law_spoilt", none), "_law_spoilt", "_law_spoilt", defArgs s__law_spoilt, defBody s__law_spoilt, defScope s__law_spoilt, [], []⟩
def dd__law_bad_primes : He.DefD := ⟨("_law_bad_primes", none), "_law_bad_primes", "_law_bad_primes", defArgs s__law_bad_primes, defBody s__law_bad_primes, defScope s__law_bad_primes, [], []⟩
def dd__law_is : He.DefD := ⟨("_law_is", none), "_law_is", "_law_is", defArgs s__law_is, defBody s__law_is, defScope s__law_is, [], []⟩
def dd__law_caught : He.DefD := ⟨("_law_caught", none), "_law_caught", "_law_caught", defArgs s__law_caught, defBody s__law_caught, defScope s__law_caught, [], []⟩
def dd__law_refused : He.DefD := ⟨("_law_refused", none), "_law_refused", "_law_refused", defArgs s__law_refused, defBody s__law_refused, defScope s__law_refused, [], []⟩
def dd_law : He.DefD := ⟨("law", none), "law", "law", defArgs s_law, defBody s_law, defScope s_law, [], []⟩
def fnL : List He.DefD := [dd_is_whole, dd_common_divisor, dd_short_row, dd_inverse, dd_is_pair, dd_is_fraction, dd_is_prime, dd_need_fraction, dd_need_prime, dd_rest_by, dd_rest_of, dd_rests_of, dd__law_pool, dd__law_take, dd__law_far, dd__law_number, dd__law_all_primes, dd__law_prime, dd__law_shared, dd__law_fraction, dd__law_is_fraction, dd__law_spoilt, dd__law_bad_primes, dd__law_is, dd__law_caught, dd__law_refused, dd_law]
def faL : List He.Fa := [.glo "is_whole", .glo "common_divisor", .glo "short_row", .glo "inverse", .glo "is_pair", .glo "is_fraction", .glo "is_prime", .glo "need_fraction", .glo "need_prime", .glo "rest_by", .glo "rest_of", .glo "rests_of", .glo "_law_pool", .glo "_law_take", .glo "_law_far", .glo "_law_number", .glo "_law_all_primes", .glo "_law_prime", .glo "_law_shared", .glo "_law_fraction", .glo "_law_is_fraction", .glo "_law_spoilt", .glo "_law_bad_primes", .glo "_law_is", .glo "_law_caught", .glo "_law_refused", .glo "law", .free "isinstance", .free "bool", .free "int", .free "len", .free "tuple", .free "list", .free "range", .free "abs", .free "max", .free "str", .free "ValueError", .free "repr", .free "min", .int "PRIME_LIMIT" 1000, .glo "BackError", .exc "BackError", .glo "NoFraction", .exc "NoFraction", .glo "NoPrime", .exc "NoPrime", .glo "NoReadings", .exc "NoReadings", .glo "NoBounds", .exc "NoBounds", .glo "NoNumber", .exc "NoNumber", .glo "TooFew", .exc "TooFew", .glo "TooMany", .exc "TooMany", .glo "NoText", .exc "NoText", .glo "NoName", .exc "NoName", .glo "NoRow", .exc "NoRow", .glo "NoPoly", .exc "NoPoly", .glo "NoQuotient", .exc "NoQuotient", .glo "NoWorths", .exc "NoWorths", .glo "NoDegrees", .exc "NoDegrees"]
abbrev RR : PySem.W.OpenRow := PySem.W.OpenLaw.row PySem.Challenge.rw_toldback_k04_no_fractions_and_no_primes
def looseL : List PySem.Str := (["is_whole", "common_divisor", "short_row", "inverse", "is_pair", "is_fraction", "is_prime", "need_fraction", "need_prime", "rest_by", "rest_of", "rests_of", "_law_pool", "_law_take", "_law_far", "_law_number", "_law_all_primes", "_law_prime", "_law_shared", "_law_fraction"] : List PySem.Str) ++ (["_law_is_fraction", "_law_spoilt", "_law_bad_primes", "_law_is", "_law_caught", "_law_refused", "PRIME_LIMIT", "BackError", "NoFraction", "NoPrime", "NoReadings", "NoBounds", "NoNumber", "TooFew", "TooMany", "NoText", "NoName", "NoRow", "NoPoly", "NoQuotient"] : List PySem.Str) ++ (["NoWorths", "NoDegrees"] : List PySem.Str)
def xfL : List XF := [.exc "NoFraction", .str "NoFraction", .kitT "NoFraction" "ValueError" true, .exm "NoFraction" "BackError" true, .kit "NoFraction" "BackError" true, .kit "NoFraction" "NoFraction" true, .kit "NoFraction" "NoPrime" false, .kit "NoFraction" "NoReadings" false, .kit "NoFraction" "NoBounds" false, .kit "NoFraction" "NoNumber" false, .kit "NoFraction" "TooFew" false, .kit "NoFraction" "TooMany" false, .kit "NoFraction" "NoText" false, .kit "NoFraction" "NoName" false, .kit "NoFraction" "NoRow" false, .kit "NoFraction" "NoPoly" false, .kit "NoFraction" "NoQuotient" false, .kit "NoFraction" "NoWorths" false, .kit "NoFraction" "NoDegrees" false, .exc "NoPrime", .str "NoPrime", .kitT "NoPrime" "ValueError" true, .exm "NoPrime" "BackError" true, .kit "NoPrime" "BackError" true, .kit "NoPrime" "NoFraction" false, .kit "NoPrime" "NoPrime" true, .kit "NoPrime" "NoReadings" false, .kit "NoPrime" "NoBounds" false, .kit "NoPrime" "NoNumber" false, .kit "NoPrime" "TooFew" false, .kit "NoPrime" "TooMany" false, .kit "NoPrime" "NoText" false, .kit "NoPrime" "NoName" false, .kit "NoPrime" "NoRow" false, .kit "NoPrime" "NoPoly" false, .kit "NoPrime" "NoQuotient" false, .kit "NoPrime" "NoWorths" false, .kit "NoPrime" "NoDegrees" false]
abbrev hk : PySem.W.Hook := hookY 4 xfL faL fnL
def ob (s : PySem.W.SharedT) : AlY := obsY 4 xfL faL fnL (HandSHeadRun.getT s)
theorem ob_eq (s : PySem.W.SharedT) : ob s = hk.obs s.abs := obsY_eq (HandSHeadRun.getT_eq s)
theorem run (w : World) : HandSHeadRun.RunEq RR (PySem.W.view RR.prog [46]) hk ob 12000 looseL w := by
  intro os
  kernel_rfl
theorem facts {P : Program} {w : World} {K : PySem.W.Frag} {h : Heap} {mg : Str → Option Value} {f : Addr} (X : K.In h) (G : h.Ns mainGlobals mg) (hfa : mg ("law" : Str) = some (.ref f)) (cy : SaysY xfL faL fnL K) :
    ∃ fd : FuncData, (∀ (s : Shared) (v : Value), BindsTo s fd ⟨[v], []⟩ [("script", v)]) ∧ ∀ base : Heap, K.In base → base.Ns mainGlobals mg → FnG P w K mg base CX0 7 f fd ["script"] (sp_law K) := by
  have c0 := cy.2
  have c : He.SaysD faL fnL K := c0.2
  obtain ⟨fd_is_whole, F_is_whole⟩ := c.def_ 0 (d := dd_is_whole) rfl
  obtain ⟨fd_common_divisor, F_common_divisor⟩ := c.def_ 1 (d := dd_common_divisor) rfl
  obtain ⟨fd_short_row, F_short_row⟩ := c.def_ 2 (d := dd_short_row) rfl
  obtain ⟨fd_inverse, F_inverse⟩ := c.def_ 3 (d := dd_inverse) rfl
  obtain ⟨fd_is_pair, F_is_pair⟩ := c.def_ 4 (d := dd_is_pair) rfl
  obtain ⟨fd_is_fraction, F_is_fraction⟩ := c.def_ 5 (d := dd_is_fraction) rfl
  obtain ⟨fd_is_prime, F_is_prime⟩ := c.def_ 6 (d := dd_is_prime) rfl
  obtain ⟨fd_need_fraction, F_need_fraction⟩ := c.def_ 7 (d := dd_need_fraction) rfl
  obtain ⟨fd_need_prime, F_need_prime⟩ := c.def_ 8 (d := dd_need_prime) rfl
  obtain ⟨fd_rest_by, F_rest_by⟩ := c.def_ 9 (d := dd_rest_by) rfl
  obtain ⟨fd_rest_of, F_rest_of⟩ := c.def_ 10 (d := dd_rest_of) rfl
  obtain ⟨fd_rests_of, F_rests_of⟩ := c.def_ 11 (d := dd_rests_of) rfl
  obtain ⟨fd__law_pool, F__law_pool⟩ := c.def_ 12 (d := dd__law_pool) rfl
  obtain ⟨fd__law_take, F__law_take⟩ := c.def_ 13 (d := dd__law_take) rfl
  obtain ⟨fd__law_far, F__law_far⟩ := c.def_ 14 (d := dd__law_far) rfl
  obtain ⟨fd__law_number, F__law_number⟩ := c.def_ 15 (d := dd__law_number) rfl
  obtain ⟨fd__law_all_primes, F__law_all_primes⟩ := c.def_ 16 (d := dd__law_all_primes) rfl
  obtain ⟨fd__law_prime, F__law_prime⟩ := c.def_ 17 (d := dd__law_prime) rfl
  obtain ⟨fd__law_shared, F__law_shared⟩ := c.def_ 18 (d := dd__law_shared) rfl
  obtain ⟨fd__law_fraction, F__law_fraction⟩ := c.def_ 19 (d := dd__law_fraction) rfl
  obtain ⟨fd__law_is_fraction, F__law_is_fraction⟩ := c.def_ 20 (d := dd__law_is_fraction) rfl
  obtain ⟨fd__law_spoilt, F__law_spoilt⟩ := c.def_ 21 (d := dd__law_spoilt) rfl
  obtain ⟨fd__law_bad_primes, F__law_bad_primes⟩ := c.def_ 22 (d := dd__law_bad_primes) rfl
  obtain ⟨fd__law_is, F__law_is⟩ := c.def_ 23 (d := dd__law_is) rfl
  obtain ⟨fd__law_caught, F__law_caught⟩ := c.def_ 24 (d := dd__law_caught) rfl
  obtain ⟨fd__law_refused, F__law_refused⟩ := c.def_ 25 (d := dd__law_refused) rfl
  obtain ⟨fd_law, F_law⟩ := c.def_ 26 (d := dd_law) rfl
  obtain ⟨t_PRIME_LIMIT, c_PRIME_LIMIT⟩ := He.int_ok X G (c.fact 40 (f := .int "PRIME_LIMIT" 1000) rfl)
  have e := hfa.symm.trans (He.glo_ok X G (c.fact 26 (f := .glo "law") rfl))
  cases e
  have b := FunD.bindsA (ps := ["script"]) F_law fun _ _ _ _ _ _ us hl => match us, hl with | [_], _ => rfl
  have T : Txt K mg ⟨He.ga K "is_whole", fd_is_whole, He.ga K "common_divisor", fd_common_divisor, He.ga K "short_row", fd_short_row, He.ga K "inverse", fd_inverse, He.ga K "is_pair", fd_is_pair, He.ga K "is_fraction", fd_is_fraction, He.ga K "is_prime", fd_is_prime, He.ga K "need_fraction", fd_need_fraction, He.ga K "need_prime", fd_need_prime, He.ga K "rest_by", fd_rest_by, He.ga K "rest_of", fd_rest_of, He.ga K "rests_of", fd_rests_of, He.ga K "_law_pool", fd__law_pool, He.ga K "_law_take", fd__law_take, He.ga K "_law_far", fd__law_far, He.ga K "_law_number", fd__law_number, He.ga K "_law_all_primes", fd__law_all_primes, He.ga K "_law_prime", fd__law_prime, He.ga K "_law_shared", fd__law_shared, He.ga K "_law_fraction", fd__law_fraction, He.ga K "_law_is_fraction", fd__law_is_fraction, He.ga K "_law_spoilt", fd__law_spoilt, He.ga K "_law_bad_primes", fd__law_bad_primes, He.ga K "_law_is", fd__law_is, He.ga K "_law_caught", fd__law_caught, He.ga K "_law_refused", fd__law_refused, He.ga K "law", fd_law, t_PRIME_LIMIT, He.ga K "BackError", He.ga K "NoFraction", He.ga K "NoPrime", He.ga K "NoReadings", He.ga K "NoBounds", He.ga K "NoNumber", He.ga K "TooFew", He.ga K "TooMany", He.ga K "NoText", He.ga K "NoName", He.ga K "NoRow", He.ga K "NoPoly", He.ga K "NoQuotient", He.ga K "NoWorths", He.ga K "NoDegrees"⟩ :=
    { F_is_whole := F_is_whole,
      g_is_whole := He.glo_ok X G (c.fact 0 (f := .glo "is_whole") rfl),
      b_is_whole := F_is_whole.bindsN fun _ _ _ _ _ _ us hl => match us, hl with | [_], _ => rfl,
      F_common_divisor := F_common_divisor,
      g_common_divisor := He.glo_ok X G (c.fact 1 (f := .glo "common_divisor") rfl),
      b_common_divisor := F_common_divisor.bindsN fun _ _ _ _ _ _ us hl => match us, hl with | [_, _], _ => rfl,
      F_short_row := F_short_row,
      g_short_row := He.glo_ok X G (c.fact 2 (f := .glo "short_row") rfl),
      b_short_row := F_short_row.bindsN fun _ _ _ _ _ _ us hl => match us, hl with | [_, _, _], _ => rfl,
      F_inverse := F_inverse,
      g_inverse := He.glo_ok X G (c.fact 3 (f := .glo "inverse") rfl),
      b_inverse := F_inverse.bindsN fun _ _ _ _ _ _ us hl => match us, hl with | [_, _], _ => rfl,
      F_is_pair := F_is_pair,
      g_is_pair := He.glo_ok X G (c.fact 4 (f := .glo "is_pair") rfl),
      b_is_pair := F_is_pair.bindsN fun _ _ _ _ _ _ us hl => match us, hl with | [_], _ => rfl,
      F_is_fraction := F_is_fraction,
      g_is_fraction := He.glo_ok X G (c.fact 5 (f := .glo "is_fraction") rfl),
      b_is_fraction := F_is_fraction.bindsN fun _ _ _ _ _ _ us hl => match us, hl with | [_], _ => rfl,
      F_is_prime := F_is_prime,
      g_is_prime := He.glo_ok X G (c.fact 6 (f := .glo "is_prime") rfl),
      b_is_prime := F_is_prime.bindsN fun _ _ _ _ _ _ us hl => match us, hl with | [_], _ => rfl,
      F_need_fraction := F_need_fraction,
      g_need_fraction := He.glo_ok X G (c.fact 7 (f := .glo "need_fraction") rfl),
      b_need_fraction := F_need_fraction.bindsN fun _ _ _ _ _ _ us hl => match us, hl with | [_], _ => rfl,
      F_need_prime := F_need_prime,
      g_need_prime := He.glo_ok X G (c.fact 8 (f := .glo "need_prime") rfl),
      b_need_prime := F_need_prime.bindsN fun _ _ _ _ _ _ us hl => match us, hl with | [_], _ => rfl,
      F_rest_by := F_rest_by,
      g_rest_by := He.glo_ok X G (c.fact 9 (f := .glo "rest_by") rfl),
      b_rest_by := F_rest_by.bindsN fun _ _ _ _ _ _ us hl => match us, hl with | [_, _], _ => rfl,
      F_rest_of := F_rest_of,
      g_rest_of := He.glo_ok X G (c.fact 10 (f := .glo "rest_of") rfl),
      b_rest_of := F_rest_of.bindsN fun _ _ _ _ _ _ us hl => match us, hl with | [_, _], _ => rfl,
      F_rests_of := F_rests_of,
      g_rests_of := He.glo_ok X G (c.fact 11 (f := .glo "rests_of") rfl),
      b_rests_of := F_rests_of.bindsN fun _ _ _ _ _ _ us hl => match us, hl with | [_, _], _ => rfl,
      F__law_pool := F__law_pool,
      g__law_pool := He.glo_ok X G (c.fact 12 (f := .glo "_law_pool") rfl),
      b__law_pool := F__law_pool.bindsN fun _ _ _ _ _ _ us hl => match us, hl with | [_, _], _ => rfl,
      F__law_take := F__law_take,
      g__law_take := He.glo_ok X G (c.fact 13 (f := .glo "_law_take") rfl),
      b__law_take := F__law_take.bindsN fun _ _ _ _ _ _ us hl => match us, hl with | [_, _], _ => rfl,
      F__law_far := F__law_far,
      g__law_far := He.glo_ok X G (c.fact 14 (f := .glo "_law_far") rfl),
      b__law_far := F__law_far.bindsN fun _ _ _ _ _ _ us hl => match us, hl with | [_, _], _ => rfl,
      F__law_number := F__law_number,
      g__law_number := He.glo_ok X G (c.fact 15 (f := .glo "_law_number") rfl),
      b__law_number := F__law_number.bindsN fun _ _ _ _ _ _ us hl => match us, hl with | [_], _ => rfl,
      F__law_all_primes := F__law_all_primes,
      g__law_all_primes := He.glo_ok X G (c.fact 16 (f := .glo "_law_all_primes") rfl),
      b__law_all_primes := F__law_all_primes.bindsN fun _ _ _ _ _ _ us hl => match us, hl with | [], _ => rfl,
      F__law_prime := F__law_prime,
      g__law_prime := He.glo_ok X G (c.fact 17 (f := .glo "_law_prime") rfl),
      b__law_prime := F__law_prime.bindsN fun _ _ _ _ _ _ us hl => match us, hl with | [_, _], _ => rfl,
      F__law_shared := F__law_shared,
      g__law_shared := He.glo_ok X G (c.fact 18 (f := .glo "_law_shared") rfl),
      b__law_shared := F__law_shared.bindsN fun _ _ _ _ _ _ us hl => match us, hl with | [_, _], _ => rfl,
      F__law_fraction := F__law_fraction,
      g__law_fraction := He.glo_ok X G (c.fact 19 (f := .glo "_law_fraction") rfl),
      b__law_fraction := F__law_fraction.bindsN fun _ _ _ _ _ _ us hl => match us, hl with | [_, _], _ => rfl,
      F__law_is_fraction := F__law_is_fraction,
      g__law_is_fraction := He.glo_ok X G (c.fact 20 (f := .glo "_law_is_fraction") rfl),
      b__law_is_fraction := F__law_is_fraction.bindsN fun _ _ _ _ _ _ us hl => match us, hl with | [_], _ => rfl,
      F__law_spoilt := F__law_spoilt,
      g__law_spoilt := He.glo_ok X G (c.fact 21 (f := .glo "_law_spoilt") rfl),
      b__law_spoilt := F__law_spoilt.bindsN fun _ _ _ _ _ _ us hl => match us, hl with | [_, _, _], _ => rfl,
      F__law_bad_primes := F__law_bad_primes,
      g__law_bad_primes := He.glo_ok X G (c.fact 22 (f := .glo "_law_bad_primes") rfl),
      b__law_bad_primes := F__law_bad_primes.bindsN fun _ _ _ _ _ _ us hl => match us, hl with | [_, _], _ => rfl,
      F__law_is := F__law_is,
      g__law_is := He.glo_ok X G (c.fact 23 (f := .glo "_law_is") rfl),
      b__law_is := F__law_is.bindsN fun _ _ _ _ _ _ us hl => match us, hl with | [_, _], _ => rfl,
      F__law_caught := F__law_caught,
      g__law_caught := He.glo_ok X G (c.fact 24 (f := .glo "_law_caught") rfl),
      b__law_caught := F__law_caught.bindsN fun _ _ _ _ _ _ us hl => match us, hl with | [_, _, _], _ => rfl,
      F__law_refused := F__law_refused,
      g__law_refused := He.glo_ok X G (c.fact 25 (f := .glo "_law_refused") rfl),
      b__law_refused := F__law_refused.bindsN fun _ _ _ _ _ _ us hl => match us, hl with | [_, _, _, _], _ => rfl,
      F_law := F_law,
      g_law := He.glo_ok X G (c.fact 26 (f := .glo "law") rfl),
      b_law := F_law.bindsN fun _ _ _ _ _ _ us hl => match us, hl with | [_], _ => rfl,
      m_isinstance := He.free_ok X G (c.fact 27 (f := .free "isinstance") rfl),
      m_bool := He.free_ok X G (c.fact 28 (f := .free "bool") rfl),
      m_int := He.free_ok X G (c.fact 29 (f := .free "int") rfl),
      m_len := He.free_ok X G (c.fact 30 (f := .free "len") rfl),
      m_tuple := He.free_ok X G (c.fact 31 (f := .free "tuple") rfl),
      m_list := He.free_ok X G (c.fact 32 (f := .free "list") rfl),
      m_range := He.free_ok X G (c.fact 33 (f := .free "range") rfl),
      m_abs := He.free_ok X G (c.fact 34 (f := .free "abs") rfl),
      m_max := He.free_ok X G (c.fact 35 (f := .free "max") rfl),
      m_str := He.free_ok X G (c.fact 36 (f := .free "str") rfl),
      m_ValueError := He.free_ok X G (c.fact 37 (f := .free "ValueError") rfl),
      m_repr := He.free_ok X G (c.fact 38 (f := .free "repr") rfl),
      m_min := He.free_ok X G (c.fact 39 (f := .free "min") rfl),
      c_PRIME_LIMIT := c_PRIME_LIMIT,
      k_BackError := He.glo_ok X G (c.fact 41 (f := .glo "BackError") rfl),
      x_BackError := excFacts_of (c.fact 42 (f := .exc "BackError") rfl),
      k_NoFraction := He.glo_ok X G (c.fact 43 (f := .glo "NoFraction") rfl),
      x_NoFraction := excFacts_of (c.fact 44 (f := .exc "NoFraction") rfl),
      k_NoPrime := He.glo_ok X G (c.fact 45 (f := .glo "NoPrime") rfl),
      x_NoPrime := excFacts_of (c.fact 46 (f := .exc "NoPrime") rfl),
      k_NoReadings := He.glo_ok X G (c.fact 47 (f := .glo "NoReadings") rfl),
      x_NoReadings := excFacts_of (c.fact 48 (f := .exc "NoReadings") rfl),
      k_NoBounds := He.glo_ok X G (c.fact 49 (f := .glo "NoBounds") rfl),
      x_NoBounds := excFacts_of (c.fact 50 (f := .exc "NoBounds") rfl),
      k_NoNumber := He.glo_ok X G (c.fact 51 (f := .glo "NoNumber") rfl),
      x_NoNumber := excFacts_of (c.fact 52 (f := .exc "NoNumber") rfl),
      k_TooFew := He.glo_ok X G (c.fact 53 (f := .glo "TooFew") rfl),
      x_TooFew := excFacts_of (c.fact 54 (f := .exc "TooFew") rfl),
      k_TooMany := He.glo_ok X G (c.fact 55 (f := .glo "TooMany") rfl),
      x_TooMany := excFacts_of (c.fact 56 (f := .exc "TooMany") rfl),
      k_NoText := He.glo_ok X G (c.fact 57 (f := .glo "NoText") rfl),
      x_NoText := excFacts_of (c.fact 58 (f := .exc "NoText") rfl),
      k_NoName := He.glo_ok X G (c.fact 59 (f := .glo "NoName") rfl),
      x_NoName := excFacts_of (c.fact 60 (f := .exc "NoName") rfl),
      k_NoRow := He.glo_ok X G (c.fact 61 (f := .glo "NoRow") rfl),
      x_NoRow := excFacts_of (c.fact 62 (f := .exc "NoRow") rfl),
      k_NoPoly := He.glo_ok X G (c.fact 63 (f := .glo "NoPoly") rfl),
      x_NoPoly := excFacts_of (c.fact 64 (f := .exc "NoPoly") rfl),
      k_NoQuotient := He.glo_ok X G (c.fact 65 (f := .glo "NoQuotient") rfl),
      x_NoQuotient := excFacts_of (c.fact 66 (f := .exc "NoQuotient") rfl),
      k_NoWorths := He.glo_ok X G (c.fact 67 (f := .glo "NoWorths") rfl),
      x_NoWorths := excFacts_of (c.fact 68 (f := .exc "NoWorths") rfl),
      k_NoDegrees := He.glo_ok X G (c.fact 69 (f := .glo "NoDegrees") rfl),
      x_NoDegrees := excFacts_of (c.fact 70 (f := .exc "NoDegrees") rfl),
      xc_NoFraction := xf_exc (c0.x 0 (f := .exc "NoFraction") rfl),
      xs_NoFraction := xf_str (c0.x 1 (f := .str "NoFraction") rfl),
      kv_NoFraction := xf_kitT (c0.x 2 (f := .kitT "NoFraction" "ValueError" true) rfl),
      xm_NoFraction := xf_exm (c0.x 3 (f := .exm "NoFraction" "BackError" true) rfl),
      ki_NoFraction_BackError := xf_kit (c0.x 4 (f := .kit "NoFraction" "BackError" true) rfl),
      ki_NoFraction_NoFraction := xf_kit (c0.x 5 (f := .kit "NoFraction" "NoFraction" true) rfl),
      ki_NoFraction_NoPrime := xf_kit (c0.x 6 (f := .kit "NoFraction" "NoPrime" false) rfl),
      ki_NoFraction_NoReadings := xf_kit (c0.x 7 (f := .kit "NoFraction" "NoReadings" false) rfl),
      ki_NoFraction_NoBounds := xf_kit (c0.x 8 (f := .kit "NoFraction" "NoBounds" false) rfl),
      ki_NoFraction_NoNumber := xf_kit (c0.x 9 (f := .kit "NoFraction" "NoNumber" false) rfl),
      ki_NoFraction_TooFew := xf_kit (c0.x 10 (f := .kit "NoFraction" "TooFew" false) rfl),
      ki_NoFraction_TooMany := xf_kit (c0.x 11 (f := .kit "NoFraction" "TooMany" false) rfl),
      ki_NoFraction_NoText := xf_kit (c0.x 12 (f := .kit "NoFraction" "NoText" false) rfl),
      ki_NoFraction_NoName := xf_kit (c0.x 13 (f := .kit "NoFraction" "NoName" false) rfl),
      ki_NoFraction_NoRow := xf_kit (c0.x 14 (f := .kit "NoFraction" "NoRow" false) rfl),
      ki_NoFraction_NoPoly := xf_kit (c0.x 15 (f := .kit "NoFraction" "NoPoly" false) rfl),
      ki_NoFraction_NoQuotient := xf_kit (c0.x 16 (f := .kit "NoFraction" "NoQuotient" false) rfl),
      ki_NoFraction_NoWorths := xf_kit (c0.x 17 (f := .kit "NoFraction" "NoWorths" false) rfl),
      ki_NoFraction_NoDegrees := xf_kit (c0.x 18 (f := .kit "NoFraction" "NoDegrees" false) rfl),
      xc_NoPrime := xf_exc (c0.x 19 (f := .exc "NoPrime") rfl),
      xs_NoPrime := xf_str (c0.x 20 (f := .str "NoPrime") rfl),
      kv_NoPrime := xf_kitT (c0.x 21 (f := .kitT "NoPrime" "ValueError" true) rfl),
      xm_NoPrime := xf_exm (c0.x 22 (f := .exm "NoPrime" "BackError" true) rfl),
      ki_NoPrime_BackError := xf_kit (c0.x 23 (f := .kit "NoPrime" "BackError" true) rfl),
      ki_NoPrime_NoFraction := xf_kit (c0.x 24 (f := .kit "NoPrime" "NoFraction" false) rfl),
      ki_NoPrime_NoPrime := xf_kit (c0.x 25 (f := .kit "NoPrime" "NoPrime" true) rfl),
      ki_NoPrime_NoReadings := xf_kit (c0.x 26 (f := .kit "NoPrime" "NoReadings" false) rfl),
      ki_NoPrime_NoBounds := xf_kit (c0.x 27 (f := .kit "NoPrime" "NoBounds" false) rfl),
      ki_NoPrime_NoNumber := xf_kit (c0.x 28 (f := .kit "NoPrime" "NoNumber" false) rfl),
      ki_NoPrime_TooFew := xf_kit (c0.x 29 (f := .kit "NoPrime" "TooFew" false) rfl),
      ki_NoPrime_TooMany := xf_kit (c0.x 30 (f := .kit "NoPrime" "TooMany" false) rfl),
      ki_NoPrime_NoText := xf_kit (c0.x 31 (f := .kit "NoPrime" "NoText" false) rfl),
      ki_NoPrime_NoName := xf_kit (c0.x 32 (f := .kit "NoPrime" "NoName" false) rfl),
      ki_NoPrime_NoRow := xf_kit (c0.x 33 (f := .kit "NoPrime" "NoRow" false) rfl),
      ki_NoPrime_NoPoly := xf_kit (c0.x 34 (f := .kit "NoPrime" "NoPoly" false) rfl),
      ki_NoPrime_NoQuotient := xf_kit (c0.x 35 (f := .kit "NoPrime" "NoQuotient" false) rfl),
      ki_NoPrime_NoWorths := xf_kit (c0.x 36 (f := .kit "NoPrime" "NoWorths" false) rfl),
      ki_NoPrime_NoDegrees := xf_kit (c0.x 37 (f := .kit "NoPrime" "NoDegrees" false) rfl),
      sm := smB_ok cy.1 }
  exact ⟨fd_law, fun s v => b s [v] rfl, fun base _ _ => ok_law T⟩
end TB
open PySem PySem.W PySem.Calls PyProof.Rows
set_option maxHeartbeats 0 in
theorem PySem.Challenge.cw_toldback_k04_no_fractions_and_no_primes_holds : PySem.Challenge.rw_toldback_k04_no_fractions_and_no_primes.Holds := by
  w_on; o_law
  refine HandSHeadRun.head_any (r := OpenLaw.row PySem.Challenge.rw_toldback_k04_no_fractions_and_no_primes) (q := view (OpenLaw.row PySem.Challenge.rw_toldback_k04_no_fractions_and_no_primes).prog [46]) (H := TB.hk) (ob := TB.ob) (M := 12000) (loose := TB.looseL) (d := HandSHeadRun.topDef (OpenLaw.row PySem.Challenge.rw_toldback_k04_no_fractions_and_no_primes).prog 46) (kwd := []) TB.ob_eq
    (by kernel_rfl) (fun s => by kernel_rfl) TB.run (by kernel_rfl) (by kernel_rfl) (by kernel_rfl) (by rfl) (by first | assumption | decide +kernel) (by decide +kernel) ⟨rfl, rfl, rfl, rfl, rfl, by decide +kernel⟩ ?hw ?hc
  case hw => w_witness2
  case hc =>
    refine TB.walkG (l := PySem.Challenge.rw_toldback_k04_no_fractions_and_no_primes) (n := 63) (k := 7) (x := "script") rfl (by decide) (by kernel_rfl) ⟨rfl, by decide, by decide⟩ ?F
    intro w mg fa h Y G hmg0
    obtain ⟨K, KX, c⟩ := Y
    have hmg : mg ("law" : PySem.Str) = some (.ref fa) := by
      have e : (HandSHeadRun.topDef (OpenLaw.row PySem.Challenge.rw_toldback_k04_no_fractions_and_no_primes).prog 46).name = ("law" : PySem.Str) := by kernel_rfl
      rw [← e]
      exact hmg0
    obtain ⟨fd, hb, hF⟩ := TB.facts (P := (PySem.Challenge.rw_toldback_k04_no_fractions_and_no_primes).prog) (w := w) KX G hmg c
    exact ⟨K, fd, TB.sp_law K, KX, hb, fun H a ns hl ho hS => TB.law_start hl ho hS, hF⟩
