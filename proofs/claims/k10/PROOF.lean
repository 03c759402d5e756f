import PyProof.Rows.All
import Wide.All
import OpenK.AllK
import Wide.FinOn
import KE.KStateDown
import Lean
import HandS.Base
import HandS.Call
import HandS.List
import HandS.Comp
import HandS.Ends
import HandS.More
import HandS.Dict
import HandS.Iter
import HandS.Walk
import HandS.Text
import HandS.Words
import HandS.WordsList
import HandS.WordsExc
import HandS.Defaults
import HandS.Wide
import HandS.IsInst
import HandS.Style
import HandS.Evl
import HandS.Steps
import HandS.RaiseMore
import HandS.Head0
import HandS.Head1
import HandS.Head2
import HandS.HeadEnd
import HandS.HeadHook1
import HandS.HeadHook2
import HandS.ExcIs
import HandS.ExcValue
import HandS.FStr
import KE.KExcMore
import HandS.AnyAll
import HandS.GenList
import HandS.Set
import HandS.Strs
import HandS.SetBool
import KE.GoesEnum
import HandS.Walk
import PySem.Challenge.RW_toldback_k10_whole_rests_alike
set_option Elab.async false
set_option linter.all false
set_option maxRecDepth 100000
set_option maxHeartbeats 4000000
namespace TB
open PySem PySem.Spec PyProof.Rows L2 Evl
/-! ### facts about the classes, by names -/
inductive XF where
  | exc (x : Str)
  | str (x : Str)
  | kit (x y : Str) (b : Bool)
  | kitT (x : Str) (t : String) (b : Bool)
  | exm (x y : Str) (b : Bool)
def XF.ok (K : PySem.W.Frag) : XF → Bool
  | .exc x => He.eqO (PySem.W.findIn K (.ref (He.ga K x)) "__getattribute__") (some (some (.builtin "BaseException.__getattribute__"))) && (He.eqO (PySem.W.findIn K (.ref (He.ga K x)) "__getattr__") (some none) &&
      (decide (PySem.W.subIn K (.ref (He.ga K x)) (.type "BaseException") = some true) && (PySem.W.hasDictIn K (He.ga K x) && (He.eqO (PySem.W.findIn K (.ref (He.ga K x)) "__class__") (some (some (.builtin "object.__class__"))) &&
      (He.eqO (PySem.W.specialIn K (.builtin "object.__class__") "__get__") (some (some (.builtin "getset_descriptor.__get__"))) && (decide (PySem.W.takesIn K (.builtin "object.__class__") = some true) && decide (PySem.W.mroIn K (He.ga K x) (.type "object") = some true)))))))
  | .str x => He.eqO (PySem.W.findIn K (.ref (He.ga K x)) "__str__") (some (some (.builtin "BaseException.__str__")))
  | .kit x y b => decide (PySem.W.kitOne K (.ref (He.ga K x)) (.ref (He.ga K y)) = some b)
  | .kitT x t b => decide (PySem.W.kitOne K (.ref (He.ga K x)) (.type t) = some b)
  | .exm x y b => decide (PySem.W.exmOne K (.ref (He.ga K x)) (.ref (He.ga K y)) = some b)
theorem xf_exc {K : PySem.W.Frag} {x : Str} (c : (XF.exc x).ok K = true) : L2.ExcC K (He.ga K x) := by
  obtain ⟨c1, c⟩ := He.ba c
  obtain ⟨c2, c⟩ := He.ba c
  obtain ⟨c3, c⟩ := He.ba c
  obtain ⟨c4, c⟩ := He.ba c
  obtain ⟨c5, c⟩ := He.ba c
  obtain ⟨c6, c⟩ := He.ba c
  obtain ⟨c7, c8⟩ := He.ba c
  exact ⟨He.eqO_ok c1, He.eqO_ok c2, of_decide_eq_true c3, c4, He.eqO_ok c5, He.eqO_ok c6, of_decide_eq_true c7, of_decide_eq_true c8⟩
theorem xf_str {K : PySem.W.Frag} {x : Str} (c : (XF.str x).ok K = true) : PySem.W.findIn K (.ref (He.ga K x)) "__str__" = some (some (.builtin "BaseException.__str__")) := He.eqO_ok c
theorem xf_kit {K : PySem.W.Frag} {x y : Str} {b : Bool} (c : (XF.kit x y b).ok K = true) : PySem.W.kitOne K (.ref (He.ga K x)) (.ref (He.ga K y)) = some b := of_decide_eq_true c
theorem xf_kitT {K : PySem.W.Frag} {x : Str} {t : String} {b : Bool} (c : (XF.kitT x t b).ok K = true) : PySem.W.kitOne K (.ref (He.ga K x)) (.type t) = some b := of_decide_eq_true c
theorem xf_exm {K : PySem.W.Frag} {x y : Str} {b : Bool} (c : (XF.exm x y b).ok K = true) : PySem.W.exmOne K (.ref (He.ga K x)) (.ref (He.ga K y)) = some b := of_decide_eq_true c
abbrev AlX : Type := Bool × He.AlD
def SaysX (xf : List XF) (fa : List He.Fa) (fn : List He.DefD) (K : PySem.W.Frag) : Prop := (xf.all fun f => f.ok K) = true ∧ He.SaysD fa fn K
theorem SaysX.x {xf : List XF} {fa : List He.Fa} {fn : List He.DefD} {K : PySem.W.Frag} (c : SaysX xf fa fn K) (i : Nat) {f : XF} (h : xf[i]? = some f := by rfl) : f.ok K = true := List.all_eq_true.mp c.1 f (List.mem_of_getElem? h)
def obsX (n : Nat) (xf : List XF) (fa : List He.Fa) (fn : List He.DefD) (g : Addr → Option Obj) : AlX := (xf.all fun f => f.ok (He.frG g (He.asD g n)), He.obsD fa fn (He.frG g (He.asD g n)))
def hookX (n : Nat) (xf : List XF) (fa : List He.Fa) (fn : List He.DefD) : PySem.W.Hook where
  α := AlX
  obs := fun s => obsX n xf fa fn s.heap.get?
  val := fun _ => (true, He.valD fn)
  says := fun _ h => ∃ K : PySem.W.Frag, K.In h ∧ SaysX xf fa fn K
  of := fun _ _ e => ⟨_, He.frG_in, congrArg (fun z : AlX => z.1) e, congrArg (fun z : AlX => z.2) e⟩
  keeps := fun _ _ _ ⟨K, hK, c⟩ k => ⟨K, PySem.W.Frag.In.keeps hK k, c⟩
theorem obsX_eq {n : Nat} {xf : List XF} {fa : List He.Fa} {fn : List He.DefD} {g : Addr → Option Obj} {s : Shared} (h : ∀ a, g a = s.heap.get? a) : obsX n xf fa fn g = (hookX n xf fa fn).obs s := by
  have e : g = s.heap.get? := funext h
  rw [e] <;> rfl
/-- sys.modules stands among what is known, a dict -/
def SMK (K : PySem.W.Frag) : Prop := ∃ o es ep, K.lookup sysModules = some o ∧ o.data = .dict es ep
/-! ### facts about the classes, by names, and sys.modules -/
def smB (K : PySem.W.Frag) : Bool := match K.lookup sysModules with
  | some o => match o.data with
    | .dict _ _ => true
    | _ => false
  | none => false
theorem smB_ok {K : PySem.W.Frag} (h : smB K = true) : SMK K := by
  unfold smB at h
  split at h
  · rename_i o e
    split at h
    · rename_i es ep e2
      exact ⟨o, es, ep, e, e2⟩
    · cases h
  · cases h
abbrev AlY : Type := Bool × AlX
def SaysY (xf : List XF) (fa : List He.Fa) (fn : List He.DefD) (K : PySem.W.Frag) : Prop := smB K = true ∧ SaysX xf fa fn K
def frY (g : Addr → Option Obj) (n : Nat) : PySem.W.Frag := He.frG g (sysModules :: He.asD g n)
def obsY (n : Nat) (xf : List XF) (fa : List He.Fa) (fn : List He.DefD) (g : Addr → Option Obj) : AlY := (smB (frY g n), xf.all fun f => f.ok (frY g n), He.obsD fa fn (frY g n))
def hookY (n : Nat) (xf : List XF) (fa : List He.Fa) (fn : List He.DefD) : PySem.W.Hook where
  α := AlY
  obs := fun s => obsY n xf fa fn s.heap.get?
  val := fun _ => (true, true, He.valD fn)
  says := fun _ h => ∃ K : PySem.W.Frag, K.In h ∧ SaysY xf fa fn K
  of := fun _ _ e => ⟨_, He.frG_in, congrArg (fun z : AlY => z.1) e, congrArg (fun z : AlY => z.2.1) e, congrArg (fun z : AlY => z.2.2) e⟩
  keeps := fun _ _ _ ⟨K, hK, c⟩ k => ⟨K, PySem.W.Frag.In.keeps hK k, c⟩
theorem obsY_eq {n : Nat} {xf : List XF} {fa : List He.Fa} {fn : List He.DefD} {g : Addr → Option Obj} {s : Shared} (h : ∀ a, g a = s.heap.get? a) : obsY n xf fa fn g = (hookY n xf fa fn).obs s := by
  have e : g = s.heap.get? := funext h
  rw [e] <;> rfl
/-! ### their tables, at the law's head -/
def frZ (g : Addr → Option Obj) (as : List Addr) : PySem.W.Frag := as.filterMap fun a => match g a with
  | some o => match o.cls with
    | .none => none
    | _ => some (a, o)
  | none => none
theorem lk_mem {a : Addr} {o : Obj} : ∀ {l : List (Addr × Obj)}, l.lookup a = some o → (a, o) ∈ l
  | [], e => nomatch e
  | (b, u) :: l, e => by
    rw [List.lookup_cons] at e
    cases z : a == b with
    | true =>
      rw [z] at e
      have e : u = o := Option.some.inj e
      have z : a = b := eq_of_beq z
      rw [e, z]
      exact List.mem_cons_self
    | false =>
      rw [z] at e
      exact List.mem_cons_of_mem _ (lk_mem e)
theorem frZ_at {g : Addr → Option Obj} {as : List Addr} {a : Addr} {o : Obj} (e : (frZ g as).lookup a = some o) : g a = some o ∧ o.cls ≠ .none := by
  have hm : (a, o) ∈ frZ g as := lk_mem e
  obtain ⟨b, _, hb⟩ := List.mem_filterMap.mp hm
  split at hb
  · rename_i o' e'
    split at hb
    · cases hb
    · rename_i hc
      cases hb
      exact ⟨e', hc⟩
  · cases hb
def isS : Value → Bool
  | .str _ _ => true
  | _ => false
def isI : Value → Bool
  | .int _ _ => true
  | _ => false
def isB : Value → Bool
  | .bool _ => true
  | _ => false
def isR (a : Addr) : Value → Bool
  | .ref b => decide (b = a)
  | _ => false
def isC : Value → Bool
  | .type n => decide (n = "code")
  | _ => false
theorem isS_ok {v : Value} (h : isS v = true) : ∃ x t, v = .str x t := by
  cases v <;> first | exact ⟨_, _, rfl⟩ | cases h
theorem isI_ok {v : Value} (h : isI v = true) : ∃ x t, v = .int x t := by
  cases v <;> first | exact ⟨_, _, rfl⟩ | cases h
theorem isB_ok {v : Value} (h : isB v = true) : ∃ x, v = .bool x := by
  cases v <;> first | exact ⟨_, rfl⟩ | cases h
theorem isR_ok {a : Addr} {v : Value} (h : isR a v = true) : v = .ref a := by
  cases v <;> first | (have e := of_decide_eq_true h; rw [e]) | cases h
theorem isC_ok {v : Value} (h : isC v = true) : v = .type "code" := by
  cases v <;> first | (have e := of_decide_eq_true h; rw [e]) | cases h
/-- the code object of the def x, and its table -/
def codeA (K : PySem.W.Frag) (x : Str) : Addr := match K.lookup (He.ga K x) with
  | some o => match o.data with
    | .func fd => match fd.code with
      | .ref c => c
      | _ => 0
    | _ => 0
  | none => 0
def tabA (K : PySem.W.Frag) (x : Str) : Addr := match K.lookup (codeA K x) with
  | some o => match o.data with
    | .fields vs => match vs.getD 11 .none with
      | .ref P => P
      | _ => 0
    | _ => 0
  | none => 0
def codeB (K : PySem.W.Frag) (x : Str) : Bool := (match K.lookup (He.ga K x) with
  | some o => match o.data with
    | .func fd => isR (codeA K x) fd.code
    | _ => false
  | none => false) && ((match K.lookup (codeA K x) with
  | some o => isC o.cls && (match o.data with
    | .fields vs => (match vs[11]? with
      | some v => isR (tabA K x) v
      | none => false) && isR (tabA K x) (vs.getD 11 .none) && isS (vs.getD 18 .none) && isI (vs.getD 7 .none) && isB (vs.getD 9 .none) && isI (vs.getD 10 .none)
    | _ => false)
  | none => false) && decide (codeA K x ≠ tabA K x))
def emptyB (g : Addr → Option Obj) (P : Addr) : Bool := match g P with
  | some ⟨.none, none, .fields qs, sl⟩ => qs.isEmpty && sl.isEmpty
  | _ => false
theorem emptyB_ok {g : Addr → Option Obj} {P : Addr} (h : emptyB g P = true) : g P = some { cls := .none, data := .fields #[] } := by
  unfold emptyB at h
  split at h
  · rename_i qs sl e
    obtain ⟨h1, h2⟩ := Bool.and_eq_true_iff.mp h
    rw [e, Array.isEmpty_iff.mp h1, Array.isEmpty_iff.mp h2]
  · cases h
/-- what is known of the def x's code -/
structure CodeF (K : PySem.W.Frag) (x : Str) : Prop where
  fn : ∃ o fd, K.lookup (He.ga K x) = some o ∧ o.data = .func fd ∧ fd.code = .ref (codeA K x)
  hd : ∀ h : Heap, K.In h → PySem.W.CodeHd h (codeA K x) (tabA K x)
theorem codeB_ok {K : PySem.W.Frag} {x : Str} (h : codeB K x = true) : CodeF K x := by
  unfold codeB at h
  obtain ⟨h1, h⟩ := Bool.and_eq_true_iff.mp h
  obtain ⟨h2, h3⟩ := Bool.and_eq_true_iff.mp h
  refine ⟨?_, fun hp KI => ?_⟩
  · split at h1
    · rename_i o e
      split at h1
      · rename_i fd e2
        exact ⟨o, fd, e, e2, isR_ok h1⟩
      · cases h1
    · cases h1
  · split at h2
    · rename_i o e
      obtain ⟨c1, h2⟩ := Bool.and_eq_true_iff.mp h2
      split at h2
      · rename_i vs e2
        obtain ⟨h2, c7⟩ := Bool.and_eq_true_iff.mp h2
        obtain ⟨h2, c6⟩ := Bool.and_eq_true_iff.mp h2
        obtain ⟨h2, c5⟩ := Bool.and_eq_true_iff.mp h2
        obtain ⟨h2, c4⟩ := Bool.and_eq_true_iff.mp h2
        obtain ⟨h2, c3⟩ := Bool.and_eq_true_iff.mp h2
        obtain ⟨file, tf, e18⟩ := isS_ok c4
        obtain ⟨fl, tg, e7⟩ := isI_ok c5
        obtain ⟨inF, e9⟩ := isB_ok c6
        obtain ⟨tx, tt, e10⟩ := isI_ok c7
        refine ⟨o, vs, file, tf, fl, tg, inF, tx, tt, KI _ _ e, isC_ok c1, e2, ?_, isR_ok c3, e18, e7, e9, e10, of_decide_eq_true h3⟩
        split at h2
        · rename_i v ev
          rw [ev, isR_ok h2]
        · cases h2
      · cases h2
    · cases h2
/-- the module of the builtins -/
def isM : Value → Bool
  | .type n => decide (n = "module")
  | _ => false
theorem isM_ok {v : Value} (h : isM v = true) : v = .type "module" := by
  cases v <;> first | (have e := of_decide_eq_true h; rw [e]) | cases h
def bmB (K : PySem.W.Frag) : Bool := decide (He.ga K "__builtins__" ≠ builtinsNs) && (match K.lookup (He.ga K "__builtins__") with
  | some o => isM o.cls && (decide (o.dict = some builtinsNs) && (match o.data with
    | .plain => true
    | _ => false))
  | none => false)
structure SaysT (xf : List XF) (fa : List He.Fa) (fn : List He.DefD) (gn : List Str) (K : PySem.W.Frag) (h : Heap) : Prop where
  y : SaysY xf fa fn K
  cl : ∀ a o, K.lookup a = some o → o.cls ≠ .none
  bm : bmB K = true
  cd : ∀ x ∈ gn, codeB K x = true
  em : ∀ x ∈ gn, h.get? (tabA K x) = some { cls := .none, data := .fields #[] }
abbrev AlT : Type := (Bool × Bool) × AlY
def frT (g : Addr → Option Obj) (n : Nat) : PySem.W.Frag := frZ g (sysModules :: He.asD g n)
def obsT (n : Nat) (xf : List XF) (fa : List He.Fa) (fn : List He.DefD) (gn : List Str) (g : Addr → Option Obj) : AlT :=
  ((bmB (frT g n), gn.all fun x => codeB (frT g n) x && emptyB g (tabA (frT g n) x)), smB (frT g n), xf.all fun f => f.ok (frT g n), He.obsD fa fn (frT g n))
def hookT (n : Nat) (xf : List XF) (fa : List He.Fa) (fn : List He.DefD) (gn : List Str) : PySem.W.Hook where
  α := AlT
  obs := fun s => obsT n xf fa fn gn s.heap.get?
  val := fun _ => ((true, true), true, true, He.valD fn)
  says := fun _ h => ∃ K : PySem.W.Frag, K.In h ∧ SaysT xf fa fn gn K h
  of := fun _ s e => by
    have e1 : (gn.all fun x => codeB (frT s.heap.get? n) x && emptyB s.heap.get? (tabA (frT s.heap.get? n) x)) = true := congrArg (fun z : AlT => z.1.2) e
    have e1 := List.all_eq_true.mp e1
    exact ⟨frT s.heap.get? n, fun a o h => (frZ_at h).1, ⟨congrArg (fun z : AlT => z.2.1) e, congrArg (fun z : AlT => z.2.2.1) e, congrArg (fun z : AlT => z.2.2.2) e⟩, fun a o h => (frZ_at h).2, congrArg (fun z : AlT => z.1.1) e,
      fun x hx => (Bool.and_eq_true_iff.mp (e1 x hx)).1, fun x hx => emptyB_ok (Bool.and_eq_true_iff.mp (e1 x hx)).2⟩
  keeps := fun _ _ _ ⟨K, hK, c⟩ k => ⟨K, PySem.W.Frag.In.keeps hK k, c.y, c.cl, c.bm, c.cd, fun x hx => k _ _ (c.em x hx)⟩
theorem obsT_eq {n : Nat} {xf : List XF} {fa : List He.Fa} {fn : List He.DefD} {gn : List Str} {g : Addr → Option Obj} {s : Shared} (h : ∀ a, g a = s.heap.get? a) : obsT n xf fa fn gn g = (hookT n xf fa fn gn).obs s := by
  have e : g = s.heap.get? := funext h
  rw [e] <;> rfl
def topS (i : Nat) : Stmt := PySem.Challenge.pw_toldback_k10_whole_rests_alike.main.body.getD i (.Pass ⟨0, 0, 0, 0⟩)
abbrev s_is_whole : Stmt := topS 6
abbrev N_is_whole : List Str := ["thing"]
theorem sc_is_whole : FnScope N_is_whole ["thing"] (defScope s_is_whole) := ⟨rfl, rfl, rfl, by decide +kernel, rfl, by decide +kernel, by decide +kernel⟩
abbrev s_is_whole_below : Stmt := topS 7
abbrev N_is_whole_below : List Str := ["thing", "limit"]
theorem sc_is_whole_below : FnScope N_is_whole_below ["thing", "limit"] (defScope s_is_whole_below) := ⟨rfl, rfl, rfl, by decide +kernel, rfl, by decide +kernel, by decide +kernel⟩
abbrev s_common_divisor : Stmt := topS 8
abbrev N_common_divisor : List Str := ["one", "other"]
theorem sc_common_divisor : FnScope N_common_divisor ["one", "other"] (defScope s_common_divisor) := ⟨rfl, rfl, rfl, by decide +kernel, rfl, by decide +kernel, by decide +kernel⟩
abbrev s_short_row : Stmt := topS 9
abbrev N_short_row : List Str := ["modulus", "number", "most", "above", "left", "factor_above", "factor", "times"]
theorem sc_short_row : FnScope N_short_row ["modulus", "number", "most"] (defScope s_short_row) := ⟨rfl, rfl, rfl, by decide +kernel, rfl, by decide +kernel, by decide +kernel⟩
abbrev s_inverse : Stmt := topS 10
abbrev N_inverse : List Str := ["number", "prime"]
theorem sc_inverse : FnScope N_inverse ["number", "prime"] (defScope s_inverse) := ⟨rfl, rfl, rfl, by decide +kernel, rfl, by decide +kernel, by decide +kernel⟩
abbrev s_is_pair : Stmt := topS 14
abbrev N_is_pair : List Str := ["thing"]
theorem sc_is_pair : FnScope N_is_pair ["thing"] (defScope s_is_pair) := ⟨rfl, rfl, rfl, by decide +kernel, rfl, by decide +kernel, by decide +kernel⟩
abbrev s_is_fraction : Stmt := topS 15
abbrev N_is_fraction : List Str := ["thing", "top", "bottom"]
theorem sc_is_fraction : FnScope N_is_fraction ["thing"] (defScope s_is_fraction) := ⟨rfl, rfl, rfl, by decide +kernel, rfl, by decide +kernel, by decide +kernel⟩
abbrev s_is_prime : Stmt := topS 16
abbrev N_is_prime : List Str := ["thing", "divisor"]
theorem sc_is_prime : FnScope N_is_prime ["thing"] (defScope s_is_prime) := ⟨rfl, rfl, rfl, by decide +kernel, rfl, by decide +kernel, by decide +kernel⟩
abbrev s_need_fraction : Stmt := topS 17
abbrev N_need_fraction : List Str := ["thing"]
theorem sc_need_fraction : FnScope N_need_fraction ["thing"] (defScope s_need_fraction) := ⟨rfl, rfl, rfl, by decide +kernel, rfl, by decide +kernel, by decide +kernel⟩
abbrev s_need_prime : Stmt := topS 18
abbrev N_need_prime : List Str := ["thing"]
theorem sc_need_prime : FnScope N_need_prime ["thing"] (defScope s_need_prime) := ⟨rfl, rfl, rfl, by decide +kernel, rfl, by decide +kernel, by decide +kernel⟩
abbrev s_rest_by : Stmt := topS 19
abbrev N_rest_by : List Str := ["f", "p", "top", "bottom"]
theorem sc_rest_by : FnScope N_rest_by ["f", "p"] (defScope s_rest_by) := ⟨rfl, rfl, rfl, by decide +kernel, rfl, by decide +kernel, by decide +kernel⟩
abbrev s_rest_of : Stmt := topS 20
abbrev N_rest_of : List Str := ["f", "p"]
theorem sc_rest_of : FnScope N_rest_of ["f", "p"] (defScope s_rest_of) := ⟨rfl, rfl, rfl, by decide +kernel, rfl, by decide +kernel, by decide +kernel⟩
abbrev s_rests_of : Stmt := topS 21
abbrev N_rests_of : List Str := ["f", "primes", "p"]
theorem sc_rests_of : FnScope N_rests_of ["f", "primes"] (defScope s_rests_of) := ⟨rfl, rfl, rfl, by decide +kernel, rfl, by decide +kernel, by decide +kernel⟩
abbrev s_is_rest : Stmt := topS 22
abbrev N_is_rest : List Str := ["thing", "p"]
theorem sc_is_rest : FnScope N_is_rest ["thing", "p"] (defScope s_is_rest) := ⟨rfl, rfl, rfl, by decide +kernel, rfl, by decide +kernel, by decide +kernel⟩
abbrev s_is_reading : Stmt := topS 23
abbrev N_is_reading : List Str := ["thing"]
theorem sc_is_reading : FnScope N_is_reading ["thing"] (defScope s_is_reading) := ⟨rfl, rfl, rfl, by decide +kernel, rfl, by decide +kernel, by decide +kernel⟩
abbrev s_is_readings : Stmt := topS 24
abbrev N_is_readings : List Str := ["thing", "reading"]
theorem sc_is_readings : FnScope N_is_readings ["thing"] (defScope s_is_readings) := ⟨rfl, rfl, rfl, by decide +kernel, rfl, by decide +kernel, by decide +kernel⟩
abbrev s_need_readings : Stmt := topS 25
abbrev N_need_readings : List Str := ["thing"]
theorem sc_need_readings : FnScope N_need_readings ["thing"] (defScope s_need_readings) := ⟨rfl, rfl, rfl, by decide +kernel, rfl, by decide +kernel, by decide +kernel⟩
abbrev s_keeps : Stmt := topS 26
abbrev N_keeps : List Str := ["f", "reading", "top", "bottom", "p", "rest"]
theorem sc_keeps : FnScope N_keeps ["f", "reading"] (defScope s_keeps) := ⟨rfl, rfl, rfl, by decide +kernel, rfl, by decide +kernel, by decide +kernel⟩
abbrev s_not_kept : Stmt := topS 27
abbrev N_not_kept : List Str := ["f", "readings", "place", "reading"]
theorem sc_not_kept : FnScope N_not_kept ["f", "readings"] (defScope s_not_kept) := ⟨rfl, rfl, rfl, by decide +kernel, rfl, by decide +kernel, by decide +kernel⟩
abbrev s__law_pool : Stmt := topS 29
abbrev N__law_pool : List Str := ["script", "k", "cell"]
theorem sc__law_pool : FnScope N__law_pool ["script", "k"] (defScope s__law_pool) := ⟨rfl, rfl, rfl, by decide +kernel, rfl, by decide +kernel, by decide +kernel⟩
abbrev s__law_take : Stmt := topS 30
abbrev N__law_take : List Str := ["pool", "many", "found", "step", "mark"]
theorem sc__law_take : FnScope N__law_take ["pool", "many"] (defScope s__law_take) := ⟨rfl, rfl, rfl, by decide +kernel, rfl, by decide +kernel, by decide +kernel⟩
abbrev s__law_far : Stmt := topS 31
abbrev N__law_far : List Str := ["pool", "turns", "found", "turn"]
theorem sc__law_far : FnScope N__law_far ["pool", "turns"] (defScope s__law_far) := ⟨rfl, rfl, rfl, by decide +kernel, rfl, by decide +kernel, by decide +kernel⟩
abbrev s__law_all_primes : Stmt := topS 32
abbrev N__law_all_primes : List Str := ["p", "d"]
theorem sc__law_all_primes : FnScope N__law_all_primes [] (defScope s__law_all_primes) := ⟨rfl, rfl, rfl, by decide +kernel, rfl, by decide +kernel, by decide +kernel⟩
abbrev s__law_prime : Stmt := topS 33
abbrev N__law_prime : List Str := ["pool", "primes", "way"]
theorem sc__law_prime : FnScope N__law_prime ["pool", "primes"] (defScope s__law_prime) := ⟨rfl, rfl, rfl, by decide +kernel, rfl, by decide +kernel, by decide +kernel⟩
abbrev s__law_shared : Stmt := topS 34
abbrev N__law_shared : List Str := ["one", "other"]
theorem sc__law_shared : FnScope N__law_shared ["one", "other"] (defScope s__law_shared) := ⟨rfl, rfl, rfl, by decide +kernel, rfl, by decide +kernel, by decide +kernel⟩
abbrev s__law_low : Stmt := topS 35
abbrev N__law_low : List Str := ["top", "bottom", "part"]
theorem sc__law_low : FnScope N__law_low ["top", "bottom"] (defScope s__law_low) := ⟨rfl, rfl, rfl, by decide +kernel, rfl, by decide +kernel, by decide +kernel⟩
abbrev s__law_fraction : Stmt := topS 36
abbrev N__law_fraction : List Str := ["pool", "primes", "top", "bottom", "way"]
theorem sc__law_fraction : FnScope N__law_fraction ["pool", "primes"] (defScope s__law_fraction) := ⟨rfl, rfl, rfl, by decide +kernel, rfl, by decide +kernel, by decide +kernel⟩
abbrev s__law_near : Stmt := topS 37
abbrev N__law_near : List Str := ["pool", "f", "p", "by"]
theorem sc__law_near : FnScope N__law_near ["pool", "f", "p"] (defScope s__law_near) := ⟨rfl, rfl, rfl, by decide +kernel, rfl, by decide +kernel, by decide +kernel⟩
abbrev s__law_two_right : Stmt := topS 38
abbrev N__law_two_right : List Str := ["f", "g", "some", "cross", "ones", "others", "p", "one", "other", "row", "readings", "k"]
theorem sc__law_two_right : FnScope N__law_two_right ["f", "g", "some"] (defScope s__law_two_right) := ⟨rfl, rfl, rfl, by decide +kernel, rfl, by decide +kernel, by decide +kernel⟩
abbrev s__law_other_ways : Stmt := topS 39
abbrev N__law_other_ways : List Str := ["pool", "f", "p", "rest", "more", "turned", "wider", "about"]
theorem sc__law_other_ways : FnScope N__law_other_ways ["pool", "f", "p"] (defScope s__law_other_ways) := ⟨rfl, rfl, rfl, by decide +kernel, rfl, by decide +kernel, by decide +kernel⟩
abbrev s_law : Stmt := topS 40
abbrev N_law : List Str := ["script", "primes", "k", "pool", "f", "p", "g", "cross", "some", "q", "turn", "at"]
theorem sc_law : FnScope N_law ["script"] (defScope s_law) := ⟨rfl, rfl, rfl, by decide +kernel, rfl, by decide +kernel, by decide +kernel⟩
section
set_option maxHeartbeats 0
def dd_is_whole : He.DefD := ⟨("is_whole", none), "is_whole", "is_whole", defArgs s_is_whole, defBody s_is_whole, defScope s_is_whole, [], []⟩
def dd_is_whole_below : He.DefD := ⟨("is_whole_below", none), "is_whole_below", "is_whole_below", defArgs s_is_whole_below, defBody s_is_whole_below, defScope s_is_whole_below, [], []⟩
def dd_common_divisor : He.DefD := ⟨("common_divisor", none), "common_divisor", "common_divisor", defArgs s_common_divisor, defBody s_common_divisor, defScope s_common_divisor, [], []⟩
def dd_short_row : He.DefD := ⟨("short_row", none), "short_row", "short_row", defArgs s_short_row, defBody s_short_row, defScope s_short_row, [], []⟩
def dd_inverse : He.DefD := ⟨("inverse", none), "inverse", "inverse", defArgs s_inverse, defBody s_inverse, defScope s_inverse, [], []⟩
def dd_is_pair : He.DefD := ⟨("is_pair", none), "is_pair", "is_pair", defArgs s_is_pair, defBody s_is_pair, defScope s_is_pair, [], []⟩
def dd_is_fraction : He.DefD := ⟨("is_fraction", none), "is_fraction", "is_fraction", defArgs s_is_fraction, defBody s_is_fraction, defScope s_is_fraction, [], []⟩
def dd_is_prime : He.DefD := ⟨("is_prime", none), "is_prime", "is_prime", defArgs s_is_prime, defBody s_is_prime, defScope s_is_prime, [], []⟩
def dd_need_fraction : He.DefD := ⟨("need_fraction", none), "need_fraction", "need_fraction", defArgs s_need_fraction, defBody s_need_fraction, defScope s_need_fraction, [], []⟩
def dd_need_prime : He.DefD := ⟨("need_prime", none), "need_prime", "need_prime", defArgs s_need_prime, defBody s_need_prime, defScope s_need_prime, [], []⟩
def dd_rest_by : He.DefD := ⟨("rest_by", none), "rest_by", "rest_by", defArgs s_rest_by, defBody s_rest_by, defScope s_rest_by, [], []⟩
def dd_rest_of : He.DefD := ⟨("rest_of", none), "rest_of", "rest_of", defArgs s_rest_of, defBody s_rest_of, defScope s_rest_of, [], []⟩
def dd_rests_of : He.DefD := ⟨("rests_of", none), "rests_of", "rests_of", defArgs s_rests_of, defBody s_rests_of, defScope s_rests_of, [], []⟩
def dd_is_rest : He.DefD := ⟨("is_rest", none), "is_rest", "is_rest", defArgs s_is_rest, defBody s_is_rest, defScope s_is_rest, [], []⟩
def dd_is_reading : He.DefD := ⟨("is_reading", none), "is_reading", "is_reading", defArgs s_is_reading, defBody s_is_reading, defScope s_is_reading, [], []⟩
def dd_is_readings : He.DefD := ⟨("is_readings", none), "is_readings", "is_readings", defArgs s_is_readings, defBody s_is_readings, defScope s_is_readings, [], []⟩
def dd_need_readings : He.DefD := ⟨("need_readings", none), "need_readings", "need_readings", defArgs s_need_readings, defBody s_need_readings, defScope s_need_readings, [], []⟩
def dd_keeps : He.DefD := ⟨("keeps", none), "keeps", "keeps", defArgs s_keeps, defBody s_keeps, defScope s_keeps, [], []⟩
def dd_not_kept : He.DefD := ⟨("not_kept", none), "not_kept", "not_kept", defArgs s_not_kept, defBody s_not_kept, defScope s_not_kept, [], []⟩
def dd__law_pool : He.DefD := ⟨("_law_pool", none), "_law_pool", "_law_pool", defArgs s__law_pool, defBody s__law_pool, defScope s__law_pool, [], []⟩
def dd__law_take : He.DefD := ⟨("_law_take", none), "_law_take", "_law_take", defArgs s__law_take, defBody s__law_take, defScope s__law_take, [], []⟩
def dd__law_far : He.DefD := ⟨("_law_far", none), "_law_far", "_law_far", defArgs s__law_far, defBody s__law_far, defScope s__law_far, [], []⟩
def dd__law_all_primes : He.DefD := ⟨("_law_all_primes", none), "_law_all_primes", "_law_all_primes", defArgs s__law_all_primes, defBody s__law_all_primes, defScope s__law_all_primes, [], []⟩
def dd__law_prime : He.DefD := ⟨("_law_prime", none), "_law_prime", "_law_prime", defArgs s__law_prime, defBody s__law_prime, defScope s__law_prime, [], []⟩
def dd__law_shared : He.DefD := ⟨("_law_shared", none), "_law_shared", "_law_shared", defArgs s__law_shared, defBody s__law_shared, defScope s__law_shared, [], []⟩
def dd__law_low : He.DefD := ⟨("_law_low", none), "_law_low", "_law_low", defArgs s__law_low, defBody s__law_low, defScope s__law_low, [], []⟩
def dd__law_fraction : He.DefD := ⟨("_law_fraction", none), "_law_fraction", "_law_fraction", defArgs s__law_fraction, defBody s__law_fraction, defScope s__law_fraction, [], []⟩
def dd__law_near : He.DefD := ⟨("_law_near", none), "_law_near", "_law_near", defArgs s__law_near, defBody s__law_near, defScope s__law_near, [], []⟩
def dd__law_two_right : He.DefD := ⟨("_law_two_right", none), "_law_two_right", "_law_two_right", defArgs s__law_two_right, defBody s__law_two_right, defScope s__law_two_right, [], []⟩
def dd__law_other_ways : He.DefD := ⟨("_law_other_ways", none), "_law_other_ways", "_law_other_ways", defArgs s__law_other_ways, defBody s__law_other_ways, defScope s__law_other_ways, [], []⟩
def dd_law : He.DefD := ⟨("law", none), "law", "law", defArgs s_law, defBody s_law, defScope s_law, [], []⟩
def fnL : List He.DefD := [dd_is_whole, dd_is_whole_below, dd_common_divisor, dd_short_row, dd_inverse, dd_is_pair, dd_is_fraction, dd_is_prime, dd_need_fraction, dd_need_prime, dd_rest_by, dd_rest_of, dd_rests_of, dd_is_rest, dd_is_reading, dd_is_readings, dd_need_readings, dd_keeps, dd_not_kept, dd__law_pool, dd__law_take, dd__law_far, dd__law_all_primes, dd__law_prime, dd__law_shared, dd__law_low, dd__law_fraction, dd__law_near, dd__law_two_right, dd__law_other_ways, dd_law]
def faL : List He.Fa := [.glo "is_whole", .glo "is_whole_below", .glo "common_divisor", .glo "short_row", .glo "inverse", .glo "is_pair", .glo "is_fraction", .glo "is_prime", .glo "need_fraction", .glo "need_prime", .glo "rest_by", .glo "rest_of", .glo "rests_of", .glo "is_rest", .glo "is_reading", .glo "is_readings", .glo "need_readings", .glo "keeps", .glo "not_kept", .glo "_law_pool", .glo "_law_take", .glo "_law_far", .glo "_law_all_primes", .glo "_law_prime", .glo "_law_shared", .glo "_law_low", .glo "_law_fraction", .glo "_law_near", .glo "_law_two_right", .glo "_law_other_ways", .glo "law", .free "isinstance", .free "bool", .free "int", .free "len", .free "tuple", .free "list", .free "all", .free "enumerate", .free "range", .free "abs", .free "zip", .free "max", .free "min", .int "PRIME_LIMIT" 1000, .int "MOST_READINGS" 10, .glo "BackError", .exc "BackError", .glo "NoFraction", .exc "NoFraction", .glo "NoPrime", .exc "NoPrime", .glo "NoReadings", .exc "NoReadings", .glo "__builtins__"]
abbrev RR : PySem.W.OpenRow := PySem.W.OpenLaw.row PySem.Challenge.rw_toldback_k10_whole_rests_alike
def looseL : List PySem.Str := (["is_whole", "is_whole_below", "common_divisor", "short_row", "inverse", "is_pair", "is_fraction", "is_prime", "need_fraction", "need_prime", "rest_by", "rest_of", "rests_of", "is_rest", "is_reading", "is_readings", "need_readings", "keeps", "not_kept", "_law_pool"] : List PySem.Str) ++ (["_law_take", "_law_far", "_law_all_primes", "_law_prime", "_law_shared", "_law_low", "_law_fraction", "_law_near", "_law_two_right", "_law_other_ways", "PRIME_LIMIT", "MOST_READINGS", "BackError", "NoFraction", "NoPrime", "NoReadings"] : List PySem.Str)
def xfL : List XF := []
def gnL : List Str := ["is_readings"]
abbrev hk : PySem.W.Hook := hookT 4 xfL faL fnL gnL
def ob (s : PySem.W.SharedT) : AlT := obsT 4 xfL faL fnL gnL (HandSHeadRun.getT s)
theorem ob_eq (s : PySem.W.SharedT) : ob s = hk.obs s.abs := obsT_eq (HandSHeadRun.getT_eq s)
theorem opt3 {α β γ δ : Type} {f : α → β} {g : α → γ} {h : α → δ} {a : β} {b : γ} {c : δ} : ∀ {x : Option α}, x.map f = some a → x.map g = some b → x.map h = some c → x.map (fun s => (f s, g s, h s)) = some (a, b, c)
  | none, e, _, _ => nomatch e
  | some s, e1, e2, e3 => by
    have e1 : f s = a := Option.some.inj e1
    have e2 : g s = b := Option.some.inj e2
    have e3 : h s = c := Option.some.inj e3
    show some (f s, g s, h s) = _
    rw [e1, e2, e3]
open PySem PySem.W PySem.Calls PyProof.Rows in
theorem run_a (w : World) (os : OsState) : (HandSHeadRun.endF (HandSHeadRun.stepQ (HandSHeadRun.denQ HandSHeadRun.tabQ) RR.prog w) 12000 RR.prog w os).map (fun s => HandSHeadRun.looksF RR.prog (boot_heap w.params) s.abs) = some (true) := by
  kernel_rfl
open PySem PySem.W PySem.Calls PyProof.Rows in
theorem run_b (w : World) (os : OsState) : (HandSHeadRun.endF (HandSHeadRun.stepQ (HandSHeadRun.denQ HandSHeadRun.tabQ) RR.prog w) 12000 RR.prog w os).map (fun s => HandSHeadRun.seenQ (PySem.W.view RR.prog [40]) looseL (importedModules RR.prog.main.body) (fun s => xlAt (PySem.W.view RR.prog [40]) [] s && recOk RR.toRowW.records s) s.abs) = some (openGood (PySem.W.view RR.prog [40]) looseL) := by
  kernel_rfl
open PySem PySem.W PySem.Calls PyProof.Rows in
theorem run_c (w : World) (os : OsState) : (HandSHeadRun.endF (HandSHeadRun.stepQ (HandSHeadRun.denQ HandSHeadRun.tabQ) RR.prog w) 12000 RR.prog w os).map (fun s => ob s) = some (hk.val w) := by
  kernel_rfl
theorem run (w : World) : HandSHeadRun.RunEq RR (PySem.W.view RR.prog [40]) hk ob 12000 looseL w := fun os => opt3 (run_a w os) (run_b w os) (run_c w os)
end
/-! ### heaps but for one list -/
theorem same_new {H : Hp} {p : Addr} {o : HO} (h : H p = none) : Ex H (upd H p o) := Ex.new h
/-- everything but what stands at B is as it was -/
def ExB (B : Addr) (H H' : Hp) : Prop := ∀ a o, a ≠ B → H a = some o → H' a = some o
theorem ExB.refl (B : Addr) (H : Hp) : ExB B H H := fun _ _ _ h => h
theorem ExB.trans {B : Addr} {H H1 H2 : Hp} (a : ExB B H H1) (b : ExB B H1 H2) : ExB B H H2 := fun x o n h => b x o n (a x o n h)
theorem ExB.of {B : Addr} {H H' : Hp} (e : Ex H H') : ExB B H H' := fun a o _ h => e a o h
theorem ExB.upd {B : Addr} {H : Hp} {o : HO} : ExB B H (upd H B o) := fun a u n h => by
  rw [upd_ne n]
  exact h
/-! ### data, as it stands in a heap -/
def oD : Option Int → PyData
  | none => .none
  | some r => .int r
def oV : Option Int → V
  | none => .non
  | some r => .int r
mutual
inductive Dt (H : Hp) : V → PyData → Prop
  | non : Dt H .non .none
  | bl (b : Bool) : Dt H (.bl b) (.bool b)
  | int (i : Int) : Dt H (.int i) (.int i)
  | str (x : Str) : Dt H (.str x) (.str x)
  | lst {a : Addr} {xs : List V} {ds : List PyData} : H a = some (.lst xs) → DtAll H xs ds → Dt H (.ref a) (.list ds)
  | tup {a : Addr} {xs : List V} {ds : List PyData} : H a = some (.tup xs) → DtAll H xs ds → Dt H (.ref a) (.tuple ds)
  | dic {a : Addr} {ns : List (Int × Option Int)} : H a = some (.dK (ns.map fun p => ((Sum.inl p.1 : Key), oV p.2))) → Dt H (.ref a) (.dict (ns.map fun p => (PyData.int p.1, oD p.2)))
inductive DtAll (H : Hp) : List V → List PyData → Prop
  | nil : DtAll H [] []
  | cons {v : V} {vs : List V} {d : PyData} {ds : List PyData} : Dt H v d → DtAll H vs ds → DtAll H (v :: vs) (d :: ds)
end
mutual
theorem Dt.mono {H H' : Hp} (e : Ex H H') : ∀ (d : PyData) (v : V), Dt H v d → Dt H' v d
  | .none, _, h => by cases h; exact .non
  | .bool b, _, h => by cases h; exact .bl b
  | .int i, _, h => by cases h; exact .int i
  | .str x, _, h => by cases h; exact .str x
  | .list ds, _, h => by
    cases h with
    | lst hs ha => exact .lst (e _ _ hs) (DtAll.mono e ds _ ha)
  | .tuple ds, _, h => by
    cases h with
    | tup hs ha => exact .tup (e _ _ hs) (DtAll.mono e ds _ ha)
  | .dict _, _, h => by
    cases h with
    | dic hs => exact .dic (e _ _ hs)
theorem DtAll.mono {H H' : Hp} (e : Ex H H') : ∀ (ds : List PyData) (vs : List V), DtAll H vs ds → DtAll H' vs ds
  | [], _, h => by cases h; exact .nil
  | d :: ds, _, h => by
    cases h with
    | cons h1 h2 => exact .cons (Dt.mono e d _ h1) (DtAll.mono e ds _ h2)
end
theorem Dt.up {H H' : Hp} {v : V} {d : PyData} (h : Dt H v d) (e : Ex H H') : Dt H' v d := Dt.mono e d v h
theorem DtAll.up {H H' : Hp} {v : List V} {d : List PyData} (h : DtAll H v d) (e : Ex H H') : DtAll H' v d := DtAll.mono e d v h
/-! data without lists in it: what is done to a list does not touch it -/
mutual
def noL : PyData → Bool
  | .list _ => false
  | .tuple ds => noLs ds
  | _ => true
def noLs : List PyData → Bool
  | [] => true
  | d :: ds => noL d && noLs ds
end
def IsL (H : Hp) (B : Addr) : Prop := ∃ xs, H B = some (.lst xs)
mutual
theorem Dt.monoB {B : Addr} {H H' : Hp} (hB : IsL H B) (e : ExB B H H') : ∀ (d : PyData) (v : V), noL d = true → Dt H v d → Dt H' v d
  | .none, _, _, h => by cases h; exact .non
  | .bool b, _, _, h => by cases h; exact .bl b
  | .int i, _, _, h => by cases h; exact .int i
  | .str x, _, _, h => by cases h; exact .str x
  | .list ds, _, n, h => nomatch n
  | .tuple ds, _, n, h => by
    cases h with
    | @tup a _ _ hs ha =>
      refine .tup (e a _ (fun z => ?_) hs) (DtAll.monoB hB e ds _ n ha)
      obtain ⟨xs, hx⟩ := hB
      rw [z, hx] at hs
      cases hs
  | .dict _, _, _, h => by
    cases h with
    | @dic a _ hs =>
      refine .dic (e a _ (fun z => ?_) hs)
      obtain ⟨xs, hx⟩ := hB
      rw [z, hx] at hs
      cases hs
theorem DtAll.monoB {B : Addr} {H H' : Hp} (hB : IsL H B) (e : ExB B H H') : ∀ (ds : List PyData) (vs : List V), noLs ds = true → DtAll H vs ds → DtAll H' vs ds
  | [], _, _, h => by cases h; exact .nil
  | d :: ds, _, n, h => by
    obtain ⟨n1, n2⟩ := Bool.and_eq_true_iff.mp (show (noL d && noLs ds) = true from n)
    cases h with
    | cons h1 h2 => exact .cons (Dt.monoB hB e d _ n1 h1) (DtAll.monoB hB e ds _ n2 h2)
end
theorem noLs_of {ds : List PyData} (h : ∀ d ∈ ds, noL d = true) : noLs ds = true := by
  induction ds with
  | nil => rfl
  | cons d ds ih =>
    show (noL d && noLs ds) = true
    rw [h d (List.mem_cons_self), ih fun x hx => h x (List.mem_cons_of_mem _ hx)]
    rfl
theorem noLs_mem {ds : List PyData} (h : noLs ds = true) : ∀ d ∈ ds, noL d = true := by
  induction ds with
  | nil => intro d hd; cases hd
  | cons x ds ih =>
    obtain ⟨n1, n2⟩ := Bool.and_eq_true_iff.mp (show (noL x && noLs ds) = true from h)
    intro d hd
    rcases List.mem_cons.mp hd with e | e
    · rw [e]; exact n1
    · exact ih n2 d e
/-! lists of data -/
theorem DtAll.len {H : Hp} : ∀ {vs : List V} {ds : List PyData}, DtAll H vs ds → vs.length = ds.length
  | _, _, .nil => rfl
  | _, _, .cons _ h => by rw [List.length_cons, List.length_cons, h.len]
theorem DtAll.app {H : Hp} : ∀ {vs us : List V} {ds es : List PyData}, DtAll H vs ds → DtAll H us es → DtAll H (vs ++ us) (ds ++ es)
  | _, _, _, _, .nil, h => h
  | _, _, _, _, .cons a b, h => .cons a (b.app h)
theorem DtAll.get {H : Hp} : ∀ {vs : List V} {ds : List PyData} (i : Nat) {v : V}, DtAll H vs ds → vs[i]? = some v → ∃ d, ds[i]? = some d ∧ Dt H v d
  | _, _, _, _, .nil, e => by simp at e
  | _, _, 0, _, .cons a _, e => by
    have e := Option.some.inj e
    subst e
    exact ⟨_, rfl, a⟩
  | _, _, i + 1, _, .cons _ b, e => b.get i e
theorem DtAll.getD {H : Hp} : ∀ {vs : List V} {ds : List PyData} (i : Nat) {d : PyData}, DtAll H vs ds → ds[i]? = some d → ∃ v, vs[i]? = some v ∧ Dt H v d
  | _, _, _, _, .nil, e => by simp at e
  | _, _, 0, _, .cons a _, e => by
    have e := Option.some.inj e
    subst e
    exact ⟨_, rfl, a⟩
  | _, _, i + 1, _, .cons _ b, e => b.getD i e
theorem DtAll.ints {H : Hp} : ∀ ns : List Int, DtAll H (ns.map V.int) (ns.map PyData.int)
  | [] => .nil
  | n :: ns => .cons (.int n) (DtAll.ints ns)
theorem DtAll.ints_eq {H : Hp} : ∀ {vs : List V} (ns : List Int), DtAll H vs (ns.map PyData.int) → vs = ns.map V.int
  | _, [], h => by cases h; rfl
  | _, n :: ns, h => by
    cases h with
    | cons a b =>
      cases a
      rw [DtAll.ints_eq ns b]
      rfl
theorem Dt.int_eq {H : Hp} {v : V} {i : Int} (h : Dt H v (.int i)) : v = .int i := by cases h; rfl
theorem Dt.bl_eq {H : Hp} {v : V} {b : Bool} (h : Dt H v (.bool b)) : v = .bl b := by cases h; rfl
theorem Dt.non_eq {H : Hp} {v : V} (h : Dt H v .none) : v = .non := by cases h; rfl
theorem Dt.tup_get {H : Hp} {v : V} {ds : List PyData} (h : Dt H v (.tuple ds)) : ∃ a xs, v = .ref a ∧ H a = some (.tup xs) ∧ DtAll H xs ds := by
  cases h with
  | tup a b => exact ⟨_, _, rfl, a, b⟩
theorem Dt.lst_get {H : Hp} {v : V} {ds : List PyData} (h : Dt H v (.list ds)) : ∃ a xs, v = .ref a ∧ H a = some (.lst xs) ∧ DtAll H xs ds := by
  cases h with
  | lst a b => exact ⟨_, _, rfl, a, b⟩
/-! into the layer's own word -/
mutual
theorem Dt.dp {K : PySem.W.Frag} {H : Hp} : ∀ (d : PyData) (v : V), d.canLay0 = true → Dt H v d → Dp K H v d
  | .none, _, _, h => by cases h; exact .non
  | .bool b, _, _, h => by cases h; exact .bl b
  | .int i, _, _, h => by cases h; exact .int i
  | .str x, _, _, h => by cases h; exact .str x
  | .list ds, _, n, h => by
    have n : PyData.canLayAll0 ds = true := by simpa [PyData.canLay0] using n
    cases h with
    | lst hs ha => exact .lst (.inl (.inl hs)) (DtAll.dp ds _ n ha)
  | .tuple ds, _, n, h => by
    have n : PyData.canLayAll0 ds = true := by simpa [PyData.canLay0] using n
    cases h with
    | tup hs ha => exact .tup (.inl (.inl hs)) (DtAll.dp ds _ n ha)
  | .dict _, _, n, _ => by simp [PyData.canLay0] at n
theorem DtAll.dp {K : PySem.W.Frag} {H : Hp} : ∀ (ds : List PyData) (vs : List V), PyData.canLayAll0 ds = true → DtAll H vs ds → DpAll K H vs ds
  | [], _, _, h => by cases h; exact .nil
  | d :: ds, _, n, h => by
    have n : d.canLay0 = true ∧ PyData.canLayAll0 ds = true := by simpa [PyData.canLayAll0] using n
    cases h with
    | cons h1 h2 => exact .cons (Dt.dp d _ n.1 h1) (DtAll.dp ds _ n.2 h2)
end
/-! ### kinds -/
def tyN : PyData → String
  | .none => "NoneType"
  | .bool _ => "bool"
  | .int _ => "int"
  | .str _ => "str"
  | .list _ => "list"
  | .tuple _ => "tuple"
  | .dict _ => "dict"
theorem Dt.ty {K : PySem.W.Frag} {H : Hp} {v : V} {d : PyData} (h : Dt H v d) : TyX K H v (.type (tyN d)) := by
  cases h with
  | non => exact .base .non
  | bl b => exact .base (.bl b)
  | int i => exact .base (.int i)
  | str x => exact .base (.str x)
  | lst a b => exact .base (.lst a)
  | tup a b => exact .base (.tup a)
  | dic a => exact .base (.dK a)
def dInt : PyData → Bool
  | .int _ | .bool _ => true
  | _ => false
def dBool : PyData → Bool
  | .bool _ => true
  | _ => false
def dTup : PyData → Bool
  | .tuple _ => true
  | _ => false
def dLst : PyData → Bool
  | .list _ => true
  | _ => false
/-- a whole number -/
def dWhole : PyData → Bool
  | .int _ => true
  | _ => false
theorem kit_int (d : PyData) : kitB (tyN d) "int" = some (dInt d) := by
  cases d with
  | none => show kitB "NoneType" "int" = some false; decide +kernel
  | bool _ => show kitB "bool" "int" = some true; decide +kernel
  | int _ => show kitB "int" "int" = some true; decide +kernel
  | str _ => show kitB "str" "int" = some false; decide +kernel
  | list _ => show kitB "list" "int" = some false; decide +kernel
  | tuple _ => show kitB "tuple" "int" = some false; decide +kernel
  | dict _ => show kitB "dict" "int" = some false; decide +kernel
theorem kit_bool (d : PyData) : kitB (tyN d) "bool" = some (dBool d) := by
  cases d with
  | none => show kitB "NoneType" "bool" = some false; decide +kernel
  | bool _ => show kitB "bool" "bool" = some true; decide +kernel
  | int _ => show kitB "int" "bool" = some false; decide +kernel
  | str _ => show kitB "str" "bool" = some false; decide +kernel
  | list _ => show kitB "list" "bool" = some false; decide +kernel
  | tuple _ => show kitB "tuple" "bool" = some false; decide +kernel
  | dict _ => show kitB "dict" "bool" = some false; decide +kernel
theorem kit_tup (d : PyData) : kitB (tyN d) "tuple" = some (dTup d) := by
  cases d with
  | none => show kitB "NoneType" "tuple" = some false; decide +kernel
  | bool _ => show kitB "bool" "tuple" = some false; decide +kernel
  | int _ => show kitB "int" "tuple" = some false; decide +kernel
  | str _ => show kitB "str" "tuple" = some false; decide +kernel
  | list _ => show kitB "list" "tuple" = some false; decide +kernel
  | tuple _ => show kitB "tuple" "tuple" = some true; decide +kernel
  | dict _ => show kitB "dict" "tuple" = some false; decide +kernel
theorem kit_lst (d : PyData) : kitB (tyN d) "list" = some (dLst d) := by
  cases d with
  | none => show kitB "NoneType" "list" = some false; decide +kernel
  | bool _ => show kitB "bool" "list" = some false; decide +kernel
  | int _ => show kitB "int" "list" = some false; decide +kernel
  | str _ => show kitB "str" "list" = some false; decide +kernel
  | list _ => show kitB "list" "list" = some true; decide +kernel
  | tuple _ => show kitB "tuple" "list" = some false; decide +kernel
  | dict _ => show kitB "dict" "list" = some false; decide +kernel
theorem rIsi_of {K : PySem.W.Frag} {H : Hp} {v : V} {d : PyData} {c : String} {b : Bool} {Q : VK} (h : Dt H v d) (k : kitB (tyN d) c = some b) (q : Q (.bl b) H) : rIsi K [v, .ty c] H Q :=
  ⟨v, .ty c, _, _, b, rfl, .ty c, h.ty, kit_ty k, q⟩
/-! ### the refusals' classes -/
def ExcFacts (K : PySem.W.Frag) (C : Addr) : Prop := PySem.W.excIn K C He.veBase "ValueError.__new__" = true ∧ PySem.W.keepIn K (.ref C) = true ∧ PySem.W.subIn K (.ref C) (.type "BaseException") = some true ∧ PySem.W.typeIn K (.ref C) = some (.type "type")
theorem excFacts_of {K : PySem.W.Frag} {x : Str} (c : (He.Fa.exc x).ok K = true) : ExcFacts K (He.ga K x) := by
  obtain ⟨c1, c⟩ := He.ba c
  obtain ⟨c2, c⟩ := He.ba c
  obtain ⟨c3, c4⟩ := He.ba c
  exact ⟨c1, c2, of_decide_eq_true c3, of_decide_eq_true c4⟩
/-! ### tests -/
theorem itT {b : Bool} {A B : Prop} (hb : b = true) (h : A) : if b = true then A else B := by
  rw [if_pos hb]
  exact h
theorem itF {b : Bool} {A B : Prop} (hb : b = false) (h : B) : if b = true then A else B := by
  rw [if_neg (by rw [hb]; exact Bool.false_ne_true)]
  exact h
theorem it2 {b : Bool} {A B : Prop} (h1 : b = true → A) (h2 : b = false → B) : if b = true then A else B := by
  cases b with
  | true => exact itT rfl (h1 rfl)
  | false => exact itF rfl (h2 rfl)
theorem dI {i j : Int} : decide (V.int i = V.int j) = decide (i = j) := by
  by_cases e : i = j
  · subst e
    rw [decide_eq_true rfl, decide_eq_true rfl]
  · rw [decide_eq_false e, decide_eq_false fun z => e (V.int.inj z)]
/-! ### greatest divisors -/
theorem gcd_step (x y : Int) : Int.gcd y (x % y) = Int.gcd x y := by
  have e : x % y = x - y * (x / y) := Int.emod_def x y
  refine Nat.dvd_antisymm (Int.dvd_gcd ?_ (Int.gcd_dvd_left y (x % y))) (Int.dvd_gcd (Int.gcd_dvd_right x y) ?_)
  · have h1 : ((Int.gcd y (x % y) : Nat) : Int) ∣ y := Int.gcd_dvd_left y (x % y)
    have h2 : ((Int.gcd y (x % y) : Nat) : Int) ∣ x % y := Int.gcd_dvd_right y (x % y)
    have h3 : x = x % y + y * (x / y) := by omega
    rw [h3]
    have h4 : ((Int.gcd y (x % y) : Nat) : Int) ∣ x % y + y * (x / y) := Int.dvd_add h2 (Int.dvd_mul_of_dvd_left h1)
    rw [← h3]
    rw [← h3] at h4
    exact h4
  · rw [e]
    exact Int.dvd_sub (Int.gcd_dvd_left x y) (Int.dvd_mul_of_dvd_left (Int.gcd_dvd_right x y))
def dPair : PyData → Bool
  | .tuple ds => decide (ds.length = 2)
  | _ => false
theorem dPair_get {d : PyData} (h : dPair d = true) : ∃ a b, d = .tuple [a, b] := by
  cases d with
  | tuple ds =>
    have h : ds.length = 2 := of_decide_eq_true h
    match ds, h with
    | [a, b], _ => exact ⟨a, b, rfl⟩
  | _ => exact nomatch h
theorem dWhole_get {d : PyData} (h : dWhole d = true) : ∃ i, d = .int i := by
  cases d with
  | int i => exact ⟨i, rfl⟩
  | _ => exact nomatch h
/-- bounds (n, d), both at most m -/
def dBounds : PyData → Bool
  | .tuple [.int n, .int d] => decide (0 ≤ n) && decide (1 ≤ d)
  | _ => false
def dBoundsTo (m : Int) : PyData → Bool
  | .tuple [.int n, .int d] => decide (0 ≤ n) && decide (1 ≤ d) && decide (n ≤ m) && decide (d ≤ m)
  | _ => false
theorem dBounds_pair {d : PyData} (h : dPair d = false) : dBounds d = false := by
  match d, h with
  | .tuple [], _ => simp [dBounds]
  | .tuple [_], _ => simp [dBounds]
  | .tuple [_, _], h => exact nomatch h
  | .tuple (_ :: _ :: _ :: _), _ => simp [dBounds]
  | .none, _ => rfl
  | .bool _, _ => rfl
  | .int _, _ => rfl
  | .str _, _ => rfl
  | .list _, _ => rfl
  | .dict _, _ => rfl
theorem dBounds_get {d : PyData} (h : dBounds d = true) : ∃ n m : Int, d = .tuple [.int n, .int m] ∧ 0 ≤ n ∧ 1 ≤ m := by
  unfold dBounds at h
  split at h
  · obtain ⟨h1, h2⟩ := Bool.and_eq_true_iff.mp h
    exact ⟨_, _, rfl, of_decide_eq_true h1, of_decide_eq_true h2⟩
  · cases h
theorem dBoundsTo_no {m : Int} {d : PyData} (h : dBounds d = false) : dBoundsTo m d = false := by
  unfold dBoundsTo
  split
  · unfold dBounds at h
    simp only at h
    rw [h]
    rfl
  · rfl
/-! ### lists that grow, of data without lists -/
def AccL (H : Hp) (D : Addr) (ds : List PyData) : Prop := ∃ acc, H D = some (.lst acc) ∧ DtAll H acc ds ∧ noLs ds = true
theorem noLs_app {a b : List PyData} (h1 : noLs a = true) (h2 : noLs b = true) : noLs (a ++ b) = true := noLs_of fun d hd => by
  rcases List.mem_append.mp hd with e | e
  · exact noLs_mem h1 d e
  · exact noLs_mem h2 d e
theorem AccL.new {H : Hp} {D : Addr} : AccL (upd H D (.lst [])) D [] := ⟨[], upd_same, .nil, rfl⟩
theorem AccL.up {H H' : Hp} {D : Addr} {ds : List PyData} (h : AccL H D ds) (e : Ex H H') : AccL H' D ds := by
  obtain ⟨acc, h1, h2, h3⟩ := h
  exact ⟨acc, e _ _ h1, h2.up e, h3⟩
theorem AccL.app {H H2 : Hp} {D : Addr} {ds : List PyData} {v : V} {d : PyData} (h : AccL H D ds) (e : Ex H H2) (hv : Dt H2 v d) (nd : noL d = true) : ∃ acc, H2 D = some (.lst acc) ∧ acc.length = ds.length ∧ AccL (upd H2 D (.lst (acc ++ [v]))) D (ds ++ [d]) := by
  obtain ⟨acc, h1, h2, h3⟩ := h
  have hD := e _ _ h1
  have hL : IsL H2 D := ⟨acc, hD⟩
  refine ⟨acc, hD, h2.len, acc ++ [v], upd_same, DtAll.app ?_ (.cons ?_ .nil), noLs_app h3 ?_⟩
  · exact DtAll.monoB hL ExB.upd ds acc h3 (h2.up e)
  · exact Dt.monoB hL ExB.upd d v nd hv
  · show (noL d && true) = true
    rw [nd]
    rfl
theorem AccL.dt {H : Hp} {D : Addr} {ds : List PyData} (h : AccL H D ds) : Dt H (.ref D) (.list ds) := by
  obtain ⟨acc, h1, h2, _⟩ := h
  exact .lst h1 h2
/-! ### the draws -/
def PoolB (H : Hp) (pa : Addr) (n : Nat) : Prop := ∃ a b c : Int, H pa = some (.lst [.int a, .int b, .int c]) ∧ 0 ≤ c ∧ c + n ≤ 1099511627776
theorem PoolB.isL {H : Hp} {pa : Addr} {n : Nat} (h : PoolB H pa n) : IsL H pa := by
  obtain ⟨a, b, c, h, _⟩ := h
  exact ⟨_, h⟩
theorem PoolB.up {H H' : Hp} {pa : Addr} {n : Nat} (h : PoolB H pa n) (e : Ex H H') : PoolB H' pa n := by
  obtain ⟨a, b, c, h, h2⟩ := h
  exact ⟨a, b, c, e _ _ h, h2⟩
theorem PoolB.less {H : Hp} {pa : Addr} {n m : Nat} (h : PoolB H pa n) (l : m ≤ n) : PoolB H pa m := by
  obtain ⟨a, b, c, h, h2, h3⟩ := h
  exact ⟨a, b, c, h, h2, by omega⟩
theorem ExB.free {B : Addr} {H H' : Hp} (e : ExB B H H') (hB : IsL H' B) {p : Addr} (h : H' p = none) : H p = none := by
  cases q : H p with
  | none => rfl
  | some o =>
    by_cases z : p = B
    · obtain ⟨xs, hx⟩ := hB
      rw [z, hx] at h
      cases h
    · rw [e p o z q] at h
      cases h
theorem Dt.dr {B : Addr} {H H' : Hp} {v : V} {d : PyData} (h : Dt H v d) (hB : IsL H B) (e : ExB B H H') (n : noL d = true) : Dt H' v d := Dt.monoB hB e d v n h
/-! ### picked ones, in order -/
def sel (f : Nat → Bool) (g : Nat → PyData) : Nat → List PyData
  | 0 => []
  | n + 1 => sel f g n ++ (if f n = true then [g n] else [])
theorem sel_yes {f : Nat → Bool} {g : Nat → PyData} {n : Nat} (h : f n = true) : sel f g (n + 1) = sel f g n ++ [g n] := by
  show sel f g n ++ (if f n = true then [g n] else []) = _
  rw [if_pos h]
theorem sel_no {f : Nat → Bool} {g : Nat → PyData} {n : Nat} (h : f n = false) : sel f g (n + 1) = sel f g n := by
  show sel f g n ++ (if f n = true then [g n] else []) = _
  rw [if_neg (by rw [h]; exact Bool.false_ne_true), List.append_nil]
theorem sel_len (f : Nat → Bool) (g : Nat → PyData) : ∀ n : Nat, (sel f g n).length ≤ n
  | 0 => Nat.le_refl 0
  | n + 1 => by
    have h := sel_len f g n
    cases e : f n with
    | true => rw [sel_yes e, List.length_append]; exact Nat.add_le_add h (Nat.le_refl 1)
    | false => rw [sel_no e]; omega
theorem sel_congr {f f' : Nat → Bool} {g g' : Nat → PyData} : ∀ n : Nat, (∀ i, i < n → f i = f' i) → (∀ i, i < n → g i = g' i) → sel f g n = sel f' g' n
  | 0, _, _ => rfl
  | n + 1, h1, h2 => by
    show sel f g n ++ (if f n = true then [g n] else []) = sel f' g' n ++ (if f' n = true then [g' n] else [])
    rw [sel_congr n (fun i hi => h1 i (by omega)) (fun i hi => h2 i (by omega)), h1 n (by omega), h2 n (by omega)]
theorem _root_.Evl.Ex.keepB {B : Addr} {H0 H H' : Hp} (a : Ex H0 H) (n : H0 B = none) (b : ExB B H H') : Ex H0 H' := fun x o h => b x o (ne_of_none h n) (a x o h)
/-! ### what an expression is worth, as data -/
def EvD (te : TE) (σ : L2.St) (H : Hp) (d : PyData) : Prop := ∀ H1, Ex H H1 → ∀ Q : VK, (∀ v H2, Ex H1 H2 → Dt H2 v d → Q v H2) → te σ H1 Q
def EvN (te : TE) (σ : L2.St) (H : Hp) (ds : List PyData) : Prop := ∀ H1, Ex H H1 → ∀ Q : VK, (∀ p H2, H1 p = none → Ex H1 H2 → AccL H2 p ds → Q (.ref p) H2) → te σ H1 Q
def EvDA (ta : TA) (σ : L2.St) (H : Hp) (ds : List PyData) : Prop := ∀ H1, Ex H H1 → ∀ Q : List V → Hp → Prop, (∀ vs H2, Ex H1 H2 → DtAll H2 vs ds → Q vs H2) → ta σ H1 Q
section
variable {K : PySem.W.Frag} {σ : L2.St} {H H' : Hp} {ta tb te tl : TE} {t u : TT} {d : PyData} {ds : List PyData}
theorem EvD.mono (e : Ex H H') (h : EvD te σ H d) : EvD te σ H' d := fun H1 a Q q => h H1 (e.trans a) Q q
theorem EvN.mono (e : Ex H H') (h : EvN te σ H ds) : EvN te σ H' ds := fun H1 a Q q => h H1 (e.trans a) Q q
theorem EvN.ed (h : EvN te σ H ds) : EvD te σ H (.list ds) := fun H1 e Q q => h H1 e Q fun p H2 _ e2 a => q _ H2 e2 a.dt
theorem ed_of {v : V} (h : Ev te σ H v) (hd : Dt H v d) : EvD te σ H d := fun H1 e Q q => h H1 e Q fun H2 e2 => q v H2 e2 (hd.up (e.trans e2))
theorem ed_var {v : V} {i : Nat} (h : σ[i]? = some (some v)) (hd : Dt H v d) : EvD (tVar i) σ H d := ed_of (ev_var h) hd
theorem ed_int {i : Int} (h : Ev te σ H (.int i)) : EvD te σ H (.int i) := ed_of h (.int i)
theorem ev_int {i : Int} (h : EvD te σ H (.int i)) : Ev te σ H (.int i) := fun H1 e Q q => h H1 e Q fun v H2 e2 hd => by
  rw [hd.int_eq]
  exact q H2 e2
theorem ev_bl {b : Bool} (h : EvD te σ H (.bool b)) : Ev te σ H (.bl b) := fun H1 e Q q => h H1 e Q fun v H2 e2 hd => by
  rw [hd.bl_eq]
  exact q H2 e2
theorem eda_nil : EvDA tNil σ H [] := fun H1 _ _ q => q [] H1 (Ex.refl H1) .nil
theorem eda_cons {tr : TA} (h : EvD te σ H d) (hr : EvDA tr σ H ds) : EvDA (tCons te tr) σ H (d :: ds) := fun H1 e _ q =>
  h H1 e _ fun v H2 e2 hv => hr H2 (e.trans e2) _ fun vs H3 e3 hvs => q (v :: vs) H3 (e2.trans e3) (.cons (hv.up e3) hvs)
theorem ed_tup {tr : TA} (h : EvDA tr σ H ds) (hl : ds.length ≤ 100000) : EvD (tTup tr) σ H (.tuple ds) := fun H1 e _ q =>
  h H1 e _ fun vs H2 e2 hv => ⟨sz_of (by rw [hv.len]; exact hl), fun p hp => q _ _ (e2.trans (Ex.new hp)) (.tup upd_same (hv.up (Ex.new hp)))⟩
theorem en_lst {tr : TA} (h : EvDA tr σ H ds) (hl : ds.length ≤ 100000) (hn : noLs ds = true) : EvN (tLst tr) σ H ds := fun H1 e _ q =>
  h H1 e _ fun vs H2 e2 hv => ⟨sz_of (by rw [hv.len]; exact hl), fun p hp => q p _ (fresh_back e2 hp) (e2.trans (Ex.new hp)) ⟨vs, upd_same, hv.up (Ex.new hp), hn⟩⟩
/-- one turn of a comprehension -/
theorem lc_turn {H1 H2 : Hp} {D : Addr} {dsi : List PyData} {b : Bool} {σ2 : L2.St} (p : Ex H1 H2 ∧ AccL H2 D dsi) (hD : H1 D = none) (hz : dsi.length < 50000) (ht : EvT t σ2 H1 b) (he : b = true → EvD te σ2 H1 d) (nd : b = true → noL d = true) :
    t σ2 H2 fun c H3 => if c = true then te σ2 H3 fun y H4 => ∃ acc, H4 D = some (.lst acc) ∧ acc.length < sizeLine ∧ (Ex H1 (upd H4 D (.lst (acc ++ [y]))) ∧ AccL (upd H4 D (.lst (acc ++ [y]))) D (dsi ++ (if b = true then [d] else []))) else (Ex H1 H3 ∧ AccL H3 D (dsi ++ (if b = true then [d] else []))) := by
  obtain ⟨e1, a1⟩ := p
  refine ht H2 e1 _ fun H3 e3 => ?_
  cases b with
  | true =>
    refine itT rfl (he rfl H3 (e1.trans e3) _ fun v H4 e4 hv => ?_)
    obtain ⟨acc, h1, h2, h3⟩ := a1.app (e3.trans e4) hv (nd rfl)
    exact ⟨acc, h1, sz_lt (by omega), Ex.mut ((e1.trans e3).trans e4) hD, h3⟩
  | false =>
    refine itF rfl ⟨e1.trans e3, ?_⟩
    rw [if_neg Bool.false_ne_true, List.append_nil]
    exact a1.up e3
theorem take_flt {α β : Type} (f : α → Bool) (g : α → β) {ds : List α} {i : Nat} {d : α} (h : ds[i]? = some d) : ((ds.take (i + 1)).filter f).map g = ((ds.take i).filter f).map g ++ (if f d = true then [g d] else []) := by
  rw [List.take_add_one, h, List.filter_append, List.map_append]
  congr 1
  cases e : f d with
  | true => simp [e]
  | false => simp [e]
theorem flt_len {α β : Type} (f : α → Bool) (g : α → β) (ds : List α) (i : Nat) : (((ds.take i).filter f).map g).length ≤ ds.length := by
  rw [List.length_map]
  have h1 := List.length_filter_le f (ds.take i)
  have h2 : (ds.take i).length ≤ ds.length := by
    rw [List.length_take]
    exact Nat.min_le_right _ _
  omega
/-- [te for x in tl if t] over a list of data -/
theorem en_lcD {j : Nat} {vs : List Nat} (f : PyData → Bool) (g : PyData → PyData) (h : EvD tl σ H (.list ds)) (hz : ds.length ≤ 40000) (hw : ∀ x, wipe ((wipe σ vs).set j (some x)) vs = wipe σ vs)
    (ht : ∀ H1 v d, Ex H H1 → d ∈ ds → Dt H1 v d → EvT t ((wipe σ vs).set j (some v)) H1 (f d)) (he : ∀ H1 v d, Ex H H1 → d ∈ ds → Dt H1 v d → f d = true → EvD te ((wipe σ vs).set j (some v)) H1 (g d)) (hn : ∀ d, d ∈ ds → f d = true → noL (g d) = true) :
    EvN (tLc (iList K tl) (gName j) t te vs) σ H ((ds.filter f).map g) := fun H0 e Q q => h H0 e _ fun v H1 e1 hv => by
  obtain ⟨a, xs, rfl, ha, hx⟩ := hv.lst_get
  refine ⟨a, rfl, ⟨xs, sq_of ha⟩, fun D hD => lc_list (xs := xs) (fun i H' => Ex H1 H' ∧ AccL H' D (((ds.take i).filter f).map g)) ⟨Ex.new hD, AccL.new⟩ (fun i H' _ p => sq_of (p.1 a _ ha)) (fun i x H' hi p => ?_) (fun H' p => ?_)⟩
  · obtain ⟨d, hd, hxd⟩ := hx.get i hi
    have hm := List.mem_of_getElem? hd
    refine ⟨hw x, ?_⟩
    show t _ H' fun c H3 => if c = true then te _ H3 fun y H4 => ∃ acc, H4 D = some (.lst acc) ∧ acc.length < sizeLine ∧ (Ex H1 (upd H4 D (.lst (acc ++ [y]))) ∧ AccL (upd H4 D (.lst (acc ++ [y]))) D (((ds.take (i + 1)).filter f).map g)) else (Ex H1 H3 ∧ AccL H3 D (((ds.take (i + 1)).filter f).map g))
    rw [take_flt f g hd]
    exact lc_turn p hD (by have := flt_len f g ds i; omega) (ht H1 x d (e.trans e1) hm hxd) (fun hf => he H1 x d (e.trans e1) hm hxd hf) (hn d hm)
  · rw [hx.len, List.take_length] at p
    exact q D H' (fresh_back e1 hD) (e1.trans p.1) p.2
/-- .. over a tuple of data -/
theorem en_lcT {j : Nat} {vs : List Nat} (f : PyData → Bool) (g : PyData → PyData) (h : EvD tl σ H (.tuple ds)) (hz : ds.length ≤ 40000) (hw : ∀ x, wipe ((wipe σ vs).set j (some x)) vs = wipe σ vs)
    (ht : ∀ H1 v d, Ex H H1 → d ∈ ds → Dt H1 v d → EvT t ((wipe σ vs).set j (some v)) H1 (f d)) (he : ∀ H1 v d, Ex H H1 → d ∈ ds → Dt H1 v d → f d = true → EvD te ((wipe σ vs).set j (some v)) H1 (g d)) (hn : ∀ d, d ∈ ds → f d = true → noL (g d) = true) :
    EvN (tLc (iTup K tl) (gName j) t te vs) σ H ((ds.filter f).map g) := fun H0 e Q q => h H0 e _ fun v H1 e1 hv => by
  obtain ⟨a, xs, rfl, ha, hx⟩ := hv.tup_get
  refine ⟨a, rfl, ⟨xs, st_of ha⟩, fun D hD => lc_tup (xs := xs) (fun i H' => Ex H1 H' ∧ AccL H' D (((ds.take i).filter f).map g)) ⟨Ex.new hD, AccL.new⟩ (fun i H' _ p => st_of (p.1 a _ ha)) (fun i x H' hi p => ?_) (fun H' p => ?_)⟩
  · obtain ⟨d, hd, hxd⟩ := hx.get i hi
    have hm := List.mem_of_getElem? hd
    refine ⟨hw x, ?_⟩
    show t _ H' fun c H3 => if c = true then te _ H3 fun y H4 => ∃ acc, H4 D = some (.lst acc) ∧ acc.length < sizeLine ∧ (Ex H1 (upd H4 D (.lst (acc ++ [y]))) ∧ AccL (upd H4 D (.lst (acc ++ [y]))) D (((ds.take (i + 1)).filter f).map g)) else (Ex H1 H3 ∧ AccL H3 D (((ds.take (i + 1)).filter f).map g))
    rw [take_flt f g hd]
    exact lc_turn p hD (by have := flt_len f g ds i; omega) (ht H1 x d (e.trans e1) hm hxd) (fun hf => he H1 x d (e.trans e1) hm hxd hf) (hn d hm)
  · rw [hx.len, List.take_length] at p
    exact q D H' (fresh_back e1 hD) (e1.trans p.1) p.2
/-- .. over a range -/
def irng (lo hi : Int) : List Int := (List.range (hi - lo).toNat).map fun (i : Nat) => lo + (i : Int)
theorem irng_get {lo hi : Int} {i : Nat} (h : i < (hi - lo).toNat) : (irng lo hi)[i]? = some (lo + (i : Int)) := by
  unfold irng
  rw [List.getElem?_map, List.getElem?_range h]
  rfl
theorem irng_len (lo hi : Int) : (irng lo hi).length = (hi - lo).toNat := by
  unfold irng
  rw [List.length_map, List.length_range]
theorem irng_mem {lo hi x : Int} : x ∈ irng lo hi ↔ lo ≤ x ∧ x < hi := by
  unfold irng
  rw [List.mem_map]
  constructor
  · rintro ⟨i, hi, rfl⟩
    have := List.mem_range.mp hi
    omega
  · rintro ⟨h1, h2⟩
    exact ⟨(x - lo).toNat, List.mem_range.mpr (by omega), by omega⟩
theorem en_lcR2 {ta : TA} {j : Nat} {vs : List Nat} {lo hi : Int} (f : Int → Bool) (g : Int → PyData) (h : EvA ta σ H [.int lo, .int hi]) (hz : -1000000 ≤ lo ∧ hi ≤ 1000000 ∧ hi - lo ≤ 40000 ∧ lo ≤ 1000000 ∧ -1000000 ≤ hi) (hw : ∀ x, wipe ((wipe σ vs).set j (some x)) vs = wipe σ vs)
    (ht : ∀ x, lo ≤ x → x < hi → EvT t ((wipe σ vs).set j (some (.int x))) H (f x)) (he : ∀ x, lo ≤ x → x < hi → f x = true → EvD te ((wipe σ vs).set j (some (.int x))) H (g x)) (hn : ∀ x, lo ≤ x → x < hi → f x = true → noL (g x) = true) :
    EvN (tLc (iRng2 ta) (gName j) t te vs) σ H (((irng lo hi).filter f).map g) := fun H0 e Q q => h H0 e _ fun H1 e1 => by
  refine ⟨lo, hi, rfl, ⟨by omega, by omega, by omega, by omega⟩, fun D hD => lc_range (lo := lo) (n := (hi - lo).toNat) (fun i H' => Ex H1 H' ∧ AccL H' D ((((irng lo hi).take i).filter f).map g)) ⟨Ex.new hD, AccL.new⟩ (fun i H' hi' p => ?_) (fun H' p => ?_)⟩
  · refine ⟨hw _, ?_⟩
    show t _ H' fun c H3 => if c = true then te _ H3 fun y H4 => ∃ acc, H4 D = some (.lst acc) ∧ acc.length < sizeLine ∧ (Ex H1 (upd H4 D (.lst (acc ++ [y]))) ∧ AccL (upd H4 D (.lst (acc ++ [y]))) D ((((irng lo hi).take (i + 1)).filter f).map g)) else (Ex H1 H3 ∧ AccL H3 D ((((irng lo hi).take (i + 1)).filter f).map g))
    rw [take_flt f g (irng_get hi')]
    refine lc_turn p hD ?_ ((ht _ (by omega) (by omega)).mono (e.trans e1)) (fun hf => (he _ (by omega) (by omega) hf).mono (e.trans e1)) (hn _ (by omega) (by omega))
    have := flt_len f g (irng lo hi) i
    rw [irng_len] at this
    omega
  · rw [List.take_of_length_le (by rw [irng_len]; exact Nat.le_refl _)] at p
    exact q D H' (fresh_back e1 hD) (e1.trans p.1) p.2
theorem en_lcR1 {ta : TA} {j : Nat} {vs : List Nat} {hi : Int} (f : Int → Bool) (g : Int → PyData) (h : EvA ta σ H [.int hi]) (hz : -1000000 ≤ hi ∧ hi ≤ 40000) (hw : ∀ x, wipe ((wipe σ vs).set j (some x)) vs = wipe σ vs)
    (ht : ∀ x, 0 ≤ x → x < hi → EvT t ((wipe σ vs).set j (some (.int x))) H (f x)) (he : ∀ x, 0 ≤ x → x < hi → f x = true → EvD te ((wipe σ vs).set j (some (.int x))) H (g x)) (hn : ∀ x, 0 ≤ x → x < hi → f x = true → noL (g x) = true) :
    EvN (tLc (iRng1 ta) (gName j) t te vs) σ H (((irng 0 hi).filter f).map g) := fun H0 e Q q => h H0 e _ fun H1 e1 => by
  refine ⟨hi, rfl, by omega, by omega, fun D hD => lc_range (lo := 0) (n := hi.toNat) (fun i H' => Ex H1 H' ∧ AccL H' D ((((irng 0 hi).take i).filter f).map g)) ⟨Ex.new hD, AccL.new⟩ (fun i H' hi' p => ?_) (fun H' p => ?_)⟩
  · refine ⟨hw _, ?_⟩
    show t _ H' fun c H3 => if c = true then te _ H3 fun y H4 => ∃ acc, H4 D = some (.lst acc) ∧ acc.length < sizeLine ∧ (Ex H1 (upd H4 D (.lst (acc ++ [y]))) ∧ AccL (upd H4 D (.lst (acc ++ [y]))) D ((((irng 0 hi).take (i + 1)).filter f).map g)) else (Ex H1 H3 ∧ AccL H3 D ((((irng 0 hi).take (i + 1)).filter f).map g))
    rw [take_flt f g (irng_get (lo := 0) (hi := hi) (by omega))]
    refine lc_turn p hD ?_ ((ht _ (by omega) (by omega)).mono (e.trans e1)) (fun hf => (he _ (by omega) (by omega) hf).mono (e.trans e1)) (hn _ (by omega) (by omega))
    have := flt_len f g (irng 0 hi) i
    rw [irng_len] at this
    omega
  · rw [List.take_of_length_le (by rw [irng_len]; omega)] at p
    exact q D H' (fresh_back e1 hD) (e1.trans p.1) p.2
end
/-! ### == of data -/
mutual
def flat1 : PyData → Bool
  | .none | .bool _ | .int _ => true
  | _ => false
end
theorem canLay_ints : ∀ ns : List Int, PyData.canLayAll0 (ns.map PyData.int) = true
  | [] => rfl
  | n :: ns => by
    show ((PyData.int n).canLay0 && PyData.canLayAll0 (ns.map PyData.int)) = true
    rw [canLay_ints ns]
    rfl
theorem depth_ints : ∀ ns : List Int, PyData.depthAll (ns.map PyData.int) = 0
  | [] => rfl
  | n :: ns => by
    show max (PyData.depth (.int n)) (PyData.depthAll (ns.map PyData.int)) = 0
    rw [depth_ints ns]
    rfl
theorem shaped_ints (ns : List Int) : SeqAt.shaped (.list (ns.map PyData.int)) = true := by
  show (PyData.canLayAll0 (ns.map PyData.int) && decide (PyData.depthAll (ns.map PyData.int) + 1 ≤ 64)) = true
  rw [canLay_ints, depth_ints]
  rfl
theorem shaped_intsT (ns : List Int) : SeqAt.shaped (.tuple (ns.map PyData.int)) = true := by
  show (PyData.canLayAll0 (ns.map PyData.int) && decide (PyData.depthAll (ns.map PyData.int) + 1 ≤ 64)) = true
  rw [canLay_ints, depth_ints]
  rfl
/-- a list (tuple) of things of at most k deep -/
theorem lay_all {ds : List PyData} {k : Nat} (h : ∀ d ∈ ds, d.canLay0 = true ∧ d.depth ≤ k) : PyData.canLayAll0 ds = true ∧ PyData.depthAll ds ≤ k := by
  induction ds with
  | nil => exact ⟨rfl, Nat.zero_le _⟩
  | cons d ds ih =>
    obtain ⟨h1, h2⟩ := h d List.mem_cons_self
    obtain ⟨h3, h4⟩ := ih fun x hx => h x (List.mem_cons_of_mem _ hx)
    refine ⟨?_, ?_⟩
    · show (d.canLay0 && PyData.canLayAll0 ds) = true
      rw [h1, h3]
      rfl
    · show max d.depth (PyData.depthAll ds) ≤ k
      omega
theorem lay_list {ds : List PyData} {k : Nat} (h : ∀ d ∈ ds, d.canLay0 = true ∧ d.depth ≤ k) : (PyData.list ds).canLay0 = true ∧ (PyData.list ds).depth ≤ k + 1 := by
  obtain ⟨h1, h2⟩ := lay_all h
  exact ⟨h1, Nat.succ_le_succ h2⟩
theorem lay_tup {ds : List PyData} {k : Nat} (h : ∀ d ∈ ds, d.canLay0 = true ∧ d.depth ≤ k) : (PyData.tuple ds).canLay0 = true ∧ (PyData.tuple ds).depth ≤ k + 1 := by
  obtain ⟨h1, h2⟩ := lay_all h
  exact ⟨h1, Nat.succ_le_succ h2⟩
theorem lay_pair (a b : Int) : (PyData.tuple [.int a, .int b]).canLay0 = true ∧ (PyData.tuple [.int a, .int b]).depth ≤ 1 := ⟨rfl, Nat.le_refl 1⟩
theorem shaped_of {d : PyData} {k : Nat} (h : d.canLay0 = true ∧ d.depth ≤ k) (hk : k ≤ 64) : SeqAt.shaped d = true := by
  show (d.canLay0 && decide (d.depth ≤ 64)) = true
  rw [h.1, decide_eq_true (by omega)]
  rfl
theorem eqv_self {d : PyData} (h : d.canLay0 = true) : PyData.eqv d d = true := SeqAt.eqv_refl d h
section
variable {K : PySem.W.Frag} {σ : L2.St} {H H' : Hp} {ta tb te tl : TE} {t u : TT} {d e : PyData} {ds : List PyData}
theorem rv_eqD {x y : V} (hx : Dt H x d) (hy : Dt H y e) (sd : SeqAt.shaped d = true) (se : SeqAt.shaped e = true) : RV (rEqD K) x y H (.bl (PyData.eqv d e)) := fun H1 a _ q =>
  ⟨d, e, (hx.up a).dp _ _ (SeqAt.canLay_of_shaped sd), (hy.up a).dp _ _ (SeqAt.canLay_of_shaped se), sd, se, q H1 (Ex.refl H1)⟩
theorem rv_neD {x y : V} (hx : Dt H x d) (hy : Dt H y e) (sd : SeqAt.shaped d = true) (se : SeqAt.shaped e = true) : RV (rNeD K) x y H (.bl (!PyData.eqv d e)) := fun H1 a _ q =>
  ⟨d, e, (hx.up a).dp _ _ (SeqAt.canLay_of_shaped sd), (hy.up a).dp _ _ (SeqAt.canLay_of_shaped se), sd, se, q H1 (Ex.refl H1)⟩
theorem ev_eqD (h1 : EvD ta σ H d) (h2 : EvD tb σ H e) (sd : SeqAt.shaped d = true) (se : SeqAt.shaped e = true) : Ev (tOp (rEqD K) ta tb) σ H (.bl (PyData.eqv d e)) := fun H1 a Q q =>
  h1 H1 a _ fun x H2 e2 hx => h2 H2 (a.trans e2) _ fun y H3 e3 hy => rv_eqD (hx.up e3) hy sd se H3 (Ex.refl H3) Q fun H4 e4 => q H4 ((e2.trans e3).trans e4)
theorem ev_neD (h1 : EvD ta σ H d) (h2 : EvD tb σ H e) (sd : SeqAt.shaped d = true) (se : SeqAt.shaped e = true) : Ev (tOp (rNeD K) ta tb) σ H (.bl (!PyData.eqv d e)) := fun H1 a Q q =>
  h1 H1 a _ fun x H2 e2 hx => h2 H2 (a.trans e2) _ fun y H3 e3 hy => rv_neD (hx.up e3) hy sd se H3 (Ex.refl H3) Q fun H4 e4 => q H4 ((e2.trans e3).trans e4)
/-- [..] == [], [..] != [] -/
theorem eqv_nil : PyData.eqv (.list ds) (.list []) = ds.isEmpty := by
  cases ds with
  | nil => rfl
  | cons d ds => rfl
theorem ev_eqNil (h1 : EvN ta σ H ds) (sd : SeqAt.shaped (.list ds) = true) : Ev (tOp (rEqD K) ta (tLst tNil)) σ H (.bl ds.isEmpty) := by
  have h := ev_eqD (K := K) h1.ed (EvN.ed (en_lst (H := H) (σ := σ) eda_nil (by decide) rfl)) sd rfl
  rw [eqv_nil] at h
  exact h
theorem ev_neNil (h1 : EvN ta σ H ds) (sd : SeqAt.shaped (.list ds) = true) : Ev (tOp (rNeD K) ta (tLst tNil)) σ H (.bl (!ds.isEmpty)) := by
  have h := ev_neD (K := K) h1.ed (EvN.ed (en_lst (H := H) (σ := σ) eda_nil (by decide) rfl)) sd rfl
  rw [eqv_nil] at h
  exact h
theorem ev_isi {c : String} {b : Bool} {v : V} (h : Ev te σ H v) (hd : Dt H v d) (k : kitB (tyN d) c = some b) : Ev (tCB (rIsi K) (tCons te (tCons (tC (.ty c)) tNil))) σ H (.bl b) := fun H1 a Q q =>
  h H1 a _ fun H2 e2 => rIsi_of (hd.up (a.trans e2)) k (q H2 e2)
end
/-! ### loops -/
theorem s_forZ {ta : TA} {j : Nat} {lo hi : Int} {tu : TS} {D : Ends} {σ : L2.St} {H : Hp} (h : EvA ta σ H [.int lo, .int hi]) (hb : -1000000 ≤ lo ∧ lo ≤ 1000000 ∧ -1000000 ≤ hi ∧ hi ≤ 1000000) (Pv : Nat → L2.St → Hp → Prop) (h0 : ∀ H1, Ex H H1 → Pv 0 σ H1)
    (hs : ∀ (i : Nat) σ' H', lo + (i : Int) < hi → Pv i σ' H' → tu { D with nx := Pv (i + 1), ct := Pv (i + 1), bk := D.nx } (σ'.set j (some (.int (lo + (i : Int))))) H') (hd : ∀ σ' H', Pv (hi - lo).toNat σ' H' → D.nx σ' H') : tFor (iRng2 ta) (gName j) tu D σ H :=
  h H (Ex.refl H) _ fun H1 e => ⟨lo, hi, rfl, ⟨by omega, by omega, by omega, by omega⟩, for_range (lo := lo) (n := (hi - lo).toNat) Pv (h0 H1 e) (fun i σ' H' hi p => hs i σ' H' (by omega) p) hd⟩
/-! ### the fractions within bounds -/
/-- the row of the fractions with the bottom b, tops from -n on, j of them looked at; all rows to the bottom i -/
def frow (n b : Int) (j : Nat) : List PyData := sel (fun t => decide (Int.gcd (-n + (t : Int)) b = 1)) (fun t => .tuple [.int (-n + (t : Int)), .int b]) j
def frows (n : Int) : Nat → List PyData
  | 0 => []
  | i + 1 => frows n i ++ frow n (1 + (i : Int)) (2 * n + 1).toNat
theorem frows_len {n : Int} (h0 : 0 ≤ n) (h : n ≤ 60) : ∀ i : Nat, (frows n i).length ≤ 121 * i
  | 0 => Nat.le_refl 0
  | i + 1 => by
    show (frows n i ++ frow n (1 + (i : Int)) (2 * n + 1).toNat).length ≤ _
    have h1 := frows_len h0 h i
    have h2 : (frow n (1 + (i : Int)) (2 * n + 1).toNat).length ≤ (2 * n + 1).toNat := sel_len _ _ _
    rw [List.length_append]
    omega
/-! ### statements over data -/
section
variable {K : PySem.W.Frag} {σ : L2.St} {H H' : Hp} {ta tb te tl : TE} {t u : TT} {d e : PyData} {ds : List PyData} {D : Ends} {tz : TS}
theorem q_asgN {i : Nat} (h : EvN te σ H ds) (k : ∀ p H1, H p = none → Ex H H1 → AccL H1 p ds → tz D (σ.set i (some (.ref p))) H1) : tSeq (tAsg te (gName i)) tz D σ H := h H (Ex.refl H) _ k
theorem s_asgN {i : Nat} (h : EvN te σ H ds) (k : ∀ p H1, H p = none → Ex H H1 → AccL H1 p ds → D.nx (σ.set i (some (.ref p))) H1) : tAsg te (gName i) D σ H := h H (Ex.refl H) _ k
theorem q_asgD {i : Nat} (h : EvD te σ H d) (k : ∀ v H1, Ex H H1 → Dt H1 v d → tz D (σ.set i (some v)) H1) : tSeq (tAsg te (gName i)) tz D σ H := h H (Ex.refl H) _ k
theorem s_asgD {i : Nat} (h : EvD te σ H d) (k : ∀ v H1, Ex H H1 → Dt H1 v d → D.nx (σ.set i (some v)) H1) : tAsg te (gName i) D σ H := h H (Ex.refl H) _ k
theorem s_retN (h : EvN te σ H ds) (k : ∀ p H1, H p = none → Ex H H1 → AccL H1 p ds → D.rt (.ref p) H1) : tRet te D σ H := h H (Ex.refl H) _ k
theorem s_retD (h : EvD te σ H d) (k : ∀ v H1, Ex H H1 → Dt H1 v d → D.rt v H1) : tRet te D σ H := h H (Ex.refl H) _ k
end
/-! ### the layer's rules, the written part told by name -/
section
variable {X : Cx} {tg l e : Expr} {tl te : TE} {pos : Pos}
theorem pi_listK (K : PySem.W.Frag) (hl : PE X l tl) (hK : X.K = K := by rfl) : PI X tg l (iList K tl) := by
  subst hK
  exact pi_list hl
theorem pi_tupK (K : PySem.W.Frag) (hl : PE X l tl) (hK : X.K = K := by rfl) : PI X tg l (iTup K tl) := by
  subst hK
  exact pi_tup hl
theorem pe_revLK {k : Nat} {p1 p2 p3 : Pos} (K : PySem.W.Frag) (he : PE X e te) (hK : X.K = K := by rfl) : PE X (.Subscript e (.Slice none none (some (.UnaryOp .USub (.Constant (.int 1) k p1) p2)) p3) pos) (tRevL K te) := by
  subst hK
  exact pe_revL he
end
/-! ### how many turns a law takes -/
theorem turns_ok (m L : Int) (hm : 1 ≤ m) (hL : 0 ≤ L) : 1 ≤ (if (if L < m then L else m) > 1 then (if L < m then L else m) else 1) ∧ (if (if L < m then L else m) > 1 then (if L < m then L else m) else 1) ≤ m := by
  split <;> split <;> omega
theorem PoolB.dr {H : Hp} {pa : Addr} {n : Nat} {p : Addr} {o : HO} (h : PoolB H pa n) (hp : H p = none) : PoolB (upd H p o) pa n := h.up (Ex.new hp)
/-! ### sizes of drawn numbers -/
def big (i : Nat) : Int := 1000000 ^ i
theorem big_succ (i : Nat) : big (i + 1) = big i * 1000000 := Int.pow_succ 1000000 i
theorem big_pos (i : Nat) : 0 < big i := Int.pow_pos (by decide)
theorem big_le : ∀ i : Nat, i < 6 → big i ≤ 1000000000000000000000000000000 := by decide +kernel
theorem big_far {v w : Int} {i : Nat} (h0 : 0 ≤ v) (h : v < big i) (w0 : 0 ≤ w) (w1 : w < 1000000) : 0 ≤ v * 1000000 + w ∧ v * 1000000 + w < big (i + 1) := by
  rw [big_succ]
  omega
/-! ### the primes below a thousand, as the laws find them -/
def primesL : List Int := (irng 2 1000).filter fun p => ((irng 2 32).filter fun d => decide (p % d = 0) && decide (d < p)).isEmpty
theorem primesL_len : primesL.length = 168 := by decide +kernel
/-- what is_prime reckons -/
def primeB (n : Int) : Bool := decide (2 ≤ n) && decide (n < 1000) && (irng 2 32).all fun k => decide (n < k * k) || !decide (n % k = 0)
theorem primesL_prime : ∀ p ∈ primesL, primeB p = true := by decide +kernel
theorem primeB_lo {n : Int} (h : primeB n = true) : 2 ≤ n ∧ n < 1000 := by
  unfold primeB at h
  obtain ⟨h, _⟩ := Bool.and_eq_true_iff.mp h
  obtain ⟨h1, h2⟩ := Bool.and_eq_true_iff.mp h
  exact ⟨of_decide_eq_true h1, of_decide_eq_true h2⟩
theorem primesL_lo {p : Int} (h : p ∈ primesL) : 2 ≤ p ∧ p < 1000 := primeB_lo (primesL_prime p h)
theorem primesL_get {i : Nat} (h : i < 168) : ∃ p, (primesL.map V.int)[i]? = some (.int p) ∧ p ∈ primesL := by
  have h2 : i < primesL.length := by rw [primesL_len]; exact h
  refine ⟨primesL[i], ?_, List.getElem_mem h2⟩
  rw [List.getElem?_map, List.getElem?_eq_getElem h2]
  rfl
/-! ### fractions and primes as data -/
def dFrac : PyData → Bool
  | .tuple [.int t, .int b] => decide (1 ≤ b) && decide (Int.gcd t b = 1)
  | _ => false
def dPrime : PyData → Bool
  | .int n => primeB n
  | _ => false
theorem dFrac_pair {d : PyData} (h : dPair d = false) : dFrac d = false := by
  match d, h with
  | .tuple [], _ => simp [dFrac]
  | .tuple [_], _ => simp [dFrac]
  | .tuple [_, _], h => exact nomatch h
  | .tuple (_ :: _ :: _ :: _), _ => simp [dFrac]
  | .none, _ => rfl
  | .bool _, _ => rfl
  | .int _, _ => rfl
  | .str _, _ => rfl
  | .list _, _ => rfl
  | .dict _, _ => rfl
theorem dFrac_get {d : PyData} (h : dFrac d = true) : ∃ t b : Int, d = .tuple [.int t, .int b] ∧ 1 ≤ b ∧ Int.gcd t b = 1 := by
  unfold dFrac at h
  split at h
  · obtain ⟨h1, h2⟩ := Bool.and_eq_true_iff.mp h
    exact ⟨_, _, rfl, of_decide_eq_true h1, of_decide_eq_true h2⟩
  · cases h
theorem dFrac_of {t b : Int} (h1 : 1 ≤ b) (h2 : Int.gcd t b = 1) : dFrac (.tuple [.int t, .int b]) = true := by
  show (decide (1 ≤ b) && decide (Int.gcd t b = 1)) = true
  rw [decide_eq_true h1, decide_eq_true h2]
  rfl
theorem primeB_no {n k : Int} (h1 : 2 ≤ k) (h2 : k * k ≤ n) (h3 : n % k = 0) : primeB n = false := by
  cases e : primeB n with
  | false => rfl
  | true =>
    have hn := primeB_lo e
    have hk : k < 32 := by
      by_cases z : k < 32
      · exact z
      · have : 32 * 32 ≤ k * k := Int.mul_le_mul (by omega) (by omega) (by decide) (by omega)
        omega
    unfold primeB at e
    obtain ⟨_, e⟩ := Bool.and_eq_true_iff.mp e
    have e := List.all_eq_true.mp e k (irng_mem.mpr ⟨h1, hk⟩)
    rw [decide_eq_false (by omega), decide_eq_true h3] at e
    exact nomatch e
theorem primeB_yes {n k : Int} (h0 : 2 ≤ n) (h1 : n < 1000) (hk : 2 ≤ k) (h2 : n < k * k) (h3 : ∀ j : Int, 2 ≤ j → j < k → n % j ≠ 0) : primeB n = true := by
  unfold primeB
  rw [decide_eq_true h0, decide_eq_true h1, Bool.true_and, Bool.true_and]
  refine List.all_eq_true.mpr fun j hj => ?_
  obtain ⟨j0, j1⟩ := irng_mem.mp hj
  by_cases z : j < k
  · rw [decide_eq_false (h3 j j0 z)]
    exact Bool.or_true _
  · have : k * k ≤ j * j := Int.mul_le_mul (by omega) (by omega) (by omega) (by omega)
    rw [decide_eq_true (by omega)]
    rfl
/-! a prime that does not divide has nothing in common -/
theorem primeB_div {p g : Int} (hp : primeB p = true) (hg : g ∣ p) (g0 : 0 < g) : g = 1 ∨ g = p := by
  obtain ⟨lo, hi⟩ := primeB_lo hp
  obtain ⟨c, hc⟩ := hg
  have hg2 : g ≤ p := Int.le_of_dvd (by omega) ⟨c, hc⟩
  have c0 : 0 < c := by
    by_cases z : 0 < c
    · exact z
    · have : g * c ≤ g * 0 := Int.mul_le_mul_of_nonneg_left (by omega) (by omega)
      omega
  by_cases z1 : g = 1
  · exact .inl z1
  · by_cases z2 : c = 1
    · rw [z2] at hc
      exact .inr (by omega)
    · exfalso
      by_cases z : g * g ≤ p
      · have := primeB_no (k := g) (by omega) z (Int.emod_eq_zero_of_dvd ⟨c, hc⟩)
        rw [hp] at this
        cases this
      · have hcg : c ≤ g := by
          by_cases y : c ≤ g
          · exact y
          · have : g * g ≤ g * c := Int.mul_le_mul_of_nonneg_left (by omega) (by omega)
            omega
        have : c * c ≤ g * c := Int.mul_le_mul_of_nonneg_right hcg (by omega)
        have := primeB_no (k := c) (n := p) (by omega) (by omega) (Int.emod_eq_zero_of_dvd ⟨g, by rw [hc, Int.mul_comm]⟩)
        rw [hp] at this
        cases this
theorem primeB_gcd {p b : Int} (hp : primeB p = true) (h : b % p ≠ 0) : Int.gcd b p = 1 := by
  have lo := primeB_lo hp
  have h0 : Int.gcd b p ≠ 0 := fun e => by
    have := Int.gcd_dvd_right b p
    rw [e] at this
    have := Int.zero_dvd.mp this
    omega
  rcases primeB_div hp (Int.gcd_dvd_right b p) (by omega) with e | e
  · omega
  · have hd := Int.gcd_dvd_left b p
    rw [e] at hd
    exact absurd (Int.emod_eq_zero_of_dvd hd) h
theorem dvd_left_of {p a b : Int} (d : p ∣ a * b) (h : Int.gcd p b = 1) : p ∣ a := by
  rw [← Int.natAbs_dvd_natAbs] at d ⊢
  rw [Int.natAbs_mul] at d
  rw [Int.gcd_eq_natAbs_gcd_natAbs] at h
  exact Nat.Coprime.dvd_of_dvd_mul_right h d
/-! ### Euclid's rows -/
structure EInv (m n ab l fa f t ta s : Int) : Prop where
  hl : l = f * n + t * m
  ha : ab = fa * n + ta * m
  hs : f * ta - fa * t = s
  sg : s = 1 ∨ s = -1
  l0 : 0 ≤ l
  la : l < ab
  am : ab ≤ m
  f1 : 1 ≤ s * f
  fa0 : s * fa ≤ 0
theorem EInv.tot {m n ab l fa f t ta s : Int} (h : EInv m n ab l fa f t ta s) : s * f * ab + (-(s * fa)) * l = m := by
  obtain ⟨hl, ha, hs, sg, _⟩ := h
  have e1 : f * ab - fa * l = m * s := by
    rw [ha, hl]
    grind
  rcases sg with rfl | rfl
  · grind
  · grind
theorem EInv.step {m n ab l fa f t ta s : Int} (h : EInv m n ab l fa f t ta s) (hl : 0 < l) : EInv m n l (ab - ab / l * l) f (fa - ab / l * f) (ta - ab / l * t) t (-s) := by
  obtain ⟨h1, h2, h3, sg, l0, la, am, f1, fa0⟩ := h
  have e := Int.emod_add_ediv_mul ab l
  have m0 := Int.emod_nonneg ab (show l ≠ 0 by omega)
  have m1 := Int.emod_lt_of_pos ab hl
  have q1 : 1 ≤ ab / l := by
    have := Int.ediv_le_ediv hl (show l ≤ ab by omega)
    rw [Int.ediv_self (by omega)] at this
    exact this
  refine ⟨?_, h1, ?_, ?_, by omega, by omega, by omega, ?_, ?_⟩
  · generalize ab / l = q at *
    grind
  · generalize ab / l = q at *
    grind
  · rcases sg with rfl | rfl
    · exact .inr rfl
    · exact .inl rfl
  · have : 1 * 1 ≤ ab / l * (s * f) := Int.mul_le_mul q1 f1 (by decide) (by omega)
    generalize ab / l = q at *
    have e2 : -s * (fa - q * f) = -(s * fa) + q * (s * f) := by grind
    rw [e2]
    omega
  · rw [Int.neg_mul]
    omega
theorem EInv.size {m n ab l fa f t ta s : Int} (h : EInv m n ab l fa f t ta s) : f.natAbs ≤ m.natAbs ∧ (0 < l → fa.natAbs ≤ m.natAbs) := by
  have tot := h.tot
  obtain ⟨_, _, _, sg, l0, la, am, f1, fa0⟩ := h
  have a1 : s * f * 1 ≤ s * f * ab := Int.mul_le_mul_of_nonneg_left (by omega) (by omega)
  have a2 : 0 ≤ -(s * fa) * l := Int.mul_nonneg (by omega) l0
  refine ⟨?_, fun hl => ?_⟩
  · rcases sg with rfl | rfl <;> omega
  · have a3 : -(s * fa) * 1 ≤ -(s * fa) * l := Int.mul_le_mul_of_nonneg_left (by omega) (by omega)
    rcases sg with rfl | rfl <;> omega
def Row (m n k l f : Int) : Prop := ∃ ab fa t ta s : Int, EInv m n ab l fa f t ta s ∧ l ≤ k ∧ (k < ab ∨ (f = 1 ∧ fa = 0 ∧ ab = m))
theorem row_inv {p a l f : Int} (h : Row p (a % p) 1 l f) (hp : 1 < p) (hg : Int.gcd a p = 1) : l = 1 ∧ f % p * a % p = 1 := by
  obtain ⟨ab, fa, t, ta, s, I, hk, hx⟩ := h
  have tot := I.tot
  have hl0 := I.l0
  have hg2 : Int.gcd p (a % p) = 1 := by rw [gcd_step, hg]
  have l1 : l = 1 := by
    by_cases z : l = 1
    · exact z
    · exfalso
      have z : l = 0 := by omega
      subst z
      have e := I.hl
      have d : p ∣ f * (a % p) := ⟨-t, by rw [Int.mul_neg, Int.mul_comm p t]; omega⟩
      have df : p ∣ f := dvd_left_of d hg2
      obtain ⟨c, hc⟩ := df
      have f1 := I.f1
      have sfp : p ≤ s * f := by
        refine Int.le_of_dvd (by omega) ⟨s * c, ?_⟩
        rw [hc]
        grind
      rw [Int.mul_zero, Int.add_zero] at tot
      rcases hx with h | ⟨rfl, _, _⟩
      · have : s * f * 2 ≤ s * f * ab := Int.mul_le_mul_of_nonneg_left (by omega) (by omega)
        omega
      · rcases I.sg with rfl | rfl <;> omega
  refine ⟨l1, ?_⟩
  have e := I.hl
  rw [l1] at e
  have h1 : f % p * a % p = f * (a % p) % p := by
    rw [Int.mul_emod, Int.emod_emod_of_dvd f (Int.dvd_refl p), ← Int.mul_emod, Int.mul_emod f (a % p), Int.emod_emod_of_dvd a (Int.dvd_refl p), ← Int.mul_emod]
  rw [h1, show f * (a % p) = 1 + p * (-t) by rw [Int.mul_neg, Int.mul_comm p t]; omega, Int.add_mul_emod_self_left]
  exact Int.emod_eq_of_lt (by decide) hp
/-! ### the rest of a fraction by a prime -/
def restI (t b p : Int) : Int := ((irng 0 p).find? fun r => decide ((r * b - t) % p = 0)).getD 0
def restD (t b p : Int) : PyData := if b % p = 0 then .none else .int (restI t b p)
theorem restI_eq {t b p r : Int} (hg : Int.gcd b p = 1) (r0 : 0 ≤ r) (r1 : r < p) (h : (r * b - t) % p = 0) : restI t b p = r := by
  unfold restI
  cases e : (irng 0 p).find? fun r => decide ((r * b - t) % p = 0) with
  | none =>
    have := List.find?_eq_none.mp e r (irng_mem.mpr ⟨r0, r1⟩)
    rw [decide_eq_true h] at this
    exact absurd rfl this
  | some x =>
    have h1 := List.find?_some e
    have h1 : (x * b - t) % p = 0 := of_decide_eq_true h1
    obtain ⟨x0, x1⟩ := irng_mem.mp (List.mem_of_find?_eq_some e)
    have d : p ∣ (x - r) * b := by
      have d1 := Int.dvd_sub (Int.dvd_of_emod_eq_zero h1) (Int.dvd_of_emod_eq_zero h)
      have : x * b - t - (r * b - t) = (x - r) * b := by grind
      rw [this] at d1
      exact d1
    have d2 : p ∣ x - r := dvd_left_of d (by rw [Int.gcd_comm]; exact hg)
    obtain ⟨c, hc⟩ := d2
    show x = r
    rcases Int.lt_trichotomy c 0 with z | z | z
    · have : p * c ≤ p * (-1) := Int.mul_le_mul_of_nonneg_left (by omega) (by omega)
      omega
    · rw [z] at hc
      omega
    · have : p * 1 ≤ p * c := Int.mul_le_mul_of_nonneg_left (by omega) (by omega)
      omega
theorem rest_ok {t b p i : Int} (hp : primeB p = true) (hb : b % p ≠ 0) (hi : i * b % p = 1) : restD t b p = .int (t * i % p) ∧ 0 ≤ t * i % p ∧ t * i % p < p ∧ (t * i % p * b - t) % p = 0 := by
  have lo := primeB_lo hp
  have r0 := Int.emod_nonneg (t * i) (show p ≠ 0 by omega)
  have r1 := Int.emod_lt_of_pos (t * i) (show 0 < p by omega)
  have h : (t * i % p * b - t) % p = 0 := by
    have e1 := Int.emod_add_mul_ediv (t * i) p
    have e2 := Int.emod_add_mul_ediv (i * b) p
    rw [hi] at e2
    generalize t * i / p = x at e1
    generalize i * b / p = y at e2
    generalize t * i % p = r at e1
    refine Int.emod_eq_zero_of_dvd ⟨t * y - x * b, ?_⟩
    grind
  refine ⟨?_, r0, r1, h⟩
  unfold restD
  rw [if_neg hb, restI_eq (primeB_gcd hp hb) r0 r1 h]
def dI0 : PyData → Int
  | .int i => i
  | _ => 0
theorem flt_ints (f : Int → Bool) (F : PyData → Bool) (h : ∀ n, F (.int n) = f n) (g : PyData → PyData) (hg : ∀ n, g (.int n) = .int n) : ∀ ns : List Int, ((ns.map PyData.int).filter F).map g = (ns.filter f).map PyData.int
  | [] => rfl
  | n :: ns => by
    rw [List.map_cons, List.filter_cons, List.filter_cons, h]
    cases f n with
    | true => simp only [if_true, List.map_cons]; rw [flt_ints f F h g hg ns, hg]
    | false => simp only [Bool.false_eq_true, if_false]; exact flt_ints f F h g hg ns
/-! ### what is sure to be there: a number that times another leaves 1 -/
theorem bez : ∀ (n : Nat) (a b : Int), 0 ≤ b → b.toNat ≤ n → ∃ x y : Int, a * x + b * y = (Int.gcd a b : Int)
  | 0, a, b, h0, h1 => by
    have e : b = 0 := by omega
    subst e
    rw [Int.gcd_zero_right]
    rcases Int.natAbs_eq a with z | z
    · exact ⟨1, 0, by omega⟩
    · exact ⟨-1, 0, by omega⟩
  | n + 1, a, b, h0, h1 => by
    by_cases z : b = 0
    · exact bez 0 a b h0 (by omega)
    · have m0 := Int.emod_nonneg a z
      have m1 := Int.emod_lt_of_pos a (show 0 < b by omega)
      obtain ⟨x, y, e⟩ := bez n b (a % b) m0 (by omega)
      rw [gcd_step] at e
      refine ⟨y, x - a / b * y, ?_⟩
      rw [← e]
      have := Int.emod_add_mul_ediv a b
      generalize a % b = r at *
      generalize a / b = q at *
      grind
theorem inv_ex {b p : Int} (hp : 1 < p) (hg : Int.gcd b p = 1) : ∃ i : Int, i * b % p = 1 := by
  obtain ⟨x, y, e⟩ := bez p.toNat b p (by omega) (Nat.le_refl _)
  rw [hg] at e
  refine ⟨x, ?_⟩
  rw [show x * b = 1 + p * (-y) by grind, Int.add_mul_emod_self_left]
  exact Int.emod_eq_of_lt (by decide) hp
theorem restD_ok {t b p : Int} (hp : primeB p = true) (hb : b % p ≠ 0) : ∃ r : Int, restD t b p = .int r ∧ 0 ≤ r ∧ r < p ∧ (r * b - t) % p = 0 := by
  have lo := primeB_lo hp
  obtain ⟨i, hi⟩ := inv_ex (by omega) (primeB_gcd hp hb)
  obtain ⟨h1, h2, h3, h4⟩ := rest_ok (t := t) hp hb hi
  exact ⟨_, h1, h2, h3, h4⟩
theorem restD_none {t b p : Int} (hb : b % p = 0) : restD t b p = .none := by
  unfold restD
  rw [if_pos hb]
/-! ### lists of drawn primes -/
def PrL (H : Hp) (a : Addr) (m : Nat) : Prop := ∃ qs : List Int, H a = some (.lst (qs.map V.int)) ∧ qs.length ≤ m ∧ ∀ x ∈ qs, x ∈ primesL
theorem PrL.up {H H' : Hp} {a : Addr} {m : Nat} (h : PrL H a m) (e : Ex H H') : PrL H' a m := by
  obtain ⟨qs, h1, h2, h3⟩ := h
  exact ⟨qs, e _ _ h1, h2, h3⟩
theorem PrL.dr {H H' : Hp} {a B : Addr} {m : Nat} (h : PrL H a m) (n : a ≠ B) (e : ExB B H H') : PrL H' a m := by
  obtain ⟨qs, h1, h2, h3⟩ := h
  exact ⟨qs, e _ _ n h1, h2, h3⟩
theorem PrL.less {H : Hp} {a : Addr} {m k : Nat} (h : PrL H a m) (l : m ≤ k) : PrL H a k := by
  obtain ⟨qs, h1, h2, h3⟩ := h
  exact ⟨qs, h1, by omega, h3⟩
theorem PoolB.ne {H : Hp} {pa p : Addr} {n : Nat} (h : PoolB H pa n) (hp : H p = none) : p ≠ pa := fun z => by
  obtain ⟨xs, hx⟩ := h.isL
  rw [z, hx] at hp
  cases hp
theorem cut_map (qs : List Int) (lo hi : Option Int) : ∃ rs : List Int, cutV (qs.map V.int) lo hi = rs.map V.int ∧ rs.length ≤ qs.length ∧ ∀ x ∈ rs, x ∈ qs := by
  unfold cutV
  rw [← List.map_drop, ← List.map_take]
  refine ⟨_, rfl, ?_, fun x hx => List.mem_of_mem_drop (List.mem_of_mem_take hx)⟩
  rw [List.length_take, List.length_drop]
  omega
theorem atI_of {α : Type} {xs : List α} {x : Int} {v : α} (h0 : 0 ≤ x) (h : xs[x.toNat]? = some v) : atI xs x = some v := by
  have e : x = ((x.toNat : Nat) : Int) := by omega
  rw [e]
  exact atI_nat (j := x.toNat) h
/-! ### one piece of a reading at its head -/
theorem gName_app {i : Nat} {v : V} {σ : L2.St} {H : Hp} {Q : L2.St → Hp → Prop} : gName i v σ H Q = Q (σ.set i (some v)) H := rfl
theorem go_asg {te : TE} {i : Nat} {tz : TS} {D : Ends} {σ : L2.St} {H : Hp} (h : te σ H fun x H1 => tz D (σ.set i (some x)) H1) : tSeq (tAsg te (gName i)) tz D σ H := h
theorem go_asgL {te : TE} {i : Nat} {D : Ends} {σ : L2.St} {H : Hp} (h : te σ H fun x H1 => D.nx (σ.set i (some x)) H1) : tAsg te (gName i) D σ H := h
theorem go_cons {te : TE} {tr : TA} {σ : L2.St} {H : Hp} {Q : List V → Hp → Prop} (h : te σ H fun x H1 => tr σ H1 fun xs H2 => Q (x :: xs) H2) : tCons te tr σ H Q := h
theorem go_cb {te : TE} {r : List V → Hp → VK → Prop} {σ : L2.St} {H : Hp} {Q : VK} (h : te σ H fun x H1 => r [x] H1 Q) : tCB r (tCons te tNil) σ H Q := h
/-- a drawn fraction -/
def FracOk (t b : Int) : Prop := 1 ≤ b ∧ b < 1000000000000000000000000000000 ∧ t < 1000000000000000000000000000000 ∧ -1000000000000000000000000000000 < t ∧ Int.gcd t b = 1
/-! ### whole numbers below a limit, primes from 3 to 97, degrees -/
def dBelow (m : Int) : PyData → Bool
  | .int r => decide (0 ≤ r) && decide (r < m)
  | _ => false
theorem dBelow_of {m r : Int} (h0 : 0 ≤ r) (h1 : r < m) : dBelow m (.int r) = true := by
  show (decide (0 ≤ r) && decide (r < m)) = true
  rw [decide_eq_true h0, decide_eq_true h1]
  rfl
theorem dBelow_get {m : Int} {d : PyData} (h : dBelow m d = true) : ∃ r : Int, d = .int r ∧ 0 ≤ r ∧ r < m := by
  cases d with
  | int r =>
    obtain ⟨h1, h2⟩ := Bool.and_eq_true_iff.mp (show (decide (0 ≤ r) && decide (r < m)) = true from h)
    exact ⟨r, rfl, of_decide_eq_true h1, of_decide_eq_true h2⟩
  | _ => exact nomatch h
def dField : PyData → Bool
  | .int n => primeB n && decide (3 ≤ n) && decide (n ≤ 97)
  | _ => false
theorem dField_get {d : PyData} (h : dField d = true) : ∃ n : Int, d = .int n ∧ primeB n = true ∧ 3 ≤ n ∧ n ≤ 97 := by
  cases d with
  | int n =>
    obtain ⟨h1, h3⟩ := Bool.and_eq_true_iff.mp (show (primeB n && decide (3 ≤ n) && decide (n ≤ 97)) = true from h)
    obtain ⟨h1, h2⟩ := Bool.and_eq_true_iff.mp h1
    exact ⟨n, rfl, h1, of_decide_eq_true h2, of_decide_eq_true h3⟩
  | _ => exact nomatch h
def dDegs : PyData → Bool
  | .tuple [a, b] => dBelow 5 a && dBelow 5 b
  | _ => false
theorem dDegs_pair {d : PyData} (h : dPair d = false) : dDegs d = false := by
  match d, h with
  | .tuple [], _ => simp [dDegs]
  | .tuple [_], _ => simp [dDegs]
  | .tuple [_, _], h => exact nomatch h
  | .tuple (_ :: _ :: _ :: _), _ => simp [dDegs]
  | .none, _ => rfl
  | .bool _, _ => rfl
  | .int _, _ => rfl
  | .str _, _ => rfl
  | .list _, _ => rfl
  | .dict _, _ => rfl
/-- the primes from 3 to 97, as the laws write them -/
def fieldL : List Int := [3, 5, 7, 11, 13, 17, 19, 23, 29, 31, 37, 41, 43, 47, 53, 59, 61, 67, 71, 73, 79, 83, 89, 97]
theorem fieldL_ok : ∀ p ∈ fieldL, dField (.int p) = true := by decide +kernel
theorem fieldL_len : fieldL.length = 24 := rfl
theorem fieldL_get {x : Int} (h0 : 0 ≤ x) (h : x < 24) : ∃ p, atI (fieldL.map V.int) x = some (.int p) ∧ p ∈ fieldL := by
  have h2 : x.toNat < fieldL.length := by rw [fieldL_len]; omega
  refine ⟨fieldL[x.toNat], ?_, List.getElem_mem h2⟩
  refine atI_of h0 ?_
  rw [List.getElem?_map, List.getElem?_eq_getElem h2]
  rfl
/-! ### repr of data: what stands in the model's heap -/
section
variable {X : Cx} {pins : List (Addr × Obj)} {σ : L2.St} {H : Hp} {s : Shared}
theorem kv_reads {h : Heap} : ∀ (ns : List (Int × Option Int)) (es : List DictEntry) (ws : List (Key × Value)), KV (ns.map fun p => ((Sum.inl p.1 : Key), oV p.2)) ws → Pairs (mixKind X.prog X.w) es ws →
    ReadsAll h (es.map (·.key)) (ns.map fun p => PyData.int p.1) [] ∧ ReadsAll h (es.map (·.val)) (ns.map fun p => oD p.2) []
  | [], _, _, .nil, .nil => ⟨.nil, .nil⟩
  | _ :: _, [], _, hk, hp => by
    cases hp
    exact nomatch hk
  | (a, b) :: ns, e :: es, kv :: ws, .cons r rs, .cons hk hv ps => by
    obtain ⟨i1, i2⟩ := kv_reads (h := h) ns es ws rs ps
    obtain ⟨r1, r2⟩ := r
    have k1 : keyIs kv.1 e.key = true := hk
    rw [← r1] at k1
    rcases keyIs_shape k1 with ⟨i, t2, e1, e2⟩ | ⟨x, t2, e1, _⟩
    · have e1 : a = i := Sum.inl.inj e1
      subst e1
      refine ⟨?_, ?_⟩
      · show ReadsAll h (e.key :: es.map (·.key)) (PyData.int a :: ns.map fun p => PyData.int p.1) ([] ++ [])
        rw [e2]
        exact .cons (.int a t2) i1
      · show ReadsAll h (e.val :: es.map (·.val)) (oD b :: ns.map fun p => oD p.2) ([] ++ [])
        rw [hv]
        cases b with
        | none =>
          rw [show kv.2 = Value.none from r2]
          exact .cons .none i2
        | some b =>
          obtain ⟨t, r2⟩ := r2
          rw [r2]
          exact .cons (.int b t) i2
    · exact nomatch e1
mutual
theorem Dt.reads (I : Inv X pins σ H s) : ∀ (d : PyData) (v : V) (u : Value), Dt H v d → RelV v u → ∃ as, Reads s.heap u d as ∧ (noL d = true → sysModules ∉ as)
  | .none, _, _, h, r => by
    cases h
    cases r
    exact ⟨_, .none, fun _ z => nomatch z⟩
  | .bool b, _, _, h, r => by
    cases h
    cases r
    exact ⟨_, .bool b, fun _ z => nomatch z⟩
  | .int i, _, _, h, r => by
    cases h
    obtain ⟨t, rfl⟩ := r
    exact ⟨_, .int i t, fun _ z => nomatch z⟩
  | .str x, _, _, h, r => by
    cases h
    obtain ⟨t, rfl⟩ := r
    exact ⟨_, .str x t, fun _ z => nomatch z⟩
  | .list ds, _, _, h, r => by
    cases h with
    | lst hs ha =>
      cases r
      obtain ⟨its, rv, ⟨o, n, ho, hc, _, hd⟩, _⟩ := I.list (sq_of hs)
      obtain ⟨as, hr, _⟩ := DtAll.reads I ds _ its ha rv
      exact ⟨_, .list ho hc hd hr, fun z => nomatch z⟩
  | .tuple ds, _, _, h, r => by
    cases h with
    | tup hs ha =>
      cases r
      obtain ⟨its, rv, ⟨o, ho, hc, n, hd⟩, _⟩ := I.tuple (st_of hs)
      obtain ⟨as, hr, hn⟩ := DtAll.reads I ds _ its ha rv
      exact ⟨_, .tuple ho hc hd hr, hn⟩
  | .dict _, _, _, h, r => by
    cases h with
    | @dic a ns hs =>
      cases r
      obtain ⟨_, hsm, ws, kv, o, es, ep, h1, h2, h3, _, h5, _⟩ := (show ObjOk X.prog X.w H s.heap a (.dK (ns.map fun p => ((Sum.inl p.1 : Key), oV p.2))) from I.hok a _ hs)
      obtain ⟨q1, q2⟩ := kv_reads (X := X) (h := s.heap) _ _ _ kv h5
      refine ⟨_, .dict (kvs := ns.map fun p => (PyData.int p.1, oD p.2)) h1 h2.1 h3 (by rw [List.map_map]; exact q1) (by rw [List.map_map]; exact q2), fun _ z => ?_⟩
      have z : sysModules ∈ [a] := z
      have z := List.mem_singleton.mp z
      rw [← z] at hsm
      exact absurd hsm (by simp)
theorem DtAll.reads (I : Inv X pins σ H s) : ∀ (ds : List PyData) (vs : List V) (us : List Value), DtAll H vs ds → Vals vs us → ∃ as, ReadsAll s.heap us ds as ∧ (noLs ds = true → sysModules ∉ as)
  | [], _, _, h, r => by
    cases h
    cases r
    exact ⟨_, .nil, fun _ z => nomatch z⟩
  | d :: ds, _, _, h, r => by
    cases h with
    | cons h1 h2 =>
      cases r with
      | cons r1 r2 =>
        obtain ⟨as, q1, n1⟩ := Dt.reads I d _ _ h1 r1
        obtain ⟨bs, q2, n2⟩ := DtAll.reads I ds _ _ h2 r2
        refine ⟨_, .cons q1 q2, fun z m => ?_⟩
        obtain ⟨z1, z2⟩ := Bool.and_eq_true_iff.mp (show (noL d && noLs ds) = true from z)
        rcases List.mem_append.mp m with m | m
        · exact n1 z1 m
        · exact n2 z2 m
end
/-- what may be shown: sizes, and no list beside a dict -/
structure Shows (d : PyData) : Prop where
  sh : d.showable = true
  dp : d.depth ≤ 60
  ln : d.shown.length ≤ sizeLine
  dl : d.hasDict = true → noL d = true
def rRepr : List V → Hp → VK → Prop := fun xs H Q => ∃ v d, xs = [v] ∧ Dt H v d ∧ Shows d ∧ Q (.str d.shown) H
theorem call_reprD (hG : X.A.guards = some []) (hu : X.A.units + 64 < cLine) : CallR X (.builtin "repr") rRepr := by
  intro pins s σ H xs us Q I r h
  obtain ⟨v, d, rfl, hd, hs, q⟩ := h
  obtain ⟨u, rfl, rv⟩ := vals1 r
  have fin : ∀ (a : Addr), v = .ref a → wpAny (model X.prog X.w) X.A (call (.builtin "repr") [u]) (EP X pins σ Q) X.xe s := fun a e => by
    subst e
    have e2 : u = Value.ref a := rv
    subst e2
    obtain ⟨as, hr, hn⟩ := Dt.reads I d _ _ hd rv
    have := hs.dp
    refine repr_of_reads' hr hs.sh (fun z => hn (hs.dl z)) hG (by omega) (fun _ _ z => z) (fun h' t tk hk => ?_) hs.ln
    exact ⟨.str d.shown, H, I.kept (t' := tk) hk, ⟨t, rfl⟩, q⟩
  cases hd with
  | non =>
    cases (show u = Value.none from rv)
    exact PySem.P.repr_of_none ⟨.str _, H, I.tok _, ⟨_, rfl⟩, q⟩
  | bl b =>
    cases (show u = Value.bool b from rv)
    exact PySem.P.repr_of_bool ⟨.str _, H, I.tok _, ⟨_, rfl⟩, q⟩
  | int i =>
    obtain ⟨t, rfl⟩ := (show ∃ t, u = Value.int i t from rv)
    exact PySem.P.repr_of_int (of_decide_eq_true hs.sh) ⟨.str _, H, I.tok _, ⟨_, rfl⟩, q⟩
  | str x =>
    obtain ⟨t, rfl⟩ := (show ∃ t, u = Value.str x t from rv)
    exact PySem.P.repr_of_str ⟨.str _, H, I.tok _, ⟨_, rfl⟩, q⟩ hs.ln
  | lst a b => exact fin _ rfl
  | tup a b => exact fin _ rfl
  | dic a => exact fin _ rfl
end
/-! ### defs that are called where no repr is under way -/
structure FnG (P : Program) (w : World) (K : PySem.W.Frag) (mg : Str → Option Value) (base : Heap) (CX : CXT) (k : Nat) (f : Addr) (fd : FuncData) (ps : List Str) (sp : Sp) : Prop where
  len : ∀ vs H Q E, sp vs H Q E → vs.length = ps.length
  go : ∀ (A : Around) (out : List Env) (s : Shared) (H : Hp) (ar : Args) (us : List Value) (vs : List V) (Q : VK) (E : XK), A.guards = some [] → Room k A → Env0 P w K mg base A out s H →
    BindsTo s fd ar (ps.zip us) → Vals vs us → sp vs H Q E → codeAny (model P w) A (.call (.ref f) ar) (CR CX out P w H s Q E) s
section
variable {P : Program} {w : World} {K : PySem.W.Frag} {mg : Str → Option Value} {base : Heap} {x qual : Str} {params : Arguments} {body : List Stmt} {scope : Scope} {dvs : List V} {kws : List (Str × V)} {f : Addr} {fd : FuncData}
theorem okG {CX : CXT} {N ps : List Str} {k : Nat} {sp : Sp} (F : FunD K x qual params body scope dvs kws f fd) (S : FnScope N ps scope) (len : ∀ vs H Q E, sp vs H Q E → vs.length = ps.length)
    (hbody : ∀ (cdv : Value) (A : Around) (outer : List Env) (s : Shared) (H : Hp) (vs : List V) (Q : VK) (E : XK), A.guards = some [] → Room k (A.deeper (envOfC qual scope s.heap.objs.size f cdv)) → sp vs H Q E →
      ∃ t, PSs (cxOf CX P w K mg base N qual scope f cdv A outer s H E) body t ∧ t { nx := fun _ H' => Q .non H', rt := Q } (start N vs) H) : FnG P w K mg base CX (k + 1) f fd ps sp := by
  obtain ⟨oc, od, dV, kV, doc, pm, an, cdv, ct, osl, rfl, lk, hcd, _, _⟩ := F.ex
  refine ⟨len, fun A out s H ar us vs Q E hG hr e0 hb rv hs => ?_⟩
  have keep : ∀ b o, base.get? b = some o → s.heap.get? b = some o := fun b o e => (e0.bs b o e).1
  have KX := e0.mod.kin.keeps keep
  have kinds : ∀ y ∈ ps.zip us, scope.names.lookup y.1 = some .local ∨ (scope.names.lookup y.1 = some .cell ∧ ((cellsFrom (s.heap.objs.size + 1) scope.names []).lookup y.1).isSome = true) := by
    rintro ⟨n, v⟩ hy
    rcases S.par n (List.of_mem_zip hy).1 with c | c
    · exact .inl c
    · exact .inr ⟨c, PySem.W.cellsFrom_some _ _ _ (.inl c)⟩
  refine codeAny_call_function hr.depth (KX _ _ lk) rfl S.co S.gen rfl (PySem.W.codeRec_of KX hcd) (hb _ _ _ _ (wpAny_newFunctionEnv_cells S.kind kinds fun env he s1 x1 => ?_))
  subst he
  obtain ⟨t, ht, hq⟩ := hbody cdv A out s H vs Q E hG (hr.deeper _) hs
  refine ⟨(e0.mod.nolimit.keeps keep).keeps x1.toInCall.keep, codeAny_func ?_⟩
  refine wpAny_mono (ht.run [] s1 (start N vs) H _ (inv_start S hr.hd e0 (len _ _ _ _ hs) rv x1) hq) (fun fl s2 h2 => ?_) fun _ _ z => z
  cases fl with
  | ret u =>
    obtain ⟨v, σ2, H2, J, r2, q2⟩ := h2
    exact ⟨v, H2, J.os, J.bare, J.base, J.hok, r2, q2⟩
  | next =>
    obtain ⟨σ2, H2, J, q2⟩ := h2
    exact ⟨.non, H2, J.os, J.bare, J.base, J.hok, rfl, q2⟩
  | brk =>
    obtain ⟨_, _, _, z⟩ := h2
    exact z.elim
  | cont =>
    obtain ⟨_, _, _, z⟩ := h2
    exact z.elim
end
section
variable {X : Cx} {CX : CXT} {k : Nat} {f : Addr} {fd : FuncData} {ps : List Str} {sp : Sp} {dvs : List V} {ds : List Value} {E : XK} {x : Str} {p pos : Pos} {e : Expr} {es : List Expr} {t : TA}
theorem goG {pins : List (Addr × Obj)} {σ : L2.St} {H : Hp} {s : Shared} {Q : VK} {us : List Value} {vs : List V} (F : FnG X.prog X.w X.K X.mg X.base CX k f fd ps sp) (hG : X.A.guards = some []) (hr : Room k X.A) (hb : Binds X.K fd ps ds) (hd : Vals dvs ds) (hx : Passes CX X E)
    (I : Inv X pins σ H s) (r : Vals vs us) (h : sp (vs ++ dvs) H Q E) : wpAny (model X.prog X.w) X.A (call (.ref f) us) (EP X pins σ Q) X.xe s := by
  have rr : Vals (vs ++ dvs) (us ++ ds) := r.append hd
  have ll : (us ++ ds).length = ps.length := rr.length.symm.trans (F.len _ _ _ _ h)
  refine wpAny_call (codeAny_mono (F.go X.A X.stack s H ⟨us, []⟩ (us ++ ds) (vs ++ dvs) Q E hG hr I.env0 (hb s us I.kIn ll) rr h) fun res s2 h2 => ?_)
  match res, h2 with
  | .error er, h2 => exact hx pins σ H s er s2 I h2
  | .ok (.ret u), h2 => exact I.after h2
  | .ok .next, h2 => exact h2.elim
  | .ok .brk, h2 => exact h2.elim
  | .ok .cont, h2 => exact h2.elim
theorem pe_callG (F : FnG X.prog X.w X.K X.mg X.base CX k f fd ps sp) (hG : X.A.guards = some []) (hr : Room k X.A) (hg : Gl X x) (hm : X.mg x = some (.ref f)) (hk : PySem.W.keepIn X.K (.ref f) = true) (hb : Binds X.K fd ps ds) (hd : Vals dvs ds) (hx : Passes CX X E) (ha : PA X (e :: es) t)
    (hdb : (x == ("__debug__" : Str)) = false := by decide) (he : starEach (e :: es) X.env = (false, eval e X.env) :: starEach es X.env := by rfl) (hpl : (backTo pos (starEach es X.env)).any (·.1) = false := by rfl) :
    PE X (.Call (.Name x p) (e :: es) [] pos) (tCall sp dvs E t) := ⟨fun pins s σ H Q I h =>
  wpAny_Call_Name_kw (ld_glob I hg hm (PySem.W.callWith_K (h₀ := X.base) I.ok.mod.kin hk (thn (ha.run pos pins s σ H _ I h) fun _ _ ⟨_, _, I1, r, q⟩ => ⟨I1.kIn, goG F hG hr hb hd hx I1 r q⟩) he hpl) hdb)⟩
theorem pe_callG0 (F : FnG X.prog X.w X.K X.mg X.base CX k f fd ps sp) (hG : X.A.guards = some []) (hr : Room k X.A) (hg : Gl X x) (hm : X.mg x = some (.ref f)) (hk : PySem.W.keepIn X.K (.ref f) = true) (hb : Binds X.K fd ps ds) (hd : Vals dvs ds) (hx : Passes CX X E)
    (hdb : (x == ("__debug__" : Str)) = false := by decide) : PE X (.Call (.Name x p) [] [] pos) (tCall sp dvs E tNil) := ⟨fun pins s σ H Q I h =>
  wpAny_Call_Name_kw (ld_glob I hg hm (PySem.W.callWith_K0 I.kIn hk (goG (us := []) F hG hr hb hd hx I .nil h)) hdb)⟩
end
/-! ### the law's own call -/
theorem law_go {P : Program} {w : World} {K : PySem.W.Frag} {mg mb : Str → Option Value} {k : Nat} {fa a : Addr} {fd : FuncData} {x : Str} {sp : Sp} {s1 : Shared} {vs : List Value} {ns : List Int} (KX : K.In s1.heap) (hns : s1.heap.Ns mainGlobals mg)
    (hb : s1.heap.Ns builtinsNs mb) (hbb : ∀ x : Str, x ≠ "__name__" → mb x = bootBuiltins x) (hlim : s1.heap.NoLimit) (hg : s1.gens = #[]) (ha : s1.heap.get? a = some { cls := .type "list", data := .seq vs.toArray }) (hi : IntsAre vs ns) (hl : ns.length ≤ sizeLine) (hr : Room k callerA)
    (F : ∀ base : Heap, K.In base → base.Ns mainGlobals mg → FnG P w K mg base CX0 k fa fd [x] sp) (hbind : ∀ (s : Shared) (u : Value), BindsTo s fd ⟨[u], []⟩ [(x, u)])
    (hsp : ∀ H : Hp, Only H → SqL K H a (ns.map V.int) → sp [.ref a] H (fun v _ => v = .bl true) fun _ _ _ => False) :
    codeAny (model P w) callerA (.call (.ref fa) ⟨[.ref a], []⟩) (fun r s2 => r = .ok (.ret (.bool true)) ∧ OldK s1.heap s2.heap ∧ s2.os = s1.os ∧ AllBare s2.gens) s1 := by
  have rv := vals_ints hi
  have lenV := hi.length
  have main : ∀ H : Hp, Only H → SqL K H a (ns.map V.int) → HOk P w H s1.heap → (∀ b, H b ≠ none → b = a) → (H a ≠ none → K.lookup a = none) →
      codeAny (model P w) callerA (.call (.ref fa) ⟨[.ref a], []⟩) (fun r s2 => r = .ok (.ret (.bool true)) ∧ OldK s1.heap s2.heap ∧ s2.os = s1.os ∧ AllBare s2.gens) s1 := by
    intro H hO hS hok only hK
    have free : ∀ {b : Addr}, b ≠ a → H b = none := fun {b} z => by
      cases q : H b with
      | none => rfl
      | some u => exact absurd (only b (by rw [q]; exact Option.some_ne_none u)) z
    have dictFree : ∀ {b : Addr} {o : Obj} {es : Array DictEntry} {ep : Nat}, s1.heap.get? b = some o → o.data = .dict es ep → H b = none := fun {b o es ep} e d => free fun z => by
      rw [z, ha] at e
      cases e
      exact Data.noConfusion d
    have nsH : ∀ {b : Addr} {m : Str → Option Value}, s1.heap.Ns b m → (hidT s1.heap H).Ns b m := fun {b m} ⟨o, es, ep, e, d, r⟩ => ⟨o, es, ep, hidT_get e (dictFree e d), d, r⟩
    have KH : K.In (hidT s1.heap H) := fun b o e => hidT_get (KX b o e) (by
      cases q : H b with
      | none => rfl
      | some u =>
        have z : b = a := only b (by rw [q]; exact Option.some_ne_none u)
        rw [z] at q e
        rw [hK (by rw [q]; exact Option.some_ne_none u)] at e
        cases e)
    have lim : (hidT s1.heap H).NoLimit := by
      obtain ⟨mc, l1, l2⟩ := hlim
      exact ⟨mc, nsH l1, l2⟩
    have e0 : Env0 P w K mg (hidT s1.heap H) callerA [] s1 H := ⟨rfl, ⟨KH, nsH hns, ⟨mb, nsH hb, hbb⟩, lim⟩, fun b o e => of_hidT e, Nat.le_of_eq (hidT_size _ _), trivial, (fun b z => nomatch z), hok, .of_eq hg⟩
    refine codeAny_mono ((F _ KH (nsH hns)).go callerA [] s1 H ⟨[.ref a], []⟩ [.ref a] [.ref a] _ _ rfl hr e0 (hbind s1 (.ref a)) (.cons rfl .nil) (hsp H hO hS)) fun res s2 h2 => ?_
    match res, h2 with
    | .error _, h2 => exact h2.elim
    | .ok .next, h2 => exact h2.elim
    | .ok .brk, h2 => exact h2.elim
    | .ok .cont, h2 => exact h2.elim
    | .ok (.ret u), h2 =>
      obtain ⟨v, H2, os, bare, un, hok2, r2, q2⟩ := h2
      have q2 : v = .bl true := q2
      subst q2
      have r2 : u = Value.bool true := r2
      subst r2
      refine ⟨rfl, OldK.of_keep fun b o e => ?_, os, bare⟩
      rcases hO b with z | ⟨ob, xs, z⟩
      · exact un.keep b o e z (fun y => nomatch y) (fun y => nomatch y)
      · have f2 := un.frzs b ob _ z
        have c1 := (hok b _ z).1
        rw [e] at c1
        rw [Option.some.inj c1]
        exact (hok2 b _ f2).1
  cases hk : K.lookup a with
  | some o =>
    have e := (KX a o hk).symm.trans ha
    cases e
    refine main (fun _ => none) (fun _ => .inl rfl) (.inr ⟨_, vs.toArray, _, hk, rfl, rfl, rfl, ?_, ?_⟩) (fun _ _ z => nomatch z) (fun _ z => absurd rfl z) (fun z => absurd rfl z)
    · rw [List.size_toArray, lenV]
      exact hl
    · simpa using rv
  | none =>
    have at_a : ∀ {o : HO}, (fun b => if b = a then some o else none : Hp) a = some o := if_pos rfl
    refine main (fun b => if b = a then some (.frz { cls := .type "list", data := .seq vs.toArray } (.lst (ns.map V.int))) else none) (fun b => ?_) (.inl (.inr ⟨_, at_a⟩)) (fun b u z => ?_) (fun b z => ?_) (fun _ => hk)
    · by_cases y : b = a
      · exact .inr ⟨_, _, if_pos y⟩
      · exact .inl (if_neg y)
    · by_cases y : b = a
      · subst y
        cases at_a.symm.trans z
        exact ⟨ha, by rw [List.length_map]; exact hl, vs, _, rv, ha⟩
      · exact nomatch (if_neg y).symm.trans z
    · by_cases y : b = a
      · exact y
      · exact absurd (if_neg y) z
theorem walkG {l : PySem.W.OpenLaw} {n k : Nat} {q : Program} {loose : List Str} {XP : (Str → Option Value) → Heap → Prop} {YP : World → Heap → Prop} {d : DefRec} {x : Str} (hn : l.most = some n) (hn2 : n ≤ sizeLine) (hdf : d.params.defaults = []) (hr : Room k callerA)
    (F : ∀ (w : World) (mg : Str → Option Value) (fa : Addr) (h : Heap), YP w h → h.Ns mainGlobals mg → mg d.name = some (.ref fa) → ∃ (K : PySem.W.Frag) (fd : FuncData) (sp : Sp), K.In h ∧ (∀ (s : Shared) (u : Value), BindsTo s fd ⟨[u], []⟩ [(x, u)]) ∧
        (∀ (H : Hp) (a : Addr) (ns : List Int), ns.length ≤ n → Only H → SqL K H a (ns.map V.int) → sp [.ref a] H (fun v _ => v = .bl true) fun _ _ _ => False) ∧ ∀ base : Heap, K.In base → base.Ns mainGlobals mg → FnG l.prog w K mg base CX0 k fa fd [x] sp) :
    PySem.W.WalkO q loose XP YP l.row.toRowW d [] (fun f vs => PySem.call f vs) := by
  refine Att.attach_call hn hdf fun w s0 s1 mg mb fa o pm cd doc a vs ns G Y ho hd hcd hmg hobj hints hlen hg => ?_
  obtain ⟨K, fd, sp, KX, hb, hsp, hF⟩ := F w mg fa _ Y G.T.g hmg
  exact law_go KX G.T.g G.T.b G.T.builtins G.T.nolimit hg hobj hints (Nat.le_trans hlen hn2) hr hF hb (fun H hO hS => hsp H a ns hlen hO hS)
/-! ### how long what is shown is -/
def okS (x : Str) : Prop := ∀ c ∈ x.cps.toList, c < 16 ^ 8
theorem okS_of (z : String) : okS (Str.ofString z) := fun c hc => by
  rw [Str.ofString_eq_toList] at hc
  simp only [List.toList_toArray] at hc
  obtain ⟨a, _, rfl⟩ := List.mem_map.mp hc
  have h : a.toNat < 1114112 := by
    have := a.valid
    unfold Char.toNat
    rcases this with h | ⟨_, h⟩
    · exact Nat.lt_trans h (by decide)
    · exact h
  exact Nat.lt_trans h (by decide)
theorem okS_app {x y : Str} (hx : okS x) (hy : okS y) : okS (x ++ y) := fun c hc => by
  have hc : c ∈ (x.cps ++ y.cps).toList := hc
  rw [Array.toList_append] at hc
  rcases List.mem_append.mp hc with z | z
  · exact hx c z
  · exact hy c z
mutual
def wdt : PyData → Nat
  | .none => 4
  | .bool _ => 5
  | .int _ => 1921
  | .str x => 10 * x.length + 2
  | .list ds => 2 + wdts ds
  | .tuple ds => 3 + wdts ds
  | .dict kvs => 2 + wdtk kvs
def wdts : List PyData → Nat
  | [] => 0
  | d :: ds => wdt d + 2 + wdts ds
def wdtk : List (PyData × PyData) → Nat
  | [] => 0
  | (a, b) :: r => wdt a + wdt b + 4 + wdtk r
end
mutual
def txtOk : PyData → Prop
  | .str x => okS x
  | .list ds => txtOks ds
  | .tuple ds => txtOks ds
  | .dict kvs => txtOkk kvs
  | _ => True
def txtOks : List PyData → Prop
  | [] => True
  | d :: ds => txtOk d ∧ txtOks ds
def txtOkk : List (PyData × PyData) → Prop
  | [] => True
  | (a, b) :: r => txtOk a ∧ txtOk b ∧ txtOkk r
end
theorem from_len : ∀ (ts : List Str) (k : Nat) (acc : Str), (textFrom k acc ts).length ≤ acc.length + piled ts
  | [], k, acc => Nat.le_add_right _ _
  | t :: ts, k, acc => by
    have h := from_len ts (k + 1) (acc ++ (if k > 0 then ", " else "" : String) ++ t)
    rw [strLen_append, strLen_append] at h
    have e : (Str.ofString (if k > 0 then ", " else "")).length ≤ 2 := by
      split
      · exact Nat.le_of_ble_eq_true rfl
      · exact Nat.le_of_ble_eq_true rfl
    rw [piled_cons]
    show (textFrom (k + 1) _ ts).length ≤ _
    omega
theorem join_le (ts : List Str) : (Str.join ", " ts).length ≤ piled ts := by
  by_cases h : ts = []
  · subst h
    exact Nat.le_refl 0
  · have := join_length_add ts h
    omega
mutual
theorem shown_le : ∀ d : PyData, d.showable = true → txtOk d → d.shown.length ≤ wdt d
  | .none, _, _ => Nat.le_of_ble_eq_true rfl
  | .bool b, _, _ => by
    cases b
    · exact Nat.le_of_ble_eq_true rfl
    · exact Nat.le_of_ble_eq_true rfl
  | .int i, h, _ => by
    have h : i.natAbs.log2 < 1920 := of_decide_eq_true h
    exact PyProof.Rows.int_text_len_1921 h
  | .str x, _, h => StrLaws.reprText_len x h
  | .list ds, h, t => by
    have i := showns_le ds h t
    show (textFrom 0 "[" (PyData.shownAll ds) ++ "]").length ≤ 2 + wdts ds
    rw [strLen_append]
    have := from_len (PyData.shownAll ds) 0 "["
    have e1 : (Str.ofString "[").length = 1 := rfl
    have e2 : (Str.ofString "]").length = 1 := rfl
    omega
  | .tuple ds, h, t => by
    have i := showns_le ds h t
    show (tupleText (PyData.shownAll ds)).length ≤ 3 + wdts ds
    unfold tupleText
    rw [strLen_append, strLen_append]
    have := join_le (PyData.shownAll ds)
    have e1 : (Str.ofString "(").length = 1 := rfl
    have e2 : (Str.ofString (if (PyData.shownAll ds).length == 1 then ",)" else ")")).length ≤ 2 := by
      split
      · exact Nat.le_of_ble_eq_true rfl
      · exact Nat.le_of_ble_eq_true rfl
    omega
  | .dict kvs, h, t => by
    have i := shownk_le kvs h t
    show (dictText (PyData.shownKv kvs)).length ≤ 2 + wdtk kvs
    unfold dictText
    rw [strLen_append, strLen_append]
    have := join_le (PyData.shownKv kvs)
    have e1 : (Str.ofString "{").length = 1 := rfl
    have e2 : (Str.ofString "}").length = 1 := rfl
    omega
theorem showns_le : ∀ ds : List PyData, PyData.showableAll ds = true → txtOks ds → piled (PyData.shownAll ds) ≤ wdts ds
  | [], _, _ => Nat.le_refl 0
  | d :: ds, h, t => by
    obtain ⟨h1, h2⟩ := Bool.and_eq_true_iff.mp (show (d.showable && PyData.showableAll ds) = true from h)
    have i1 := shown_le d h1 t.1
    have i2 := showns_le ds h2 t.2
    show piled (d.shown :: PyData.shownAll ds) ≤ wdt d + 2 + wdts ds
    rw [piled_cons]
    omega
theorem shownk_le : ∀ kvs : List (PyData × PyData), PyData.showableKv kvs = true → txtOkk kvs → piled (PyData.shownKv kvs) ≤ wdtk kvs
  | [], _, _ => Nat.le_refl 0
  | (a, b) :: r, h, t => by
    obtain ⟨h1, h2⟩ := Bool.and_eq_true_iff.mp (show (a.showable && b.showable && PyData.showableKv r) = true from h)
    obtain ⟨h3, h4⟩ := Bool.and_eq_true_iff.mp h1
    have i1 := shown_le a h3 t.1
    have i2 := shown_le b h4 t.2.1
    have i3 := shownk_le r h2 t.2.2
    show piled ((a.shown ++ ": " ++ b.shown) :: PyData.shownKv r) ≤ wdt a + wdt b + 4 + wdtk r
    rw [piled_cons, strLen_append, strLen_append]
    have e1 : (Str.ofString ": ").length = 2 := rfl
    omega
end
theorem Shows.of {d : PyData} (h : d.showable = true) (t : txtOk d) (k : d.depth ≤ 60) (n : wdt d ≤ 100000) (l : d.hasDict = true → noL d = true) : Shows d := ⟨h, k, sz_of (Nat.le_trans (shown_le d h t) n), l⟩
theorem showI {i : Int} (h : i.natAbs.log2 < 1920) : (PyData.int i).showable = true := decide_eq_true h
theorem log_of {i : Int} {k : Nat} (h : i.natAbs < 2 ^ k) (hk : 0 < k) (hl : k ≤ 1920) : i.natAbs.log2 < 1920 := Nat.lt_of_lt_of_le (PySem.Flt.log2_lt_of hk h) hl
theorem shows_int {i : Int} (h : i.natAbs.log2 < 1920) : Shows (.int i) := .of (showI h) trivial (Nat.zero_le _) (Nat.le_of_ble_eq_true rfl) (fun z => nomatch z)
theorem shows_pair {a b : Int} (ha : a.natAbs.log2 < 1920) (hb : b.natAbs.log2 < 1920) : Shows (.tuple [.int a, .int b]) := .of (by
  show ((PyData.int a).showable && ((PyData.int b).showable && true)) = true
  rw [showI ha, showI hb]
  rfl) ⟨trivial, trivial, trivial⟩ (Nat.le_of_ble_eq_true rfl) (Nat.le_of_ble_eq_true rfl) (fun _ => rfl)
/-! ### displays -/
section
variable {K : PySem.W.Frag} {σ : L2.St} {H : Hp} {ta tb te : TE} {ds : List PyData}
theorem ed_lst {tr : TA} (h : EvDA tr σ H ds) (hl : ds.length ≤ 100000) : EvD (tLst tr) σ H (.list ds) := fun H1 e _ q =>
  h H1 e _ fun vs H2 e2 hv => ⟨sz_of (by rw [hv.len]; exact hl), fun p hp => q _ _ (e2.trans (Ex.new hp)) (.lst upd_same (hv.up (Ex.new hp)))⟩
theorem ed_str {x : Str} : EvD (tC (.str x)) σ H (.str x) := ed_of ev_c (.str x)
theorem ed_non : EvD (tC .non) σ H .none := ed_of ev_c .non
theorem ed_bl {b : Bool} : EvD (tC (.bl b)) σ H (.bool b) := ed_of ev_c (.bl b)
theorem ed_dict0 : EvD (fun _ H Q => ∀ p, H p = none → Q (.ref p) (upd H p (.dK []))) σ H (.dict []) := fun H1 _ _ q p hp => q _ _ (Ex.new hp) (.dic (ns := []) upd_same)
theorem ed_dict1 {a b : Int} (h1 : ∀ H, Ev ta σ H (.int a)) (h2 : ∀ H, Ev tb σ H (.int b)) : EvD (tDisp [(ta, tb)]) σ H (.dict [(.int a, .int b)]) := fun H1 e Q q p hp =>
  h1 _ _ (Ex.refl _) _ fun H2 e2 => h2 _ _ (Ex.refl _) _ fun H3 e3 => ⟨e3 _ _ (e2 _ _ upd_same), [((Sum.inl a : Key), V.int b)], rfl, Nat.le_of_ble_eq_true rfl, q _ _ (Ex.mut (((Ex.new hp).trans e2).trans e3) hp) (.dic (ns := [(a, some b)]) upd_same)⟩
theorem ed_repr {d : PyData} (h : EvD te σ H d) (hs : Shows d) : EvD (tCB rRepr (tCons te tNil)) σ H (.str d.shown) := fun H1 e Q q =>
  h H1 e _ fun v H2 e2 hv => ⟨v, d, rfl, hv, hs, q _ H2 e2 (.str _)⟩
theorem ed_stri {i : Int} (h : Ev te σ H (.int i)) (hl : i.natAbs.log2 < 1920) : EvD (tCB (fun xs H Q => ∃ i, xs = [.int i] ∧ i.natAbs.log2 < 1920 ∧ Q (.str (toString i)) H) (tCons te tNil)) σ H (.str (toString i)) := fun H1 e Q q =>
  h H1 e _ fun H2 e2 => ⟨i, rfl, hl, q _ H2 e2 (.str _)⟩
theorem ev_pow {a b : Int} (h : CPow a b) : Ev (tOp (rI CPow fun i j => .int (i ^ j.toNat)) (tC (.int a)) (tC (.int b))) σ H (.int (a ^ b.toNat)) := ev_op ev_c ev_c (rv_I h)
theorem ev_add {a b : Int} (h1 : Ev ta σ H (.int a)) (h2 : Ev tb σ H (.int b)) : Ev (tOp (rI0 fun i j => .int (i + j)) ta tb) σ H (.int (a + b)) := ev_op h1 h2 rv_I0
theorem ev_sub {a b : Int} (h1 : Ev ta σ H (.int a)) (h2 : Ev tb σ H (.int b)) : Ev (tOp (rI0 fun i j => .int (i - j)) ta tb) σ H (.int (a - b)) := ev_op h1 h2 rv_I0
theorem ev_mulW {a b : Int} (h1 : Ev ta σ H (.int a)) (h2 : Ev tb σ H (.int b)) (h : CMulW a b) : Ev (tOp (rI CMulW fun i j => .int (i * j)) ta tb) σ H (.int (a * b)) := ev_op h1 h2 (rv_I h)
theorem ev_mulC {a b : Int} (h1 : Ev ta σ H (.int a)) (h2 : Ev tb σ H (.int b)) (h : CMul a b) : Ev (tOp (rI CMul fun i j => .int (i * j)) ta tb) σ H (.int (a * b)) := ev_op h1 h2 (rv_I h)
/-- some + [..], both lists of data -/
theorem ed_cat {es : List PyData} (h1 : EvD ta σ H (.list ds)) (h2 : EvD tb σ H (.list es)) (hl : ds.length + es.length ≤ 100000) : EvD (tOp rCat ta tb) σ H (.list (ds ++ es)) := fun H1 e Q q =>
  h1 H1 e _ fun v H2 e2 hv => h2 H2 (e.trans e2) _ fun u H3 e3 hu => by
    obtain ⟨a, xs, rfl, ha, hx⟩ := (hv.up e3).lst_get
    obtain ⟨b, ys, rfl, hb, hy⟩ := hu.lst_get
    refine ⟨a, b, xs, ys, rfl, rfl, ha, hb, sz_of (by rw [hx.len, hy.len]; exact hl), fun p hp => q _ _ ((e2.trans e3).trans (Ex.new hp)) (.lst upd_same ((hx.up (Ex.new hp)).app (hy.up (Ex.new hp))))⟩
end
/-- for x in [..]: a loop over a display of data, in which the heap grows alone -/
theorem q_forD {K : PySem.W.Frag} {tr : TA} {ds : List PyData} {j : Nat} {tu tz : TS} {D : Ends} {σ : L2.St} {H : Hp} (h : EvDA tr σ H ds) (hl : ds.length ≤ 100000) (Pv : Nat → L2.St → Hp → Prop) (h0 : ∀ H1, Ex H H1 → Pv 0 σ H1)
    (hs : ∀ i x d σ' H', ds[i]? = some d → Dt H' x d → Pv i σ' H' → tu { D with nx := fun σ3 H3 => Pv (i + 1) σ3 H3 ∧ Ex H' H3, ct := fun σ3 H3 => Pv (i + 1) σ3 H3 ∧ Ex H' H3, bk := tz D } (σ'.set j (some x)) H')
    (hd : ∀ σ' H', Pv ds.length σ' H' → tz D σ' H') : tSeq (tFor (iList K (tLst tr)) (gName j) tu) tz D σ H :=
  h H (Ex.refl H) _ fun vs H2 e2 hv => ⟨sz_of (by rw [hv.len]; exact hl), fun p hp => by
    have hp2 : (upd H2 p (.lst vs)) p = some (.lst vs) := upd_same
    have x2 : Ex H2 (upd H2 p (.lst vs)) := Ex.new hp
    refine ⟨p, rfl, ⟨_, sq_of hp2⟩, fun i m σ' H' => m = vs.length - i ∧ i ≤ vs.length ∧ Pv i σ' H' ∧ Ex (upd H2 p (.lst vs)) H', ⟨vs.length, rfl, Nat.zero_le _, h0 _ (e2.trans x2), Ex.refl _⟩, fun i m σ' H' hW => ?_⟩
    obtain ⟨rfl, hi, hP, eW⟩ := hW
    have hS : SqL K H' p vs := sq_of (eW _ _ hp2)
    by_cases z : i < vs.length
    · obtain ⟨d, hd1, hd2⟩ := hv.get i (List.getElem?_eq_getElem z)
      refine .inr ⟨⟨vs, vs[i], hS, List.getElem?_eq_getElem z⟩, fun σ3 H3 => Pv (i + 1) σ3 H3 ∧ Ex H' H3, fun σ3 H3 hN => ⟨vs.length - (i + 1), by omega, rfl, z, hN.1, eW.trans hN.2⟩, fun x H3 y => ?_⟩
      obtain ⟨rfl, y⟩ := y
      have ex : x = vs[i] := Option.some.inj ((y vs hS).symm.trans (List.getElem?_eq_getElem z))
      rw [ex]
      exact hs i _ d σ' _ hd1 (hd2.up (x2.trans eW)) hP
    · have e : i = vs.length := by omega
      subst e
      rw [hv.len] at hP
      exact .inl ⟨⟨vs, hS, Nat.le_refl _⟩, hd σ' H' hP⟩⟩
/-! ### what is seen of a heap, where some lists of it may change -/
/-- the heap without its lists -/
def hideL (H : Hp) : Hp := fun x => match H x with
  | some (.lst _) => none
  | o => o
theorem hideL_ex (H : Hp) : Ex (hideL H) H := fun a o h => by
  unfold hideL at h
  split at h
  · cases h
  · exact h
theorem hideL_of {H : Hp} {a : Addr} {o : HO} (h : H a = some o) (n : ∀ xs, o ≠ .lst xs) : hideL H a = some o := by
  unfold hideL
  split
  · rename_i xs e
    rw [h] at e
    exact absurd (Option.some.inj e) (n xs)
  · exact h
theorem hideL_lst {H : Hp} {a : Addr} (h : IsL H a) : hideL H a = none := by
  obtain ⟨xs, h⟩ := h
  unfold hideL
  rw [h]
mutual
theorem Dt.hid {H : Hp} : ∀ (d : PyData) (v : V), noL d = true → Dt H v d → Dt (hideL H) v d
  | .none, _, _, h => by cases h; exact .non
  | .bool b, _, _, h => by cases h; exact .bl b
  | .int i, _, _, h => by cases h; exact .int i
  | .str x, _, _, h => by cases h; exact .str x
  | .list ds, _, n, h => nomatch n
  | .tuple ds, _, n, h => by
    cases h with
    | tup hs ha => exact .tup (hideL_of hs fun _ z => nomatch z) (DtAll.hid ds _ n ha)
  | .dict _, _, _, h => by
    cases h with
    | dic hs => exact .dic (hideL_of hs fun _ z => nomatch z)
theorem DtAll.hid {H : Hp} : ∀ (ds : List PyData) (vs : List V), noLs ds = true → DtAll H vs ds → DtAll (hideL H) vs ds
  | [], _, _, h => by cases h; exact .nil
  | d :: ds, _, n, h => by
    obtain ⟨n1, n2⟩ := Bool.and_eq_true_iff.mp (show (noL d && noLs ds) = true from n)
    cases h with
    | cons h1 h2 => exact .cons (Dt.hid d _ n1 h1) (DtAll.hid ds _ n2 h2)
end
/-- W2 is W with what is new in H2 -/
structure Grow (W H1 W2 H2 : Hp) : Prop where
  w : Ex W W2
  h : Ex W2 H2
  hh : Ex H1 H2
  n : ∀ b, H1 b ≠ none → W b = none → W2 b = none
theorem Grow.refl {W H : Hp} (e : Ex W H) : Grow W H W H := ⟨Ex.refl W, e, Ex.refl H, fun _ _ z => z⟩
theorem Grow.trans {W H W1 H1 W2 H2 : Hp} (a : Grow W H W1 H1) (b : Grow W1 H1 W2 H2) : Grow W H W2 H2 := ⟨a.w.trans b.w, b.h, a.hh.trans b.hh, fun x h z => b.n x (fun y => h (fresh_back a.hh y)) (a.n x h z)⟩
theorem Grow.new {W H : Hp} (e : Ex W H) {p : Addr} {o : HO} (hp : H p = none) : Grow W H (upd W p o) (upd H p o) := by
  have hw : W p = none := fresh_back e hp
  refine ⟨Ex.new hw, fun a u h => ?_, Ex.new hp, fun b h z => ?_⟩
  · by_cases y : a = p
    · subst y
      rw [upd_same] at h ⊢
      exact h
    · rw [upd_ne y] at h ⊢
      exact e _ _ h
  · have y : b ≠ p := fun y => by
      rw [y] at h
      exact h hp
    rw [upd_ne y]
    exact z
def EvF (te : TE) (σ : L2.St) (W0 : Hp) (d : PyData) : Prop := ∀ W H1, Ex W0 W → Ex W H1 → ∀ Q : VK, (∀ v W2 H2, Grow W H1 W2 H2 → Dt W2 v d → Q v H2) → te σ H1 Q
def EvFA (ta : TA) (σ : L2.St) (W0 : Hp) (ds : List PyData) : Prop := ∀ W H1, Ex W0 W → Ex W H1 → ∀ Q : List V → Hp → Prop, (∀ vs W2 H2, Grow W H1 W2 H2 → DtAll W2 vs ds → Q vs H2) → ta σ H1 Q
section
variable {K : PySem.W.Frag} {σ : L2.St} {W0 : Hp} {ta tb te : TE} {d : PyData} {ds es : List PyData}
theorem ef_var {v : V} {i : Nat} (h : σ[i]? = some (some v)) (hd : Dt W0 v d) : EvF (tVar i) σ W0 d := fun W H1 e0 e1 Q q => ⟨v, h, q v W H1 (.refl e1) (hd.up e0)⟩
theorem ef_c {v : V} (hd : ∀ H, Dt H v d) : EvF (tC v) σ W0 d := fun W H1 _ e1 Q q => q v W H1 (.refl e1) (hd W)
/-- a number that is reckoned without a new object -/
theorem ef_int {i : Int} (h : ∀ (H : Hp) (Q : VK), Q (.int i) H → te σ H Q) : EvF te σ W0 (.int i) := fun W H1 _ e1 Q q => h H1 Q (q _ W H1 (.refl e1) (.int i))
theorem ef_str {x : Str} (h : ∀ (H : Hp) (Q : VK), Q (.str x) H → te σ H Q) : EvF te σ W0 (.str x) := fun W H1 _ e1 Q q => h H1 Q (q _ W H1 (.refl e1) (.str x))
theorem efa_nil : EvFA tNil σ W0 [] := fun W H1 _ e1 _ q => q [] W H1 (.refl e1) .nil
theorem efa_cons {tr : TA} (h : EvF te σ W0 d) (hr : EvFA tr σ W0 ds) : EvFA (tCons te tr) σ W0 (d :: ds) := fun W H1 e0 e1 _ q =>
  h W H1 e0 e1 _ fun v W2 H2 g2 hv => hr W2 H2 (e0.trans g2.w) g2.h _ fun vs W3 H3 g3 hvs => q (v :: vs) W3 H3 (g2.trans g3) (.cons (hv.up g3.w) hvs)
theorem ef_tup {tr : TA} (h : EvFA tr σ W0 ds) (hl : ds.length ≤ 100000) : EvF (tTup tr) σ W0 (.tuple ds) := fun W H1 e0 e1 _ q =>
  h W H1 e0 e1 _ fun vs W2 H2 g2 hv => ⟨sz_of (by rw [hv.len]; exact hl), fun p hp => by
    have g3 := Grow.new (o := .tup vs) g2.h hp
    exact q _ _ _ (g2.trans g3) (.tup upd_same (hv.up g3.w))⟩
theorem ef_lst {tr : TA} (h : EvFA tr σ W0 ds) (hl : ds.length ≤ 100000) : EvF (tLst tr) σ W0 (.list ds) := fun W H1 e0 e1 _ q =>
  h W H1 e0 e1 _ fun vs W2 H2 g2 hv => ⟨sz_of (by rw [hv.len]; exact hl), fun p hp => by
    have g3 := Grow.new (o := .lst vs) g2.h hp
    exact q _ _ _ (g2.trans g3) (.lst upd_same (hv.up g3.w))⟩
theorem ef_dict0 : EvF tDNewK σ W0 (.dict []) := fun W H1 e0 e1 _ q p hp => q _ _ _ (Grow.new e1 hp) (.dic (ns := []) upd_same)
theorem ef_dict1 {a b : Int} (h1 : ∀ (H : Hp) (Q : VK), Q (.int a) H → ta σ H Q) (h2 : ∀ (H : Hp) (Q : VK), Q (.int b) H → tb σ H Q) : EvF (tDisp [(ta, tb)]) σ W0 (.dict [(.int a, .int b)]) := fun W H1 e0 e1 Q q p hp =>
  h1 _ _ (h2 _ _ ⟨upd_same, [((Sum.inl a : Key), V.int b)], rfl, Nat.le_of_ble_eq_true rfl, by
    rw [show upd (upd H1 p (.dK [])) p (.dK (mergeK [] [((Sum.inl a : Key), V.int b)])) = upd H1 p (.dK [((Sum.inl a : Key), V.int b)]) from upd_upd]
    exact q _ _ _ (Grow.new e1 hp) (.dic (ns := [(a, some b)]) upd_same)⟩)
theorem ef_dictO {a : Int} {b : Option Int} (h1 : ∀ (H : Hp) (Q : VK), Q (.int a) H → ta σ H Q) (h2 : ∀ (H : Hp) (Q : VK), Q (oV b) H → tb σ H Q) : EvF (tDisp [(ta, tb)]) σ W0 (.dict [(.int a, oD b)]) := fun W H1 e0 e1 Q q p hp =>
  h1 _ _ (h2 _ _ ⟨upd_same, [((Sum.inl a : Key), oV b)], rfl, Nat.le_of_ble_eq_true rfl, by
    rw [show upd (upd H1 p (.dK [])) p (.dK (mergeK [] [((Sum.inl a : Key), oV b)])) = upd H1 p (.dK [((Sum.inl a : Key), oV b)]) from upd_upd]
    exact q _ _ _ (Grow.new e1 hp) (.dic (ns := [(a, b)]) upd_same)⟩)
theorem ef_cat (h1 : EvF ta σ W0 (.list ds)) (h2 : EvF tb σ W0 (.list es)) (hl : ds.length + es.length ≤ 100000) : EvF (tOp rCat ta tb) σ W0 (.list (ds ++ es)) := fun W H1 e0 e1 Q q =>
  h1 W H1 e0 e1 _ fun v W2 H2 g2 hv => h2 W2 H2 (e0.trans g2.w) g2.h _ fun u W3 H3 g3 hu => by
    obtain ⟨a, xs, rfl, ha, hx⟩ := (hv.up g3.w).lst_get
    obtain ⟨b, ys, rfl, hb, hy⟩ := hu.lst_get
    refine ⟨a, b, xs, ys, rfl, rfl, g3.h _ _ ha, g3.h _ _ hb, sz_of (by rw [hx.len, hy.len]; exact hl), fun p hp => ?_⟩
    have g4 := Grow.new (o := .lst (xs ++ ys)) g3.h hp
    exact q _ _ _ ((g2.trans g3).trans g4) (.lst upd_same ((hx.up g4.w).app (hy.up g4.w)))
end
theorem rep_dt {H : Hp} {vs : List V} {ds : List PyData} (h : DtAll H vs ds) : ∀ n : Nat, DtAll H (List.replicate n vs).flatten (List.replicate n ds).flatten
  | 0 => .nil
  | n + 1 => by
    rw [List.replicate_succ, List.replicate_succ, List.flatten_cons, List.flatten_cons]
    exact h.app (rep_dt h n)
/-! ### [..] != [], whatever stands in the list -/
def rNeE : R2 := fun x y H Q => ∃ a b xs, x = .ref a ∧ y = .ref b ∧ H a = some (.lst xs) ∧ H b = some (.lst []) ∧ Q (.bl (!xs.isEmpty)) H
theorem op_neE {X : Cx} (hu : X.A.units + 64 < cLine) : OpR X (compareOp .NotEq) rNeE := by
  intro pins s σ H x y v u Q I rx ry h
  obtain ⟨a, b, xs, rfl, rfl, ha, hb, q⟩ := h
  cases (show v = Value.ref a from rx)
  cases (show u = Value.ref b from ry)
  obtain ⟨_, its, n, r, hl, e⟩ := I.lstM ha
  obtain ⟨_, its2, n2, r2, hl2, e2⟩ := I.lstM hb
  cases r2
  have L1 : s.heap.IsList a its.toArray := ⟨_, e, rfl, n, rfl⟩
  have L2 : s.heap.IsList b ([] : List Value).toArray := ⟨_, e2, rfl, n2, rfl⟩
  cases xs with
  | nil =>
    cases r
    exact SeqAt.RcNeAt.lists (e := fun _ => true) L1 L2 rfl (by omega) (fun j h1 _ => absurd h1 (Nat.not_lt_zero j)) X.prog X.w X.xe _ ⟨.bl false, H, I, rfl, q⟩
  | cons x0 xs0 =>
    refine SeqAt.RcNeAt.lists_lengths L1 L2 ?_ (by omega) X.prog X.w X.xe _ ⟨.bl true, H, I, rfl, q⟩
    cases r
    simp
/-! ### what may be shown, built piece by piece -/
structure Sh (k n : Nat) (d : PyData) : Prop where
  sh : d.showable = true
  tx : txtOk d
  dp : d.depth ≤ k
  wd : wdt d ≤ n
  nd : d.hasDict = false
structure ShA (k n : Nat) (ds : List PyData) : Prop where
  sh : PyData.showableAll ds = true
  tx : txtOks ds
  dp : PyData.depthAll ds ≤ k
  wd : wdts ds ≤ n
  nd : PyData.hasDictAll ds = false
theorem Sh.shows {k n : Nat} {d : PyData} (h : Sh k n d) (hk : k ≤ 60) (hn : n ≤ 100000) : Shows d := .of h.sh h.tx (Nat.le_trans h.dp hk) (Nat.le_trans h.wd hn) (fun z => by rw [h.nd] at z; cases z)
theorem sh_int {i : Int} (h : i.natAbs.log2 < 1920) : Sh 0 1921 (.int i) := ⟨showI h, trivial, Nat.le_refl 0, Nat.le_refl _, rfl⟩
theorem sh_non : Sh 0 4 .none := ⟨rfl, trivial, Nat.le_refl 0, Nat.le_refl _, rfl⟩
theorem sh_bl {b : Bool} : Sh 0 5 (.bool b) := ⟨rfl, trivial, Nat.le_refl 0, Nat.le_refl _, rfl⟩
theorem sh_str {x : Str} {m : Nat} (h : okS x) (hl : x.length ≤ m) : Sh 0 (10 * m + 2) (.str x) := ⟨rfl, h, Nat.le_refl 0, (show 10 * x.length + 2 ≤ 10 * m + 2 by omega), rfl⟩
theorem sha_nil : ShA 0 0 [] := ⟨rfl, trivial, Nat.le_refl 0, Nat.le_refl _, rfl⟩
theorem sha_cons {k n k2 m : Nat} {d : PyData} {ds : List PyData} (h : Sh k n d) (r : ShA k2 m ds) : ShA (max k k2) (n + 2 + m) (d :: ds) := by
  refine ⟨?_, ⟨h.tx, r.tx⟩, ?_, ?_, ?_⟩
  · show (d.showable && PyData.showableAll ds) = true
    rw [h.sh, r.sh]
    rfl
  · show max d.depth (PyData.depthAll ds) ≤ max k k2
    have := h.dp
    have := r.dp
    omega
  · show wdt d + 2 + wdts ds ≤ n + 2 + m
    have := h.wd
    have := r.wd
    omega
  · show (d.hasDict || PyData.hasDictAll ds) = false
    rw [h.nd, r.nd]
    rfl
theorem sh_tup {k n : Nat} {ds : List PyData} (h : ShA k n ds) : Sh (k + 1) (3 + n) (.tuple ds) := ⟨h.sh, h.tx, Nat.succ_le_succ h.dp, Nat.add_le_add_left h.wd 3, h.nd⟩
theorem sh_lst {k n : Nat} {ds : List PyData} (h : ShA k n ds) : Sh (k + 1) (2 + n) (.list ds) := ⟨h.sh, h.tx, Nat.succ_le_succ h.dp, Nat.add_le_add_left h.wd 2, h.nd⟩
theorem shows_dict1 {a b : Int} (ha : a.natAbs.log2 < 1920) (hb : b.natAbs.log2 < 1920) : Shows (.dict [(.int a, .int b)]) := .of (by
  show ((PyData.int a).showable && (PyData.int b).showable && true) = true
  rw [showI ha, showI hb]
  rfl) ⟨trivial, trivial, trivial⟩ (Nat.le_of_ble_eq_true rfl) (Nat.le_of_ble_eq_true rfl) (fun z => rfl)
section
variable {K : PySem.W.Frag} {σ : L2.St} {W0 H : Hp} {ta tb te : TE} {d : PyData} {ds es : List PyData} {D : Ends} {tz : TS}
theorem ef_rep {k : Nat} (h : EvF ta σ W0 (.list ds)) (hl : ds.length * k ≤ 100000) (hk : k ≤ 1000) : EvF (tOp rRep ta (tC (.int (k : Int)))) σ W0 (.list (List.replicate k ds).flatten) := fun W H1 e0 e1 Q q =>
  h W H1 e0 e1 _ fun v W2 H2 g2 hv => by
    obtain ⟨a, xs, rfl, ha, hx⟩ := hv.lst_get
    refine ⟨a, (k : Int), xs, rfl, rfl, g2.h _ _ ha, by omega, by omega, sz_of (by rw [hx.len]; exact hl), fun p hp => ?_⟩
    have g3 := Grow.new (o := .lst (List.replicate ((k : Int)).toNat xs).flatten) g2.h hp
    exact q _ _ _ (g2.trans g3) (.lst upd_same ((rep_dt hx k).up g3.w))
theorem q_asgF {i : Nat} (h : EvF te σ W0 d) (e : Ex W0 H) (k : ∀ v W2 H2, Grow W0 H W2 H2 → Dt W2 v d → tz D (σ.set i (some v)) H2) : tSeq (tAsg te (gName i)) tz D σ H := h W0 H (Ex.refl W0) e _ k
theorem ef_stri {i : Int} {j : Nat} (h : σ[j]? = some (some (.int i))) (hl : i.natAbs.log2 < 1920) : EvF (tCB (fun xs H Q => ∃ i, xs = [.int i] ∧ i.natAbs.log2 < 1920 ∧ Q (.str (toString i)) H) (tCons (tVar j) tNil)) σ W0 (.str (toString i)) :=
  ef_str fun H Q q => ⟨_, h, i, rfl, hl, q⟩
theorem ef_vi {i : Int} {j : Nat} (h : σ[j]? = some (some (.int i))) : EvF (tVar j) σ W0 (.int i) := ef_int fun H Q q => ⟨_, h, q⟩
theorem ef_ci {i : Int} : EvF (tC (.int i)) σ W0 (.int i) := ef_int fun H Q q => q
theorem ef_cb {b : Bool} : EvF (tC (.bl b)) σ W0 (.bool b) := ef_c fun _ => .bl b
theorem ef_cn : EvF (tC .non) σ W0 .none := ef_c fun _ => .non
theorem ef_cs {x : Str} : EvF (tC (.str x)) σ W0 (.str x) := ef_c fun _ => .str x
/-- a comprehension over a tuple of whatever data: whether it gives any -/
theorem lcT_any {a : Addr} {xs : List V} {tl : TE} {t : TT} {j : Nat} {vs : List Nat} {Q : VK} (f : PyData → Bool) (h : Ev tl σ H (.ref a)) (ha : H a = some (.tup xs)) (hx : DtAll H xs ds) (hz : ds.length ≤ 40000) (hw : ∀ x, wipe ((wipe σ vs).set j (some x)) vs = wipe σ vs) (hj : ∀ x, ((wipe σ vs).set j (some x))[j]? = some (some x))
    (ht : ∀ H1 v d, Ex H H1 → d ∈ ds → Dt H1 v d → EvT t ((wipe σ vs).set j (some v)) H1 (f d)) (q : ∀ p H2 acc, H p = none → Ex H H2 → H2 p = some (.lst acc) → acc.length = (ds.filter f).length → Q (.ref p) H2) : tLc (iTup K tl) (gName j) t (tVar j) vs σ H Q :=
  h H (Ex.refl H) _ fun H1 e1 => ⟨a, rfl, ⟨xs, st_of (e1 _ _ ha)⟩, fun Dl hD => lc_tup (xs := xs) (fun i H' => Ex H1 H' ∧ ∃ acc, H' Dl = some (.lst acc) ∧ acc.length = ((ds.take i).filter f).length) ⟨Ex.new hD, [], upd_same, rfl⟩ (fun i H' _ p => st_of (p.1 _ _ (e1 _ _ ha))) (fun i x H' hi p => ⟨hw x, by
      obtain ⟨p1, acc, p2, p3⟩ := p
      obtain ⟨d, hd, hxd⟩ := hx.get i hi
      have hm := List.mem_of_getElem? hd
      have hlen : ((ds.take i).filter f).length ≤ ds.length := by
        have h1 := List.length_filter_le f (ds.take i)
        rw [List.length_take] at h1
        omega
      have hstep : ((ds.take (i + 1)).filter f).length = ((ds.take i).filter f).length + (if f d = true then 1 else 0) := by
        rw [List.take_add_one, hd, List.filter_append, List.length_append]
        congr 1
        cases z : f d with
        | true => simp [z]
        | false => simp [z]
      refine ht H1 x d e1 hm (hxd.up e1) H' p1 _ fun H3 e3 => ?_
      cases z : f d with
      | true =>
        refine itT rfl ⟨x, hj x, acc, e3 _ _ p2, sz_lt (by omega), Ex.mut (p1.trans e3) hD, acc ++ [x], upd_same, ?_⟩
        rw [hstep, z, List.length_append, p3]
        rfl
      | false =>
        refine itF rfl ⟨p1.trans e3, acc, e3 _ _ p2, ?_⟩
        rw [hstep, z, p3]
        rfl⟩) (fun H' p => by
      obtain ⟨p1, acc, p2, p3⟩ := p
      rw [hx.len, List.take_length] at p3
      exact q Dl H' acc (fresh_back e1 hD) (e1.trans p1) p2 p3)⟩
end
theorem tNext_app {D : Ends} {σ : L2.St} {H : Hp} : tNext D σ H = D.nx σ H := rfl
theorem go_ifop {r : R2} {ta tb : TE} {t1 t2 tz : TS} {D : Ends} {σ : L2.St} {H : Hp} (h : ta σ H fun x H1 => tb σ H1 fun y H2 => r x y H2 fun z H3 => ∃ k, z = .bl k ∧ if k = true then t1 { D with nx := tz D } σ H3 else t2 { D with nx := tz D } σ H3) : tSeq (tIfS (tTest (tOp r ta tb)) t1 t2) tz D σ H := h
/-! ### loops in which the heap grows alone -/
theorem loopK {K : PySem.W.Frag} {a : Addr} {vs : List V} {j : Nat} {tu : TS} {D : Ends} {σ : L2.St} {H : Hp} (ha : H a = some (.lst vs)) (Pv : Nat → L2.St → Hp → Prop) (h0 : Pv 0 σ H)
    (hs : ∀ i x σ' H', vs[i]? = some x → Ex H H' → Pv i σ' H' → tu { D with nx := fun σ3 H3 => Pv (i + 1) σ3 H3 ∧ Ex H' H3, ct := fun σ3 H3 => Pv (i + 1) σ3 H3 ∧ Ex H' H3, bk := D.nx } (σ'.set j (some x)) H')
    (hd : ∀ σ' H', Pv vs.length σ' H' → Ex H H' → D.nx σ' H') : tFor (fun _ H R => R (Itl K a) H) (gName j) tu D σ H := by
  refine ⟨fun i m σ' H' => m = vs.length - i ∧ i ≤ vs.length ∧ Pv i σ' H' ∧ Ex H H', ⟨vs.length, rfl, Nat.zero_le _, h0, Ex.refl _⟩, fun i m σ' H' hW => ?_⟩
  obtain ⟨rfl, hi, hP, eW⟩ := hW
  have hS : SqL K H' a vs := sq_of (eW _ _ ha)
  by_cases z : i < vs.length
  · refine .inr ⟨⟨vs, vs[i], hS, List.getElem?_eq_getElem z⟩, fun σ3 H3 => Pv (i + 1) σ3 H3 ∧ Ex H' H3, fun σ3 H3 hN => ⟨vs.length - (i + 1), by omega, rfl, z, hN.1, eW.trans hN.2⟩, fun x H3 y => ?_⟩
    obtain ⟨rfl, y⟩ := y
    have ex : x = vs[i] := Option.some.inj ((y vs hS).symm.trans (List.getElem?_eq_getElem z))
    rw [ex]
    exact hs i _ σ' _ (List.getElem?_eq_getElem z) eW hP
  · have e : i = vs.length := by omega
    subst e
    exact .inl ⟨⟨vs, hS, Nat.le_refl _⟩, hd σ' H' hP eW⟩
theorem go_forI {K : PySem.W.Frag} {tl : TE} {g : TG} {tu tz : TS} {D : Ends} {σ : L2.St} {H : Hp} (h : tl σ H fun x H1 => ∃ a, x = .ref a ∧ (∃ xs, SqL K H1 a xs) ∧ tFor (fun _ H R => R (Itl K a) H) g tu { D with nx := tz D } σ H1) : tSeq (tFor (iList K tl) g tu) tz D σ H := h
theorem q_forE {K : PySem.W.Frag} {tl : TE} {ds : List PyData} {j : Nat} {tu tz : TS} {D : Ends} {σ : L2.St} {H : Hp} (h : EvD tl σ H (.list ds)) (Pv : Nat → L2.St → Hp → Prop) (h0 : ∀ H1, Ex H H1 → Pv 0 σ H1)
    (hs : ∀ i x d σ' H', ds[i]? = some d → Dt H' x d → Pv i σ' H' → tu { D with nx := fun σ3 H3 => Pv (i + 1) σ3 H3 ∧ Ex H' H3, ct := fun σ3 H3 => Pv (i + 1) σ3 H3 ∧ Ex H' H3, bk := tz D } (σ'.set j (some x)) H')
    (hd : ∀ σ' H', Pv ds.length σ' H' → tz D σ' H') : tSeq (tFor (iList K tl) (gName j) tu) tz D σ H :=
  go_forI (h H (Ex.refl H) _ fun v H2 e2 hv => by
    obtain ⟨a, xs, rfl, ha, hx⟩ := hv.lst_get
    refine ⟨a, rfl, ⟨_, sq_of ha⟩, loopK (D := { D with nx := tz D }) ha Pv (h0 H2 e2) (fun i x σ' H' hi e hP => ?_) (fun σ' H' hP e => ?_)⟩
    · obtain ⟨d, hd1, hd2⟩ := hx.get i hi
      exact hs i x d σ' H' hd1 (hd2.up e) hP
    · rw [hx.len] at hP
      exact hd σ' H' hP)
theorem s_forE {K : PySem.W.Frag} {tl : TE} {ds : List PyData} {j : Nat} {tu : TS} {D : Ends} {σ : L2.St} {H : Hp} (h : EvD tl σ H (.list ds)) (Pv : Nat → L2.St → Hp → Prop) (h0 : ∀ H1, Ex H H1 → Pv 0 σ H1)
    (hs : ∀ i x d σ' H', ds[i]? = some d → Dt H' x d → Pv i σ' H' → tu { D with nx := fun σ3 H3 => Pv (i + 1) σ3 H3 ∧ Ex H' H3, ct := fun σ3 H3 => Pv (i + 1) σ3 H3 ∧ Ex H' H3, bk := D.nx } (σ'.set j (some x)) H')
    (hd : ∀ σ' H', Pv ds.length σ' H' → D.nx σ' H') : tFor (iList K tl) (gName j) tu D σ H := q_forE (tz := tNext) h Pv h0 hs hd
/-! ### an error that was caught, kept as a value -/
/-- an error's object of the class cls, behind the clause that caught it -/
def ExK (cls : Value) (a : Addr) : HO := .ext fun h => ∃ (oe : Obj) (vs : Array Value), h.get? a = some oe ∧ Zc cls none oe ∧ oe.data = .fields vs
theorem exK_ok {P : Program} {w : World} {H : Hp} {h : Heap} {a : Addr} {cls : Value} {oe : Obj} {vs : Array Value} (e : h.get? a = some oe) (z : Zc cls none oe) (d : oe.data = .fields vs) : ObjOk P w H h a (ExK cls a) :=
  ⟨⟨oe, vs, e, z, d⟩, ⟨oe, e⟩, fun _ _ ⟨o, v, q, r⟩ k => ⟨o, v, k o q, r⟩⟩
section
variable {X : Cx} {pins : List (Addr × Obj)} {σ : L2.St} {H : Hp} {s : Shared}
/-- an object that lies there untracked, made behind the entry, is tracked -/
theorem inv_track {a : Addr} {o : HO} {oe : Obj} {vs : Array Value} (I : Inv X pins σ H s) (hn : H a = none) (h0 : X.s_0.heap.get? a = none) (ha : s.heap.get? a = some oe) (hd : oe.data = .fields vs) (nL : a ≠ X.env.locals)
    (np : ∀ p ∈ X.pn ++ pins, p.1 ≠ a) (new : ObjOk X.prog X.w (upd H a o) s.heap a o) : Inv X pins σ (upd H a o) s := by
  have ne0 : ∀ b u, X.s_0.heap.get? b = some u → b ≠ a := fun b u e z => by
    rw [z, h0] at e
    cases e
  have neC : ∀ x c, X.env.cells.lookup x = some c → c ≠ a := fun x c e z => by
    obtain ⟨v, oc, hc, dc⟩ := I.cell x c e
    rw [z, ha] at hc
    cases hc
    rw [hd] at dc
    cases dc
  refine ⟨I.ok, I.os, I.bare, ⟨I.base.keep, I.base.slot, fun b u e n hx => ?_, I.base.there, fun b xs e => ?_, fun b u xs e => ?_, fun b ps e => ?_⟩, I.loc, I.cell, ?_, fun x c e => ?_, fun p hp => ?_, fun b u e => ?_, I.len⟩
  · rw [upd_ne (ne0 b u e)]
    exact I.base.free b u e n hx
  · have q := I.base.tups b xs e
    rw [upd_ne (ne_of_none q hn)]
    exact q
  · have q := I.base.frzs b u xs e
    rw [upd_ne (ne_of_none q hn)]
    exact q
  · obtain ⟨m, q⟩ := I.base.tbls b ps e
    exact ⟨m, by rw [upd_ne (ne_of_none q hn)]; exact q⟩
  · rw [upd_ne (Ne.symm nL)]
    exact I.free
  · rw [upd_ne (neC x c e)]
    exact I.freeC x c e
  · obtain ⟨e, n, r⟩ := I.pin p hp
    exact ⟨e, by rw [upd_ne (np p hp)]; exact n, r⟩
  · by_cases hb : b = a
    · subst hb
      rw [upd_same] at e
      cases e
      exact new
    · rw [upd_ne hb] at e
      exact (I.hok b u e).stay (fun c v _ q => q) (fun c q => by rw [upd_ne (ne_of_none q hn)]; exact q) fun c xs q => by rw [upd_ne (ne_of_none q hn)]; exact q
end
/-- what the clause 'except x as n' wishes, where the error stays a value behind it -/
def wKeep (K : PySem.W.Frag) (c : Value) (i : Nat) (ts : Addr → Value → TS) (Wout : WX) (D : Ends) : WX := fun cls d σ H =>
  ∃ b, PySem.W.exmOne K cls c = some b ∧ (b = true → d = none ∧ ∀ a, H a = none → ts a cls { nx := fun σ' H' => D.nx (σ'.set i none) (upd H' a (ExK cls a)), rt := fun (y : V) (H' : Hp) => (D.rt y) (upd H' a (ExK cls a)), bk := fun σ' H' => D.bk (σ'.set i none) (upd H' a (ExK cls a)), ct := fun σ' H' => D.ct (σ'.set i none) (upd H' a (ExK cls a)) } (σ.set i (some (.ref a))) H) ∧ (b = false → Wout cls d σ H)
section
variable {X : Cx} {x n : Str} {c : Value} {i : Nat} {body suite : List Stmt} {b₀ : Stmt} {npp pos pos' : Pos} {tb : WX → TS} {ts : Addr → Value → TS} {Wout : WX}
theorem ps_try_keep (hs : X.stack = X.env :: X.outer) (hf : X.env.frame = some X.env.locals) (hex : X.ex = []) (hN : X.N.Nodup) (hi : X.N[i]? = some n) (hln : X.env.kindOf n = some .local) (hc : Names X x c) (tk : Takes X Wout)
    (hb : ∀ (W : WX) (pn : List (Addr × Obj)) (xe : Value → Shared → Prop), Takes (X.tr pn xe) W → PassesOwn (model X.prog X.w) X.A X.env xe → PSs (X.tr pn xe) body (tb W))
    (hsu : ∀ (a : Addr) (oe : Obj) (cls : Value) (pn : List (Addr × Obj)), PSs (X.suite a ((a, oe) :: pn)) (b₀ :: suite) (ts a cls)) :
    PS X (.Try body [.ExceptHandler (some (.Name x npp)) (some n) (b₀ :: suite) pos'] [] [] pos) (fun D σ H => tb (wKeep X.K c i ts Wout D) D σ H) := by
  refine ⟨fun pins s σ H D I h => ?_⟩
  have ok := I.ok
  have hfr : X.A.frames = some (X.env :: X.outer) := by rw [ok.frames, hs]
  have hloc : Loc X.env.scope n := .inl hln
  refine wpAny_Try_except ?_
  refine wpAny_mono ((hb (wKeep X.K c i ts Wout D) (X.pn ++ pins) (fun e s₁ => wpAny (model X.prog X.w) X.A (noteFrame e X.env) (fun _ s₂ => wpAny (model X.prog X.w) X.A (setFlight e none) (fun _ s₃ =>
    wpAny (model X.prog X.w) X.A (handleBy e X.env [.ExceptHandler (some (.Name x npp)) (some n) (b₀ :: suite) pos']) (SP X pins D) X.xe s₃) X.xe s₂) X.xe s₁) (fun u s' xx => ?_) PassesOwn.looking).run [] s σ H D (I.toTry _) h) (fun f s1 hsp => ?_) (fun e s1 he => he)
  · obtain ⟨a, B, sI, pins', σ', H', cls, d, rfl, J', nb, up, sky, na, os, ag, b, hb1, hyes, hno⟩ := xx
    have J : Inv X pins σ' H' sI := J'.ofTry ok
    have sky' : Sky B (X.env :: X.outer) a (Zc cls d) X.env.locals s'.heap := by rw [← hs]; exact sky
    show wpAny (model X.prog X.w) X.A (noteFrame (.ref a) X.env) _ _ _
    refine Sky.land Zc.steady hfr hf sky' fun h3 fl3 up3 => ?_
    have J3 : Inv X pins σ' H' { s' with heap := h3 } := J.landed nb fl3.1 (up.trans up3) os ag
    obtain ⟨oe3, vs3, he3, hz3, hd3⟩ := fl3.there
    have notFr : ∀ {h : Heap} {o : Obj} {vs : Array Value}, h.FunFrames B (X.env :: X.outer) → h.get? a = some o → o.data = .fields vs → a ∉ frs (X.env :: X.outer) := fun {h o vs} ff e dd hm => by
      obtain ⟨_, o', e', hnf⟩ := ff.mem hm
      rw [e] at e'; cases e'
      exact hnf _ dd
    have nfr := notFr fl3.2.2.1 he3 hd3
    have nI : sI.heap.get? a = none := by
      cases e : sI.heap.get? a with
      | none => rfl
      | some o =>
        have z := nb a o e (by rw [hs]; exact nfr)
        rw [fl3.2.1] at z
        cases z
    have n0 : X.s_0.heap.get? a = none := by
      cases e : X.s_0.heap.get? a with
      | none => rfl
      | some o =>
        obtain ⟨o', z⟩ := J.base.there a o e (by rw [hex]; exact fun z => nomatch z)
        rw [nI] at z
        cases z
    have np : ∀ p ∈ X.pn ++ pins, p.1 ≠ a := fun p hp z => by
      have q := (J.pin p hp).1
      rw [z, nI] at q
      cases q
    have nL : a ≠ X.env.locals := fun z => nfr (List.mem_filterMap.mpr ⟨X.env, List.mem_cons_self, by rw [hf, z]⟩)
    have nF : a ∉ X.fs := fun hm => by
      obtain ⟨e, he, q⟩ := List.mem_filterMap.mp hm
      exact nfr (List.mem_filterMap.mpr ⟨e, List.mem_cons_of_mem _ he, q⟩)
    have S3 := J3.suite he3 hd3 na nL nF
    refine wpAny_handleBy_cons (codeAny_handlers_test ?_) (by intro q; cases q)
    have LT : PySem.W.Looks (model X.prog X.w) h3 (typeOf (.ref a)) cls := fun A Q E s k q => wpAny_typeOf_ref (k _ _ he3) (by rw [hz3.1]; exact q)
    have LM := PySem.W.exm_one (M := model X.prog X.w) (J3.kIn) LT hb1
    have test : ∀ {Q : Value → Shared → Prop} {E : Value → Shared → Prop}, Q c { s' with heap := h3 } → wpAny (model X.prog X.w) (X.A.mark (some (.ref a))) (eval (.Name x npp) X.env) Q E { s' with heap := h3 } := fun {Q E} q => by
      obtain ⟨hg, hdbg, hm | ⟨hm, hv, hnn⟩⟩ := hc
      · exact ld_glob (X := X.suite a ((a, oe3) :: (X.pn ++ pins))) S3 hg hm q hdbg
      · exact ld_blt (X := X.suite a ((a, oe3) :: (X.pn ++ pins))) S3 hg hm hv q hnn hdbg
    refine test (LM.here ?_)
    cases b with
    | true =>
      refine codeAny_handlers_suite_as ?_
      refine HandSPX.lands_againZ fl3 fun h4 fl4 up4 => ?_
      have J4 : Inv X pins σ' H' { s' with heap := h4 } := J.landed nb fl4.1 ((up.trans up3).trans up4) os ag
      obtain ⟨oe4, vs4, he4, hz4, hd4⟩ := fl4.there
      have S4 := J4.suite he4 hd4 na nL nF
      obtain ⟨ed, hyes⟩ := hyes rfl
      rw [ed] at hz4
      refine store_ok (X := X.suite a ((a, oe4) :: (X.pn ++ pins))) (v := .ref a) S4 hN hi hloc rfl (fun s5 S5 => ?_) (.inr hln)
      refine wpAny_mono ((hsu a oe4 cls (X.pn ++ pins)).run [] s5 _ H' _ S5 (hyes a na)) (fun f s6 hsp => ?_) (fun _ _ z => False.elim z)
      have end_ : ∀ {σ6 : L2.St} {H6 : Hp} {Q : Shared → Prop}, Inv (X.suite a ((a, oe4) :: (X.pn ++ pins))) [] σ6 H6 s6 → (∀ s7, Inv X pins (σ6.set i none) (upd H6 a (ExK cls a)) s7 → Q s7) →
          wpAny (model X.prog X.w) X.A (do bindName X.env n .none; unbindBehindTheSuite X.env n pos') (fun _ s7 => Q s7) X.xe s6 := fun {σ6 H6 Q} S6 hq => by
        have pa := S6.pin (a, oe4) (List.mem_append.mpr (.inl List.mem_cons_self))
        have U : Inv X pins σ6 H6 s6 := S6.unsuite ok
        have V : Inv X ((a, oe4) :: pins) σ6 H6 s6 := ⟨U.ok, U.os, U.bare, U.base, U.loc, U.cell, U.free, U.freeC, fun p hp => by
          rcases List.mem_append.mp hp with h1 | h1
          · exact U.pin p (List.mem_append.mpr (.inl h1))
          · rcases List.mem_cons.mp h1 with h2 | h2
            · rw [h2]
              exact pa
            · exact U.pin p (List.mem_append.mpr (.inr h2)), U.hok, U.len⟩
        refine gone_ok V hN hi hln fun s7 V7 => hq s7 ?_
        have p7 := V7.pin (a, oe4) (List.mem_append.mpr (.inr List.mem_cons_self))
        have U7 : Inv X pins (σ6.set i none) H6 s7 := ⟨V7.ok, V7.os, V7.bare, V7.base, V7.loc, V7.cell, V7.free, V7.freeC, fun p hp => by
          rcases List.mem_append.mp hp with h1 | h1
          · exact V7.pin p (List.mem_append.mpr (.inl h1))
          · exact V7.pin p (List.mem_append.mpr (.inr (List.mem_cons_of_mem _ h1))), V7.hok, V7.len⟩
        exact inv_track U7 p7.2.1 n0 p7.1 hd4 nL np (exK_ok p7.1 hz4 hd4)
      cases f with
      | next =>
        obtain ⟨σ6, H6, S6, q6⟩ := hsp
        exact end_ S6 fun s7 J7 => ⟨_, _, J7, q6⟩
      | brk =>
        obtain ⟨σ6, H6, S6, q6⟩ := hsp
        exact end_ S6 fun s7 J7 => ⟨_, _, J7, q6⟩
      | cont =>
        obtain ⟨σ6, H6, S6, q6⟩ := hsp
        exact end_ S6 fun s7 J7 => ⟨_, _, J7, q6⟩
      | ret u =>
        obtain ⟨v6, σ6, H6, S6, r6, q6⟩ := hsp
        exact end_ S6 fun s7 J7 => ⟨_, _, _, J7, r6, q6⟩
    | false =>
      show wpAny _ X.A (handleBy (.ref a) X.env []) _ _ _
      refine wpAny_handleBy_nil ?_
      obtain ⟨k1, k2, k3, oe, vs, T, oT, ts', he, hz, hd, h1, hr⟩ := id fl3
      unfold PySem.passOn
      refine wpAny_bind (wpAny_field he hd h1 ?_)
      rw [if_neg (show ¬ ((Value.ref T == Value.none) = true) from by simp)]
      have fin : wpAny (model X.prog X.w) X.A (setFlight (.ref a) X.env.frame) (fun _ s4 => wpAny (model X.prog X.w) X.A (throw (.ref a) : Sem Flow) (SP X pins D) X.xe s4) X.xe { s' with heap := h3 } := by
        rw [hf]
        refine HandSPX.setFlight_upZ fl3 fun h4 hh4 up4 => wpAny_throw (tk _ _ ?_)
        exact ⟨a, B, sI, pins, σ', H', cls, d, rfl, J, nb, (up.trans up3).trans up4, .inr (.inr (by rw [hs]; exact hh4)), na, os, ag, hno rfl⟩
      first
        | exact wpAny_bind (wpAny_pure (wpAny_bind fin))
        | exact wpAny_bind fin
  · cases f with
    | next =>
      obtain ⟨σ', H', J', q⟩ := hsp
      exact wpAny_execs_nil ⟨σ', H', J'.ofTry ok, q⟩
    | brk =>
      obtain ⟨σ', H', J', q⟩ := hsp
      exact ⟨σ', H', J'.ofTry ok, q⟩
    | cont =>
      obtain ⟨σ', H', J', q⟩ := hsp
      exact ⟨σ', H', J'.ofTry ok, q⟩
    | ret u =>
      obtain ⟨v, σ', H', J', r, q⟩ := hsp
      exact ⟨v, σ', H', J'.ofTry ok, r, q⟩
end
/-! ### isinstance of it -/
/-- isinstance(caught, c), c one class; isinstance(caught, (c1, ..)) -/
def rIsX (K : PySem.W.Frag) : List V → Hp → VK → Prop := fun xs H Q => ∃ (a D : Addr) (c : V) (b : Bool), xs = [.ref a, c] ∧ H a = some (ExK (.ref D) a) ∧ L2.ExcC K D ∧
  ((∃ u, ClsV c u ∧ PySem.W.kitOne K (.ref D) u = some b) ∨ ∃ tp cs us, c = .ref tp ∧ H tp = some (.tup cs) ∧ Paired ClsV cs us ∧ PySem.W.kitAny K (.ref D) us = some b) ∧ Q (.bl b) H
theorem call_isX {X : Cx} : CallR X (.builtin "isinstance") (rIsX X.K) := by
  intro pins s σ H xs us Q I r h
  obtain ⟨a, D, c, b, rfl, ha, C, hc, q⟩ := h
  obtain ⟨u1, u2, rfl, r1, r2⟩ := vals2 r
  cases (show u1 = Value.ref a from r1)
  obtain ⟨⟨oe, vs, ho, hz, hv⟩, _, _⟩ := I.hok a _ ha
  have J : PySem.W.InstAt s.heap a oe D none := by
    obtain ⟨oc, od, oda, osl⟩ := oe
    obtain ⟨h1, h2⟩ := hz
    dsimp only at h1 h2 hv
    subst h1 h2 hv
    exact ⟨ho, rfl, rfl, trivial⟩
  have Z := PySem.W.handS_kitx_exc (K := X.K) (x := a) (ox := oe) C.hg C.hk C.hs C.hd C.ha C.hn C.ht C.hm
  rcases hc with ⟨u, k, e⟩ | ⟨tp, cs, ws, rfl, hT, k, e⟩
  · have e2 := k.eq r2
    subst e2
    exact PySem.W.kia_one Z I.kIn J e (fun z => nomatch z) fun tk => ⟨.bl b, H, I.tok tk, rfl, q⟩
  · cases (show u2 = Value.ref tp from r2)
    obtain ⟨_, its, rv, o, h1, h2, n, h3⟩ := (show ObjOk X.prog X.w H s.heap tp (.tup cs) from I.hok tp _ hT)
    have e3 := ClsV.all k rv
    subst e3
    obtain ⟨oc, od, dt, sl⟩ := o
    simp only at h2 h3
    subst h2 h3
    exact PySem.W.kia_tup Z I.kIn J h1 e (fun z => nomatch z) fun tk => ⟨.bl b, H, I.tok tk, rfl, q⟩
/-! ### making one, raising it -/
section
variable {X : Cx} {C : Addr} {bmB : List Value} {B newId initId : String}
/-- C(e), to be raised -/
theorem pmk_any {x : Str} {e : Expr} {ta : TE} {p pos : Pos} (F : ExcBaseFacts B newId initId bmB) (q : PySem.W.excIn X.K C bmB newId = true) (gC : X.mg x = some (.ref C)) (kC : PySem.W.keepIn X.K (.ref C) = true) (r : Raises X (.ref C)) (hg : Gl X x)
    (he : PE X e ta) (hs : starEach [e] X.env = (false, eval e X.env) :: starEach [] X.env := by rfl) (hdb : (x == ("__debug__" : Str)) = false := by decide) : PMk X (.Call (.Name x p) [e] [] pos) (fun σ H Q => ta σ H fun _ H1 => Q (.ref C) none H1) := by
  intro pins s σ H Q I h
  refine wpAny_Call_Name_kw (ld_glob I hg gC ?_ hdb)
  refine PySem.W.callWith_K (h₀ := X.base) I.ok.mod.kin kC ?_ hs (by rfl)
  rw [hs]
  show wpAny _ _ (spliced ((false, eval e X.env) :: backTo pos (starEach [] X.env))) _ _ s
  refine Calls.spliced_cons (thn (he.run pins s σ H _ I h) fun u s1 ⟨v, H1, I1, r1, q1⟩ => ?_)
  refine Calls.spliced_nil ⟨I1.kIn, ?_⟩
  show wpAny _ _ (call (.ref C) [u]) _ _ _
  obtain ⟨bm, N, nm, qn, bs, hdct, sn, sub, ab, col, dd, k0, k1, k2, k3, k5, mN, hC, hN, hni, T⟩ := exc_obj I1.kIn q
  exact wpAny_call_exc_subT F T hC hN hni (fun h' e hm => mk_of I1 hm r q1 (I1.hok.gone hm.new)) (by show 1 ≤ sizeLine; rw [sizeLine_eq]; omega)
/-- an error's object whose args are the tuple at t -/
def ExA (cls : Value) (t a : Addr) : HO := .ext fun h => ∃ (oe : Obj) (vs : Array Value), h.get? a = some oe ∧ oe.cls = cls ∧ oe.data = .fields vs ∧ vs[0]? = some (.ref t)
/-- C(e), as a value -/
theorem pe_excA {x : Str} {e : Expr} {ta : TE} {p pos : Pos} (F : ExcBaseFacts B newId initId bmB) (q : PySem.W.excIn X.K C bmB newId = true) (gC : X.mg x = some (.ref C)) (kC : PySem.W.keepIn X.K (.ref C) = true) (hg : Gl X x)
    (he : PE X e ta) (hs : starEach [e] X.env = (false, eval e X.env) :: starEach [] X.env := by rfl) (hdb : (x == ("__debug__" : Str)) = false := by decide) :
    PE X (.Call (.Name x p) [e] [] pos) (fun σ H Q => ta σ H fun v H1 => ∀ t a, H1 t = none → H1 a = none → t ≠ a → Q (.ref a) (upd (upd H1 t (.tup [v])) a (ExA (.ref C) t a))) := by
  refine ⟨fun pins s σ H Q I h => ?_⟩
  refine wpAny_Call_Name_kw (ld_glob I hg gC ?_ hdb)
  refine PySem.W.callWith_K (h₀ := X.base) I.ok.mod.kin kC ?_ hs (by rfl)
  rw [hs]
  show wpAny _ _ (spliced ((false, eval e X.env) :: backTo pos (starEach [] X.env))) _ _ s
  refine Calls.spliced_cons (thn (he.run pins s σ H _ I h) fun u s1 ⟨v, H1, I1, r1, q1⟩ => ?_)
  refine Calls.spliced_nil ⟨I1.kIn, ?_⟩
  show wpAny _ _ (call (.ref C) [u]) _ _ _
  obtain ⟨bm, N, nm, qn, bs, hdct, sn, sub, ab, col, dd, k0, k1, k2, k3, k5, mN, hC, hN, hni, T⟩ := exc_obj I1.kIn q
  refine wpAny_call_exc_subT F T hC hN hni (fun h' a hm => ?_) (by show 1 ≤ sizeLine; rw [sizeLine_eq]; omega)
  obtain ⟨t, ha, nt, ht⟩ := hm.there
  have hna : H1 a = none := I1.hok.gone hm.new
  have hnt : H1 t = none := I1.hok.gone nt
  have hta : t ≠ a := fun z => by
    rw [z, ha] at ht
    cases ht
  refine ⟨.ref a, _, ?_, rfl, q1 t a hnt hna hta⟩
  have old : ∀ {b : Addr} {o : HO}, H1 b = some o → upd (upd H1 t (.tup [v])) a (ExA (.ref C) t a) b = some o := fun {b o} e => by
    rw [upd_ne (ne_of_none e hna), upd_ne (ne_of_none e hnt)]
    exact e
  refine I1.un (t' := s1.toks) ⟨fun b o e _ _ _ => hm.keeps b o e, fun b o e _ _ _ => ⟨o.slots, hm.keeps b o e⟩, fun b o e n _ => ?_, fun b o e _ => ⟨o, hm.keeps b o e⟩, fun b xs e => old e, fun b o xs e => old e, fun b ps e => ⟨#[], by rw [old e]; simp⟩⟩ fun b o e => ?_
  · rw [upd_ne (fun z => by rw [z, hm.new] at e; cases e), upd_ne (fun z => by rw [z, nt] at e; cases e)]
    exact n
  · by_cases hba : b = a
    · subst hba
      rw [upd_same] at e
      cases e
      exact ⟨⟨_, _, ha, rfl, rfl, rfl⟩, ⟨_, ha⟩, fun _ _ ⟨o, w, z, z2⟩ k => ⟨o, w, k o z, z2⟩⟩
    · rw [upd_ne hba] at e
      by_cases hbt : b = t
      · subst hbt
        rw [upd_same] at e
        cases e
        exact ⟨by show 1 ≤ sizeLine; rw [sizeLine_eq]; omega, [u], .cons r1 .nil, _, ht, rfl, _, rfl⟩
      · rw [upd_ne hbt] at e
        exact (I1.hok b o e).stay (fun c w _ z => hm.keeps c w z) (fun c z => old z) fun c xs z => old z
end
/-- str of one that was made with a text -/
def rStrX (K : PySem.W.Frag) : List V → Hp → VK → Prop := fun xs H Q => ∃ (a t D : Addr) (m : Str), xs = [.ref a] ∧ H a = some (ExA (.ref D) t a) ∧ H t = some (.tup [.str m]) ∧
  PySem.W.findIn K (.ref D) "__str__" = some (some (.builtin "BaseException.__str__")) ∧ PySem.W.subIn K (.ref D) (.type "BaseException") = some true ∧ Q (.str m) H
theorem call_strX {X : Cx} (hu : X.A.units + 64 < cLine) : CallR X (.type "str") (rStrX X.K) := by
  intro pins s σ H xs us Q I r h
  obtain ⟨a, t, D, m, rfl, ha, ht, hs, hB, q⟩ := h
  obtain ⟨u, rfl, r1⟩ := vals1 r
  cases (show u = Value.ref a from r1)
  obtain ⟨⟨oe, vs, ho, hc, hd, h0⟩, _, _⟩ := I.hok a _ ha
  obtain ⟨_, its, rv, o, h1, h2, n, h3⟩ := (show ObjOk X.prog X.w H s.heap t (.tup [.str m]) from I.hok t _ ht)
  obtain ⟨tk, rfl⟩ : ∃ tk, its = [.str m tk] := by
    obtain ⟨u, rfl, tk, e⟩ := vals1 rv
    exact ⟨tk, by rw [e]⟩
  exact PySem.P.str_of_C_one (by omega) ⟨I.kIn, oe, vs, ho, hc, hd, h0⟩ ⟨o, n, h1, h2, h3⟩ hs hB ⟨.str m, H, I, ⟨tk, rfl⟩, q⟩
/-! ### a def that raises -/
theorem takes_cx {P : Program} {w : World} {K : PySem.W.Frag} {mg : Str → Option Value} {base : Heap} {N : List Str} {qual : Str} {scope : Scope} {f : Addr} {cd : Value} {A : Around} {outer : List Env} {s : Shared} {H : Hp} {E : XK} :
    Takes (cxOf (L2.CX P w) P w K mg base N qual scope f cd A outer s H E) (fun cls d _ H => E cls d H) := takes_of rfl rfl rfl rfl
theorem passes_cx {P : Program} {w : World} {K : PySem.W.Frag} {mg : Str → Option Value} {base : Heap} {N : List Str} {qual : Str} {scope : Scope} {f : Addr} {cd : Value} {A : Around} {outer : List Env} {s : Shared} {H : Hp} {E : XK} :
    Passes (L2.CX P w) (cxOf (L2.CX P w) P w K mg base N qual scope f cd A outer s H E) E := passes_call (W := fun cls d _ H => E cls d H) takes_cx fun _ _ _ _ h => h
theorem pass_own {P : Program} {w : World} {K : PySem.W.Frag} {mg : Str → Option Value} {base : Heap} {N : List Str} {qual : Str} {scope : Scope} {f : Addr} {cd : Value} {A : Around} {outer : List Env} {s : Shared} {H : Hp} {E : XK} :
    PassesOwn (model P w) (cxOf (L2.CX P w) P w K mg base N qual scope f cd A outer s H E).A (cxOf (L2.CX P w) P w K mg base N qual scope f cd A outer s H E).env (cxOf (L2.CX P w) P w K mg base N qual scope f cd A outer s H E).xe := passes_of rfl
/-- code that isn't reached -/
theorem pss_dead {X : Cx} {b : List Stmt} : PSs X b (fun _ _ _ => False) := ⟨fun _ _ _ _ _ _ h => h.elim⟩
/-- raise C(e) -/
theorem ps_raiseX {X : Cx} {C : Addr} {x : Str} {e : Expr} {ta : TE} {p pos pos2 : Pos} {W : WX} (hc : X.calm = true) (tk : Takes X W) (F : ExcFacts X.K C) (gC : X.mg x = some (.ref C)) (hg : Gl X x) (he : PE X e ta)
    (hs : starEach [e] X.env = (false, eval e X.env) :: starEach [] X.env := by rfl) (hdb : (x == ("__debug__" : Str)) = false := by decide) :
    PS X (.Raise (some (.Call (.Name x p) [e] [] pos)) none pos2) (fun _ σ H => ta σ H fun _ H1 => W (.ref C) none σ H1) :=
  ps_raise hc tk (pmk_any PySem.F.excBase_ValueError F.1 gC F.2.1 (raises_own F.2.2.1 F.2.2.2) hg he hs hdb)
/-! ### a heap without one of its lists -/
def rmv (H : Hp) (B : Addr) : Hp := fun a => if a = B then none else H a
theorem rmv_at {H : Hp} {B : Addr} : rmv H B B = none := if_pos rfl
theorem rmv_ne {H : Hp} {B a : Addr} (h : a ≠ B) : rmv H B a = H a := if_neg h
theorem rmv_ex (H : Hp) (B : Addr) : Ex (rmv H B) H := fun a o h => by
  by_cases z : a = B
  · rw [z, rmv_at] at h
    cases h
  · rw [rmv_ne z] at h
    exact h
theorem rmv_b (H : Hp) (B : Addr) : ExB B H (rmv H B) := fun a o n h => by
  rw [rmv_ne n]
  exact h
theorem rmv_in {W H : Hp} {B : Addr} (e : Ex W H) (n : W B = none) : Ex W (rmv H B) := fun a o h => by
  rw [rmv_ne (ne_of_none h n)]
  exact e _ _ h
theorem rmv_up {H : Hp} {B : Addr} {o : HO} : rmv (upd H B o) B = rmv H B := funext fun a => by
  by_cases z : a = B
  · rw [z, rmv_at, rmv_at]
  · rw [rmv_ne z, rmv_ne z, upd_ne z]
theorem rmv_mono {H H' : Hp} {B : Addr} (e : Ex H H') : Ex (rmv H B) (rmv H' B) := rmv_in ((rmv_ex H B).trans e) rmv_at
theorem rmv_dr {H H' : Hp} {B : Addr} (e : ExB B H H') : Ex (rmv H B) (rmv H' B) := rmv_in ((rmv_ex H B).keepB rmv_at e) rmv_at
/-! ### what may be shown where sys.modules is known to be a dict: lists with dicts in them, too -/
structure Sw (k n : Nat) (d : PyData) : Prop where
  sh : d.showable = true
  tx : txtOk d
  dp : d.depth ≤ k
  wd : wdt d ≤ n
structure SwA (k n : Nat) (ds : List PyData) : Prop where
  sh : PyData.showableAll ds = true
  tx : txtOks ds
  dp : PyData.depthAll ds ≤ k
  wd : wdts ds ≤ n
theorem Sh.sw {k n : Nat} {d : PyData} (h : Sh k n d) : Sw k n d := ⟨h.sh, h.tx, h.dp, h.wd⟩
theorem Sw.le {k n k2 n2 : Nat} {d : PyData} (h : Sw k n d) (hk : k ≤ k2) (hn : n ≤ n2) : Sw k2 n2 d := ⟨h.sh, h.tx, Nat.le_trans h.dp hk, Nat.le_trans h.wd hn⟩
theorem SwA.le {k n k2 n2 : Nat} {ds : List PyData} (h : SwA k n ds) (hk : k ≤ k2) (hn : n ≤ n2) : SwA k2 n2 ds := ⟨h.sh, h.tx, Nat.le_trans h.dp hk, Nat.le_trans h.wd hn⟩
theorem swa_nil : SwA 0 0 [] := ⟨rfl, trivial, Nat.le_refl 0, Nat.le_refl _⟩
theorem swa_cons {k n k2 m : Nat} {d : PyData} {ds : List PyData} (h : Sw k n d) (r : SwA k2 m ds) : SwA (max k k2) (n + 2 + m) (d :: ds) := by
  refine ⟨?_, ⟨h.tx, r.tx⟩, ?_, ?_⟩
  · show (d.showable && PyData.showableAll ds) = true
    rw [h.sh, r.sh]
    rfl
  · show max d.depth (PyData.depthAll ds) ≤ max k k2
    have := h.dp
    have := r.dp
    omega
  · show wdt d + 2 + wdts ds ≤ n + 2 + m
    have := h.wd
    have := r.wd
    omega
theorem swa_all {k n : Nat} : ∀ {ds : List PyData}, (∀ d ∈ ds, Sw k n d) → SwA k ((n + 2) * ds.length) ds
  | [], _ => ⟨rfl, trivial, Nat.zero_le _, Nat.zero_le _⟩
  | d :: ds, h => by
    have r := swa_cons (h d List.mem_cons_self) (swa_all (ds := ds) fun x hx => h x (List.mem_cons_of_mem _ hx))
    rw [Nat.max_self] at r
    refine r.le (Nat.le_refl _) ?_
    rw [List.length_cons, Nat.mul_succ]
    omega
theorem sw_tup {k n : Nat} {ds : List PyData} (h : SwA k n ds) : Sw (k + 1) (3 + n) (.tuple ds) := ⟨h.sh, h.tx, Nat.succ_le_succ h.dp, Nat.add_le_add_left h.wd 3⟩
theorem sw_lst {k n : Nat} {ds : List PyData} (h : SwA k n ds) : Sw (k + 1) (2 + n) (.list ds) := ⟨h.sh, h.tx, Nat.succ_le_succ h.dp, Nat.add_le_add_left h.wd 2⟩
theorem sw_dict0 : Sw 1 2 (.dict []) := ⟨rfl, trivial, Nat.le_of_ble_eq_true rfl, Nat.le_of_ble_eq_true rfl⟩
theorem sw_dict1 {a b : Int} (ha : a.natAbs.log2 < 1920) (hb : b.natAbs.log2 < 1920) : Sw 1 4000 (.dict [(.int a, .int b)]) := ⟨by
  show ((PyData.int a).showable && (PyData.int b).showable && true) = true
  rw [showI ha, showI hb]
  rfl, ⟨trivial, trivial, trivial⟩, Nat.le_of_ble_eq_true rfl, Nat.le_of_ble_eq_true rfl⟩
theorem sw_pair {k n : Nat} {d e : PyData} (h1 : Sw k n d) (h2 : Sw k n e) : Sw (k + 1) (2 * n + 10) (.list [d, e]) :=
  (sw_lst (swa_cons h1 (swa_cons h2 swa_nil))).le (by omega) (by omega)
section
variable {X : Cx} {pins : List (Addr × Obj)} {σ : L2.St} {H : Hp} {s : Shared}
mutual
theorem Dt.readsS (S : SMK X.K) (I : Inv X pins σ H s) : ∀ (d : PyData) (v : V) (u : Value), Dt H v d → RelV v u → ∃ as, Reads s.heap u d as ∧ sysModules ∉ as
  | .none, _, _, h, r => by
    cases h
    cases r
    exact ⟨_, .none, fun z => nomatch z⟩
  | .bool b, _, _, h, r => by
    cases h
    cases r
    exact ⟨_, .bool b, fun z => nomatch z⟩
  | .int i, _, _, h, r => by
    cases h
    obtain ⟨t, rfl⟩ := r
    exact ⟨_, .int i t, fun z => nomatch z⟩
  | .str x, _, _, h, r => by
    cases h
    obtain ⟨t, rfl⟩ := r
    exact ⟨_, .str x t, fun z => nomatch z⟩
  | .list ds, _, _, h, r => by
    cases h with
    | lst hs ha =>
      cases r
      obtain ⟨its, rv, ⟨o, n, ho, hc, _, hd⟩, _⟩ := I.list (sq_of hs)
      obtain ⟨as, hr, hn⟩ := DtAll.readsS S I ds _ its ha rv
      refine ⟨_, .list ho hc hd hr, fun z => ?_⟩
      rcases List.mem_cons.mp z with z | z
      · obtain ⟨o2, es, ep, h1, h2⟩ := S
        have h3 := I.kIn _ _ h1
        rw [z, ho] at h3
        rw [← Option.some.inj h3, hd] at h2
        cases h2
      · exact hn z
  | .tuple ds, _, _, h, r => by
    cases h with
    | tup hs ha =>
      cases r
      obtain ⟨its, rv, ⟨o, ho, hc, n, hd⟩, _⟩ := I.tuple (st_of hs)
      obtain ⟨as, hr, hn⟩ := DtAll.readsS S I ds _ its ha rv
      exact ⟨_, .tuple ho hc hd hr, hn⟩
  | .dict _, _, _, h, r => by
    cases h with
    | @dic a ns hs =>
      cases r
      obtain ⟨_, hsm, ws, kv, o, es, ep, h1, h2, h3, _, h5, _⟩ := (show ObjOk X.prog X.w H s.heap a (.dK (ns.map fun p => ((Sum.inl p.1 : Key), oV p.2))) from I.hok a _ hs)
      obtain ⟨q1, q2⟩ := kv_reads (X := X) (h := s.heap) _ _ _ kv h5
      refine ⟨_, .dict (kvs := ns.map fun p => (PyData.int p.1, oD p.2)) h1 h2.1 h3 (by rw [List.map_map]; exact q1) (by rw [List.map_map]; exact q2), fun z => ?_⟩
      have z : sysModules ∈ [a] := z
      have z := List.mem_singleton.mp z
      rw [← z] at hsm
      exact absurd hsm (by simp)
theorem DtAll.readsS (S : SMK X.K) (I : Inv X pins σ H s) : ∀ (ds : List PyData) (vs : List V) (us : List Value), DtAll H vs ds → Vals vs us → ∃ as, ReadsAll s.heap us ds as ∧ sysModules ∉ as
  | [], _, _, h, r => by
    cases h
    cases r
    exact ⟨_, .nil, fun z => nomatch z⟩
  | d :: ds, _, _, h, r => by
    cases h with
    | cons h1 h2 =>
      cases r with
      | cons r1 r2 =>
        obtain ⟨as, q1, n1⟩ := Dt.readsS S I d _ _ h1 r1
        obtain ⟨bs, q2, n2⟩ := DtAll.readsS S I ds _ _ h2 r2
        refine ⟨_, .cons q1 q2, fun m => ?_⟩
        rcases List.mem_append.mp m with m | m
        · exact n1 m
        · exact n2 m
end
def rReprX : List V → Hp → VK → Prop := fun xs H Q => ∃ v d, xs = [v] ∧ Dt H v d ∧ Sw 50 10000000 d ∧ Q (.str d.shown) H
theorem call_reprX (S : SMK X.K) (hG : X.A.guards = some []) (hu : X.A.units + 64 < cLine) : CallR X (.builtin "repr") rReprX := by
  intro pins s σ H xs us Q I r h
  obtain ⟨v, d, rfl, hd, hs, q⟩ := h
  obtain ⟨u, rfl, rv⟩ := vals1 r
  have hln : d.shown.length ≤ sizeLine := Nat.le_trans (Nat.le_trans (shown_le d hs.sh hs.tx) hs.wd) (by decide)
  have fin : ∀ (a : Addr), v = .ref a → wpAny (model X.prog X.w) X.A (call (.builtin "repr") [u]) (EP X pins σ Q) X.xe s := fun a e => by
    subst e
    have e2 : u = Value.ref a := rv
    subst e2
    obtain ⟨as, hr, hn⟩ := Dt.readsS S I d _ _ hd rv
    have := hs.dp
    refine repr_of_reads' hr hs.sh (fun _ => hn) hG (by omega) (fun _ _ z => z) (fun h' t tk hk => ?_) hln
    exact ⟨.str d.shown, H, I.kept (t' := tk) hk, ⟨t, rfl⟩, q⟩
  cases hd with
  | non =>
    cases (show u = Value.none from rv)
    exact PySem.P.repr_of_none ⟨.str _, H, I.tok _, ⟨_, rfl⟩, q⟩
  | bl b =>
    cases (show u = Value.bool b from rv)
    exact PySem.P.repr_of_bool ⟨.str _, H, I.tok _, ⟨_, rfl⟩, q⟩
  | int i =>
    obtain ⟨t, rfl⟩ := (show ∃ t, u = Value.int i t from rv)
    exact PySem.P.repr_of_int (of_decide_eq_true hs.sh) ⟨.str _, H, I.tok _, ⟨_, rfl⟩, q⟩
  | str x =>
    obtain ⟨t, rfl⟩ := (show ∃ t, u = Value.str x t from rv)
    exact PySem.P.repr_of_str ⟨.str _, H, I.tok _, ⟨_, rfl⟩, q⟩ hln
  | lst a b => exact fin _ rfl
  | tup a b => exact fin _ rfl
  | dic a => exact fin _ rfl
/-! ### a text times a number -/
def repT (m : Str) (k : Int) : Str := ⟨(List.replicate k.toNat m.cps).foldl (· ++ ·) #[]⟩
def rRepS : R2 := fun x y H Q => ∃ (m : Str) (k : Int), x = .str m ∧ y = .int k ∧ 2 ≤ k ∧ k < 1000000 ∧ m.length ≠ 0 ∧ m.length * k.toNat ≤ 1000000 ∧ (repT m k).length ≤ 1000000 ∧ Q (.str (repT m k)) H
theorem op_repS : OpR X (binaryOp .Mult) rRepS := by
  intro pins s σ H x y v u Q I rx ry h
  obtain ⟨m, k, rfl, rfl, k0, k1, m0, m1, m2, q⟩ := h
  obtain ⟨t, rfl⟩ := rx
  obtain ⟨t2, rfl⟩ := ry
  have hb : (k == 1 || m.length == 0) = false := by
    rw [Bool.or_eq_false_iff]
    exact ⟨by simp; omega, by simp; omega⟩
  refine PySem.P.mul_str ?_ (fun _ _ => ?_) (fun _ _ => ?_) ?_
  · rw [decide_eq_false (by omega), decide_eq_false (by omega)]
    rfl
  · have h1 : (2 ^ 63 - 1 : Int) / 1000000 ≤ (2 ^ 63 - 1) / k := by
      refine Int.le_ediv_of_mul_le (by omega) ?_
      have : (2 ^ 63 - 1 : Int) / 1000000 * k ≤ (2 ^ 63 - 1) / 1000000 * 1000000 := Int.mul_le_mul_of_nonneg_left (by omega) (by decide)
      omega
    have h2 : m.length ≤ 1000000 := by
      have : m.length * 1 ≤ m.length * k.toNat := Nat.mul_le_mul_left _ (by omega)
      omega
    omega
  · show decide (_ > _) = false
    refine decide_eq_false ?_
    have := sizeLine_eq
    omega
  · rw [if_neg (by omega), if_neg (by rw [hb]; exact Bool.false_ne_true)]
    refine ⟨?_, ⟨.str (repT m k), H, I.tok _, ⟨_, rfl⟩, q⟩⟩
    have h9 : (repT m k).length ≤ 1000000 := m2
    have := sizeLine_eq
    show (repT m k).length ≤ sizeLine
    omega
end
/-! ### a code object's table, as a thing that may grow -/
def TabX (P : Addr) : HO := .ext fun h => ∃ ps : Array Value, h.get? P = some { cls := .none, data := .fields ps } ∧ TriplesOk ps.toList
theorem tabX_ok {Pg : Program} {w : World} {H : Hp} {h : Heap} {P : Addr} {ps : Array Value} (e : h.get? P = some { cls := .none, data := .fields ps }) (t : TriplesOk ps.toList) : ObjOk Pg w H h P (TabX P) :=
  ⟨⟨ps, e, t⟩, ⟨_, e⟩, fun _ _ ⟨qs, q, r⟩ k => ⟨qs, k _ q, r⟩⟩
section
variable {X : Cx} {pins : List (Addr × Obj)} {σ : L2.St} {H : Hp} {s : Shared}
theorem inv_tabX {P : Addr} {ps : Array Value} {h' : Heap} {g' : Array GenState} {d' : Drawn} {t' : Nat} (I : Inv X pins σ H s) (hP : H P = some (TabX P)) (k : ∀ b o, b ≠ P → s.heap.get? b = some o → h'.get? b = some o)
    (hm : h'.get? P = some { cls := .none, data := .fields ps }) (ht : TriplesOk ps.toList) (hg : AllBare g') :
    Inv X pins σ H { s with heap := h', gens := g', drawn := d', toks := t' } := by
  have nN : ∀ b, H b = none → b ≠ P := fun b e z => by
    rw [z, hP] at e
    cases e
  refine I.step (g' := g') (d' := d') (ch := []) (fun b hb => absurd hb (by simp)) (fun b o _ _ _ e n => k b o (nN b n) e) (fun b o _ _ _ e n => ⟨o.slots, k b o (nN b n) e⟩)
    (fun b o _ e n => n) (fun b o _ e => ?_) (fun b xs e => e) (fun b o u e => e) (fun b qs e => ⟨#[], by rw [e]; simp⟩) (fun m hn => ?_) (fun b u e => ?_) hg
  · by_cases hb : b = P
    · rw [hb]
      exact ⟨_, hm⟩
    · exact ⟨o, k b o hb e⟩
  · obtain ⟨ob, es, ep, ho, r⟩ := hn
    exact ⟨ob, es, ep, k _ ob (nN _ I.free) ho, r⟩
  · by_cases hb2 : b = P
    · rw [hb2, hP] at e
      cases e
      rw [hb2]
      exact tabX_ok hm ht
    · refine (I.hok b u e).stay (fun d v hd q => k d v ?_ q) (fun d q => q) fun d xs q => q
      rcases hd with z | z
      · rw [z]
        exact hb2
      · intro y
        rw [y, hP] at z
        cases z
end
/-! ### a generator expression's turns -/
theorem over_cl {A : Around} {elt : Expr} {gs : List Comprehension} {sc : Scope} {p : Pos} {it acc : Value} {env : Env} : A.over (.compLoop (.GeneratorExp elt gs sc p) 0 it acc env) [] = A.deeper env := by
  first
    | rfl
    | (obtain ⟨hd, d, fr, gs, u⟩ := A; simp [Around.over, Around.deeper, marksOver, frameCount, unitsOf, envsOf, guardsOf, pushEnvs, pushGuards, Code.envs, Code.env?, Code.isFrame, Code.guards, Code.isGuard, Code.weight, Code.frames, Code.isCreation, Code.isCaller, Code.cUnits])
theorem over_cs {A : Around} {elt : Expr} {gs : List Comprehension} {sc : Scope} {p : Pos} {it acc : Value} {env : Env} : A.over (.compStart (.GeneratorExp elt gs sc p) 0 it acc env) [] = A.deeper env := by
  first
    | rfl
    | (obtain ⟨hd, d, fr, gs, u⟩ := A; simp [Around.over, Around.deeper, marksOver, frameCount, unitsOf, envsOf, guardsOf, pushEnvs, pushGuards, Code.envs, Code.env?, Code.isFrame, Code.guards, Code.isGuard, Code.weight, Code.frames, Code.isCreation, Code.isCaller, Code.cUnits])
/-- while it sleeps nothing is done to the heap -/
structure SleptZ (s s' : Shared) : Prop where
  os : s'.os = s.os
  bare : AllBare s'.gens
  heap : s'.heap = s.heap
theorem SleptZ.inv {X : Cx} {pins : List (Addr × Obj)} {σ : L2.St} {H : Hp} {s s' : Shared} (z : SleptZ s s') (I : Inv X pins σ H s) : Inv X pins σ H s' :=
  I.call' (ch := []) z.os (by rw [z.heap]; exact Un.refl) (by rw [z.heap]; exact I.hok) z.bare fun b hb => by simp at hb
def GzE (X : Cx) (H : Hp) : Nat → Shared → Shared → Prop := fun n _ s1 => n = 0 ∧ ∃ σ, Inv X [] σ H s1
def GzR (X : Cx) (H : Hp) : GenEnd := fun n s₀ r s1 => ((r = .ok (.ret .none) ∨ r = .ok .next) ∧ GzE X H n s₀ s1) ∨ ∃ e, r = .error e ∧ False
def GzY (X : Cx) (H : Hp) (tn : Nat → Heap → Prop) (len : Nat) (f : Nat → Bool) (Is : L2.St → Prop) : Protocol := fun n _ v s kap =>
  ∃ i σ, n + 1 + i = len ∧ v = .bool (f i) ∧ Inv X [] σ H s ∧ Is σ ∧ tn (i + 1) s.heap ∧ ∀ s', SleptZ s s' → kap (.send .none) s'
section
variable {X : Cx} {A : Around} {elt iter target : Expr} {scope : Scope} {pos : Pos} {it : Addr} {fp : List Addr} {tn : Nat → Heap → Prop} {J : It} {H : Hp} {g : TG} {te : TE} {n : Nat} {f : Nat → Bool} {Is : L2.St → Prop}
theorem seg_gx (hA : A.deeper X.env = X.A) (hxe : ∀ e s, ¬ X.xe e s) (hc : X.calm = true) (hco : X.env.scope.isCoroutine = false) (T : Turn X.prog X.w X.K target J fp it tn) (hg : PG X target g) (he : PE X elt te) (hfp : ∀ b ∈ fp, FpOk X [] H b)
    (hgo : ∀ i, i < n → J.go i H) (hst : J.stop n H) (step : ∀ i σ x H', i < n → Is σ → J.yld i H x H' → g x σ H' fun σ2 H2 => te σ2 H2 fun v H3 => v = .bl (f i) ∧ H3 = H ∧ Is σ2) :
    ∀ (k i : Nat) (s₀ s : Shared) (σ : L2.St), n - i = k → i ≤ n → Inv X [] σ H s → Is σ → tn i s.heap →
      Seg (model X.prog X.w) A (GzR X H) (GzY X H tn n f Is) (n - i) s₀ (.compLoop (.GeneratorExp elt [⟨target, iter, [], 0⟩] scope pos) 0 (.ref it) .none X.env)
        ((model X.prog X.w).den (.compLoop (.GeneratorExp elt [⟨target, iter, [], 0⟩] scope pos) 0 (.ref it) .none X.env)) [] s := by
  have stat : ∀ {H' : Hp}, (∀ b ∈ fp, H' b = none) → ∀ b ∈ fp, FpOk X [] H' b := fun hn b hb => ⟨hn b hb, (hfp b hb).2⟩
  intro k
  induction k with
  | zero =>
    intro i s₀ s σ hk hi I hs ht
    have hin : i = n := by omega
    subst hin
    show Seg _ A _ _ _ s₀ _ ((compTurn (.GeneratorExp elt [⟨target, iter, [], 0⟩] scope pos) 0 (.ref it) .none X.env).onRaise (leaving X.env)) [] s
    rw [compTurn_gen, Sem.onRaise_eq_wrap]
    refine seg_bind_wrap (wpAny_standAt ?_)
    refine seg_bind_wrap ?_
    rw [over_cl, hA]
    refine wpAny_mono (T.done X rfl rfl rfl hc i [] s σ H (fun _ _ => False) I hfp ht hst) (fun r s1 h1 => ?_) fun _ _ z => z.elim
    obtain ⟨rfl, I1⟩ := h1
    exact seg_end (.ok .next) (.inl ⟨.inr rfl, Nat.sub_self i, σ, I1⟩)
  | succ k ih =>
    intro i s₀ s σ hk hi I hs ht
    have hlt : i < n := by omega
    show Seg _ A _ _ _ s₀ _ ((compTurn (.GeneratorExp elt [⟨target, iter, [], 0⟩] scope pos) 0 (.ref it) .none X.env).onRaise (leaving X.env)) [] s
    rw [compTurn_gen, Sem.onRaise_eq_wrap]
    refine seg_bind_wrap (wpAny_standAt ?_)
    refine seg_bind_wrap ?_
    rw [over_cl, hA]
    refine wpAny_mono (T.item X rfl rfl rfl hc i [] s σ H (fun _ _ => False) I hfp ht (hgo i hlt)) (fun r s1 h1 => ?_) fun _ _ z => z.elim
    obtain ⟨u, rfl, h1⟩ := h1
    refine seg_bind_wrap ?_
    rw [over_cl, hA]
    refine wpAny_mono h1 (fun _ s2 h2 => ?_) fun _ _ z => z.elim
    obtain ⟨x, H2, I2, r2, y2, t2, f2⟩ := h2
    have I2' := I2.pinned (stat f2) (T.obj _ _ t2)
    refine seg_bind_wrap ?_
    rw [over_cl, hA]
    refine wpAny_mono (hg.run _ s2 σ H2 x u _ I2' r2 (step i σ x H2 hlt hs y2)) (fun _ s3 h3 => ?_) fun e s' z => (hxe e s' z).elim
    obtain ⟨σ3, H3, I3, q3⟩ := h3
    simp only [List.forIn_nil]
    refine seg_bind_wrap (wpAny_pure ?_)
    simp only [if_true]
    have hy : ∀ v, yieldOut X.env v = yieldValue v := fun v => by simp only [yieldOut, hco, Bool.false_eq_true, if_false]
    simp only [hy]
    rw [Sem.bind_eq_wrap', Sem.bind_eq_wrap', Sem.wrap_wrap, Sem.wrap_wrap]
    refine seg_wrap ?_
    rw [over_cl, hA]
    refine wpAny_mono (he.run _ s3 σ3 H3 _ I3 q3) (fun y s4 h4 => ?_) fun e s' z => (hxe e s' z).elim
    obtain ⟨v, H4, I4, r4, rfl, rfl, hs4⟩ := h4
    have r4 : y = .bool (f i) := r4
    subst r4
    have t4 : tn (i + 1) s4.heap := T.keep _ _ _ t2 fun b hb o e => (I4.pin (b, o) (List.mem_append_right _ (List.mem_append_right _ (mem_pinsAt hb e)))).1
    obtain ⟨m, hm⟩ : ∃ m, n - i = m + 1 := ⟨n - i - 1, by omega⟩
    rw [hm]
    refine seg_at (seg_yield rfl rfl rfl ⟨i, σ3, by omega, rfl, I4.unpinned, hs4, t4, fun s' z => ?_⟩)
    have e5 : m = n - (i + 1) := by omega
    rw [e5]
    exact seg_again rfl (ih (i + 1) s' s' σ3 (by omega) hlt (z.inv I4.unpinned) hs4 (by rw [z.heap]; exact t4))
theorem seg_gx0 (hA : A.deeper X.env = X.A) (hxe : ∀ e s, ¬ X.xe e s) (hc : X.calm = true) (hco : X.env.scope.isCoroutine = false) (T : Turn X.prog X.w X.K target J fp it tn) (hg : PG X target g) (he : PE X elt te) (hfp : ∀ b ∈ fp, FpOk X [] H b)
    (hgo : ∀ i, i < n → J.go i H) (hst : J.stop n H) (step : ∀ i σ x H', i < n → Is σ → J.yld i H x H' → g x σ H' fun σ2 H2 => te σ2 H2 fun v H3 => v = .bl (f i) ∧ H3 = H ∧ Is σ2)
    (s₀ s : Shared) (σ : L2.St) (I : Inv X [] σ H s) (hs : Is σ) (ht : tn 0 s.heap) :
    Seg (model X.prog X.w) A (GzR X H) (GzY X H tn n f Is) n s₀ (.compStart (.GeneratorExp elt [⟨target, iter, [], 0⟩] scope pos) 0 (.ref it) .none X.env)
      ((model X.prog X.w).den (.compStart (.GeneratorExp elt [⟨target, iter, [], 0⟩] scope pos) 0 (.ref it) .none X.env)) [] s := by
  have loop := seg_gx (iter := iter) (scope := scope) (pos := pos) hA hxe hc hco T hg he hfp hgo hst step n 0 s₀ s σ (Nat.sub_zero _) (Nat.zero_le _) I hs ht
  rw [Nat.sub_zero] at loop
  show Seg _ A _ _ _ s₀ _ ((compStart (.GeneratorExp elt [⟨target, iter, [], 0⟩] scope pos) 0 (.ref it) .none X.env).onRaise (leaving X.env)) [] s
  unfold compStart
  rw [Sem.onRaise_eq_wrap]
  show Seg _ A _ _ _ s₀ _ ((ask >>= _).wrap _ _ _ _) [] s
  refine seg_bind_wrap (wpAny_askSetting ?_)
  split
  · exact seg_again rfl loop
  · first
      | exact seg_bind_wrap (wpAny_rule (seg_bind_wrap (wpAny_standAt (seg_bind_wrap (T.self _ 0 s _ _ ht (seg_again rfl loop))))))
      | (refine seg_bind_wrap (wpAny_rule ?_); show Seg _ A _ _ _ s₀ _ ((standAt iter.pos >>= _).wrap _ _ _ _) [] s; exact seg_bind_wrap (wpAny_standAt (seg_bind_wrap (T.self _ 0 s _ _ ht (seg_again rfl loop)))))
end
/-! ### all, any: the generator is asked turn by turn -/
section
variable {X : Cx} {A : Around} {R : Result → Shared → Prop} {tn : Nat → Heap → Prop} {H : Hp} {n : Nat} {f : Nat → Bool} {Is : L2.St → Prop} {ga : Addr} {gi : Nat}
theorem range_drop1 {i n : Nat} (h : i < n) : (List.range n).drop i = i :: (List.range n).drop (i + 1) := by
  rw [List.drop_eq_getElem_cons (by simpa using h)]; simp
theorem slept_set {s : Shared} {x : GenState} (hb : AllBare s.gens) (hx : x.bare = true) : SleptZ s (s.setGen gi x) := ⟨rfl, allBare_setGen hb hx, rfl⟩
theorem slept_set2 {s : Shared} {x y : GenState} (hb : AllBare s.gens) (hx : x.bare = true) (hy : y.bare = true) : SleptZ s ((s.setGen gi x).setGen gi y) := ⟨rfl, allBare_setGen (allBare_setGen hb hx) hy, rfl⟩
theorem inv_fin {σ : L2.St} {s : Shared} {h' : Heap} (I : Inv X [] σ H s) (k : ∀ b o, s.heap.get? b = some o → h'.get? b = some o) : Inv X [] σ H { s.setGen gi .finished with heap := h' } :=
  I.call' (ch := []) rfl (Un.kept k) (I.hok.kept k) (allBare_setGen I.bare rfl) fun b hb => by simp at hb
theorem all_loopZ (hh : A.handled = none) (hd : A.depth < recursionLimit) (hgen : ∀ σ s, Inv X [] σ H s → s.heap.IsGen ga gi) :
    ∀ (k i : Nat) (s : Shared), n - i = k → i ≤ n → s.heap.IsGen ga gi → s.heap.NoLimit → (∃ gs, s.gens[gi]? = some gs ∧ gs.Goes (model X.prog X.w) A.in1.in1 (GzR X H) (GzY X H tn n f Is) (n - i) (.send .none) (s.setGen gi .running)) →
      (∀ σ s', Inv X [] σ H s' → R (.ok (.ret (.bool (((List.range n).drop i).all f)))) s') → codeAny (model X.prog X.w) A (.builtin "all.loop" ⟨[.ref ga], []⟩) R s := by
  intro k
  induction k with
  | zero =>
    intro i s hk hi hg hl hgs hR
    obtain ⟨gs, hgs, hgo⟩ := hgs
    have hin : i = n := by omega
    subst hin
    rw [Nat.sub_self] at hgo
    refine codeAny_builtin F.entry_all_loop ?_
    rw [Around.under_plainId F.plain_all_loop _]
    show wpAny _ A.in1 (pyNext (.ref ga) >>= _) _ _ s
    refine wpAny_bind (next_genG (A := A.in1) (F := GzE X H) (Er := fun _ _ => False) hh hl hd hg hgs hgo (fun v s₁ gs' hbare hv => ?_) (fun s₁ hp h' hk' => ?_) fun e s₁ he => he.elim)
    · obtain ⟨j, σ, hj, rfl, I, hs, ht, kap⟩ := hv
      exact False.elim (kap s₁ ⟨rfl, I.bare, rfl⟩)
    · obtain ⟨_, σ, I⟩ := hp
      refine wpAny_bind (wpAny_rule (wpAny_pure ?_))
      have := hR σ _ (inv_fin (gi := gi) I hk')
      rw [List.drop_of_length_le (by simp)] at this
      exact this
  | succ k ih =>
    intro i s hk hi hg hl hgs hR
    obtain ⟨gs, hgs, hgo⟩ := hgs
    have hlt : i < n := by omega
    have hgl : gi < s.gens.size := (Array.getElem?_eq_some_iff.mp hgs).1
    obtain ⟨m, hm⟩ : ∃ m, n - i = m + 1 := ⟨n - i - 1, by omega⟩
    rw [hm] at hgo
    refine codeAny_builtin F.entry_all_loop ?_
    rw [Around.under_plainId F.plain_all_loop _]
    show wpAny _ A.in1 (pyNext (.ref ga) >>= _) _ _ s
    refine wpAny_bind (GenW.wpAny_gsz (n := gi + 1) hgl (next_genG (A := A.in1) (F := GzE X H) (Er := fun _ _ => False) hh hl hd hg hgs hgo (fun v s₁ gs' hbare hv => ?_) (fun s₁ hp h' hk' => ?_) fun e s₁ he => he.elim))
    · intro hsz
      rw [GenW.setGen_size] at hsz
      obtain ⟨j, σ, hj, rfl, I, hs, ht, kap⟩ := hv
      have hji : j = i := by omega
      subst hji
      refine wpAny_bind (wpAny_holding (wpAny_truthy_bool ?_))
      refine wpAny_bind (wpAny_letGo ?_)
      have I' : Inv X [] σ H (s₁.setGen gi gs') := (slept_set I.bare hbare).inv I
      cases hb : f j with
      | true =>
        simp only [if_true]
        refine wpAny_pure ⟨plainId_quiet F.plain_all_loop _, ih (j + 1) _ (by omega) hlt (hgen σ _ I') I'.nolimit ⟨gs', setGen_at (by omega), ?_⟩ fun σ' s'' I'' => ?_⟩
        · have e5 : n - (j + 1) = m := by omega
          rw [e5]
          exact kap _ (slept_set2 I.bare hbare rfl)
        · have := hR σ' s'' I''
          rw [range_drop1 hlt, List.all_cons, hb, Bool.true_and] at this
          exact this
      | false =>
        simp only [Bool.false_eq_true, if_false]
        refine wpAny_bind (wpAny_rule (wpAny_pure ?_))
        have := hR σ _ I'
        rw [range_drop1 hlt, List.all_cons, hb, Bool.false_and] at this
        exact this
    · intro _
      obtain ⟨z, _⟩ := hp
      omega
theorem any_loopZ (hh : A.handled = none) (hd : A.depth < recursionLimit) (hgen : ∀ σ s, Inv X [] σ H s → s.heap.IsGen ga gi) :
    ∀ (k i : Nat) (s : Shared), n - i = k → i ≤ n → s.heap.IsGen ga gi → s.heap.NoLimit → (∃ gs, s.gens[gi]? = some gs ∧ gs.Goes (model X.prog X.w) A.in1.in1 (GzR X H) (GzY X H tn n f Is) (n - i) (.send .none) (s.setGen gi .running)) →
      (∀ σ s', Inv X [] σ H s' → R (.ok (.ret (.bool (((List.range n).drop i).any f)))) s') → codeAny (model X.prog X.w) A (.builtin "any.loop" ⟨[.ref ga], []⟩) R s := by
  intro k
  induction k with
  | zero =>
    intro i s hk hi hg hl hgs hR
    obtain ⟨gs, hgs, hgo⟩ := hgs
    have hin : i = n := by omega
    subst hin
    rw [Nat.sub_self] at hgo
    refine codeAny_builtin F.entry_any_loop ?_
    rw [Around.under_plainId F.plain_any_loop _]
    show wpAny _ A.in1 (pyNext (.ref ga) >>= _) _ _ s
    refine wpAny_bind (next_genG (A := A.in1) (F := GzE X H) (Er := fun _ _ => False) hh hl hd hg hgs hgo (fun v s₁ gs' hbare hv => ?_) (fun s₁ hp h' hk' => ?_) fun e s₁ he => he.elim)
    · obtain ⟨j, σ, hj, rfl, I, hs, ht, kap⟩ := hv
      exact False.elim (kap s₁ ⟨rfl, I.bare, rfl⟩)
    · obtain ⟨_, σ, I⟩ := hp
      refine wpAny_bind (wpAny_rule (wpAny_pure ?_))
      have := hR σ _ (inv_fin (gi := gi) I hk')
      rw [List.drop_of_length_le (by simp)] at this
      exact this
  | succ k ih =>
    intro i s hk hi hg hl hgs hR
    obtain ⟨gs, hgs, hgo⟩ := hgs
    have hlt : i < n := by omega
    have hgl : gi < s.gens.size := (Array.getElem?_eq_some_iff.mp hgs).1
    obtain ⟨m, hm⟩ : ∃ m, n - i = m + 1 := ⟨n - i - 1, by omega⟩
    rw [hm] at hgo
    refine codeAny_builtin F.entry_any_loop ?_
    rw [Around.under_plainId F.plain_any_loop _]
    show wpAny _ A.in1 (pyNext (.ref ga) >>= _) _ _ s
    refine wpAny_bind (GenW.wpAny_gsz (n := gi + 1) hgl (next_genG (A := A.in1) (F := GzE X H) (Er := fun _ _ => False) hh hl hd hg hgs hgo (fun v s₁ gs' hbare hv => ?_) (fun s₁ hp h' hk' => ?_) fun e s₁ he => he.elim))
    · intro hsz
      rw [GenW.setGen_size] at hsz
      obtain ⟨j, σ, hj, rfl, I, hs, ht, kap⟩ := hv
      have hji : j = i := by omega
      subst hji
      refine wpAny_bind (wpAny_holding (wpAny_truthy_bool ?_))
      refine wpAny_bind (wpAny_letGo ?_)
      have I' : Inv X [] σ H (s₁.setGen gi gs') := (slept_set I.bare hbare).inv I
      cases hb : f j with
      | false =>
        simp only [Bool.false_eq_true, if_false]
        refine wpAny_pure ⟨plainId_quiet F.plain_any_loop _, ih (j + 1) _ (by omega) hlt (hgen σ _ I') I'.nolimit ⟨gs', setGen_at (by omega), ?_⟩ fun σ' s'' I'' => ?_⟩
        · have e5 : n - (j + 1) = m := by omega
          rw [e5]
          exact kap _ (slept_set2 I.bare hbare rfl)
        · have := hR σ' s'' I''
          rw [range_drop1 hlt, List.any_cons, hb, Bool.false_or] at this
          exact this
      | true =>
        simp only [if_true]
        refine wpAny_bind (wpAny_rule (wpAny_pure ?_))
        have := hR σ _ I'
        rw [range_drop1 hlt, List.any_cons, hb, Bool.true_or] at this
        exact this
    · intro _
      obtain ⟨z, _⟩ := hp
      omega
end
/-! ### the generator's frame -/
structure GenZ (env : Env) (scope : Scope) : Prop where
  kind : scope.kind = .function
  co : scope.isCoroutine = false
  cell : ∀ y ∈ scope.names, y.2 ≠ .cell
  dot : scope.names.lookup (".0" : Str) = some NameKind.local
  free : ∀ y ∈ scope.names, y.2 = .free → ∃ c, env.cells.lookup y.1 = some c
def gX (X : Cx) (N : List Str) (scope : Scope) (code : Value) (fp : List Addr) (s : Shared) (H : Hp) (pn : List (Addr × Obj)) : Cx :=
  { prog := X.prog, w := X.w, K := X.K, mg := X.mg, base := X.base, A := X.A.in1.in1.deeper (genEnv scope (cloFrom X.env.cells scope.names []) s.heap.objs.size code builtinsNs X.env), N := N, s_0 := s, H_0 := H,
    env := genEnv scope (cloFrom X.env.cells scope.names []) s.heap.objs.size code builtinsNs X.env, outer := X.stack, stack := genEnv scope (cloFrom X.env.cells scope.names []) s.heap.objs.size code builtinsNs X.env :: X.stack,
    ex := fp, fn := fun _ => false, calm := true, pn := pn, xe := fun _ _ => False }
theorem clo_of {cells : List (Str × Addr)} {scope : Scope} {y : Str} {c : Addr} (hf : ∀ y ∈ scope.names, y.2 = .free → ∃ c, cells.lookup y.1 = some c) (h : (cloFrom cells scope.names []).lookup y = some c) : cells.lookup y = some c := by
  rcases cloFrom_mem (PySem.mem_of_lookup h) with z | ⟨z1, z2⟩
  · cases z
  · obtain ⟨d, hd⟩ := hf _ z1 rfl
    have hd : cells.lookup y = some d := hd
    rw [hd] at z2
    rw [z2]
    exact hd
theorem clo_has {cells : List (Str × Addr)} {scope : Scope} {y : Str} (h : scope.names.lookup y = some .free) : ∃ c, (cloFrom cells scope.names []).lookup y = some c := by
  have hm := cloFrom_has (cells := cells) (acc := []) (PySem.mem_of_lookup h)
  exact mem_lookup hm
section
variable {X : Cx} {pins : List (Addr × Obj)} {σ : L2.St} {H : Hp} {s : Shared} {N : List Str} {scope : Scope} {code : Value} {fp : List Addr} {pn : List (Addr × Obj)} {no : Nat} {cap : List Nat}
theorem gX_ok (I : Inv X pins σ H s) (hh : X.A.handled = none) (S : GenZ X.env scope) (f2 : ∀ b ∈ fp, FpOk X pins H b) (hlt : ∀ b ∈ fp, b < s.heap.objs.size) : (gX X N scope code fp s H pn).Ok where
  mod := I.ok.mod
  kind := S.kind
  glob := I.ok.glob
  blt := rfl
  above := Nat.le_refl _
  inj := fun x y c h1 h2 => I.ok.inj x y c (clo_of S.free h1) (clo_of S.free h2)
  has := fun x h => by
    rcases h with h | h
    · exact absurd rfl (S.cell _ (PySem.mem_of_lookup h))
    · exact clo_has h
  cab := fun _ _ z => nomatch z
  hd := fun _ => hh
  frames := by
    show ((X.A.in1.in1).deeper _).frames = _
    exact Around.frames_deeper I.ok.frames
  stk := .inr ⟨rfl, rfl⟩
  exf := fun b hb => ⟨Nat.ne_of_lt (hlt b hb), fun x c e => (f2 b hb).2.2.2.2.1 x c (clo_of S.free e)⟩
  bs := I.bs
  bsz := Nat.le_trans I.ok.bsz I.sz
  noex := fun b o e hb => by
    rcases (f2 b hb).2.2.2.1 with z | z
    · exact I.ok.noex b o e z
    · exact absurd (Nat.lt_of_lt_of_le (Heap.lt_size (I.ok.bs b o e).1) z) (Nat.lt_irrefl _)
  exfs := fun b hb hm => by
    rcases List.mem_cons.mp (I.stkSub b hm) with z | z
    · exact (f2 b hb).2.1 z
    · exact (f2 b hb).2.2.1 z
  funs := I.stack
  frf := I.stkFree
theorem gX_start {it : Value} {h' : Heap} {go : Obj} {gs : GenState} {tk : Nat} (I : Inv X pins σ H s) (hh : X.A.handled = none) (S : GenZ X.env scope) (f2 : ∀ b ∈ fp, FpOk X pins H b) (hlt : ∀ b ∈ fp, b < s.heap.objs.size)
    (hN : N.length = no + cap.length) (hcap : ∀ j ci, cap[j]? = some ci → ∃ y, N[no + j]? = some y ∧ X.N[ci]? = some y ∧ scope.names.lookup y = some .free ∧ (X.env.kindOf y = some .cell ∨ X.env.kindOf y = some .free))
    (hn : h'.Ns s.heap.objs.size (fun y => if y = ".0" then some it else none)) (hs : Heap.SameBut s.heap.objs.size (s.heap.push { cls := .type "frame", data := .dict #[] }) h') (hb : gs.bare = true) (hgo : ∀ v, go.data ≠ .cell v) (hfr : go.isFreed = false) :
    Inv (gX X N scope code fp s H [(h'.objs.size, go)]) [] (List.replicate no none ++ cap.map fun i => (σ[i]?).getD none) H { s with gens := s.gens.push gs, toks := tk, heap := h'.push go } := by
  have hsz : h'.objs.size = s.heap.objs.size + 1 := by rw [hs.1, Heap.size_push]
  have keep' : ∀ b o, s.heap.get? b = some o → (h'.push go).get? b = some o := fun b o e => Heap.get?_push_of_some _ (hs.extBut b o (Nat.ne_of_lt (Heap.lt_size e)) (Heap.get?_push_of_some _ e))
  have fresh : ∀ b, s.heap.objs.size ≤ b → H b = none := fun b hb => I.hok.fresh hb
  refine ⟨gX_ok I hh S f2 hlt, rfl, AllBare.push I.bare hb, Un.kept keep', ⟨_, hn.push _, fun j y v hj hv hvis => ?_⟩, fun y c e => ?_, fresh _ (Nat.le_refl _), fun y c e => I.freeC y c (clo_of S.free e), fun p hp => ?_, I.hok.kept keep', ?_⟩
  · by_cases hjn : j < no
    · rw [List.getElem?_append_left (by rw [List.length_replicate]; exact hjn), List.getElem?_replicate] at hv
      split at hv <;> cases hv
    · rw [List.getElem?_append_right (by rw [List.length_replicate]; omega), List.length_replicate, List.getElem?_map] at hv
      cases hc : cap[j - no]? with
      | none =>
        rw [hc] at hv
        cases hv
      | some ci =>
        rw [hc] at hv
        have hv : (σ[ci]?).getD none = some v := Option.some.inj hv
        obtain ⟨y', h1, h2, h3, h4⟩ := hcap (j - no) ci hc
        rw [show no + (j - no) = j by omega] at h1
        have e : y' = y := Option.some.inj (h1.symm.trans hj)
        subst e
        obtain ⟨m, hm, hloc⟩ := I.loc
        have hσ : σ[ci]? = some (some v) := by
          cases q : σ[ci]? with
          | none =>
            rw [q] at hv
            cases hv
          | some w =>
            rw [q] at hv
            have hv : w = some v := hv
            rw [hv]
        obtain ⟨u, ru, lk⟩ := hloc ci y' v h2 hσ (by
          rcases h4 with z | z
          · exact .inr (.inl z)
          · exact .inr (.inr z))
        refine ⟨u, ru, .inr ⟨.inr h3, ?_⟩⟩
        rcases lk with ⟨z, _⟩ | ⟨_, c, hc1, oc, hc2, hc3⟩
        · rcases h4 with z4 | z4
          · rw [z] at z4
            cases z4
          · rw [z] at z4
            cases z4
        · obtain ⟨c', hc'⟩ := clo_has (cells := X.env.cells) h3
          have := clo_of S.free hc'
          rw [hc1] at this
          cases this
          exact ⟨c, hc', oc, keep' _ _ hc2, hc3⟩
  · obtain ⟨v, oc, h1, h2⟩ := I.cell y c (clo_of S.free e)
    exact ⟨v, oc, keep' _ _ h1, h2⟩
  · have hp : p ∈ [(h'.objs.size, go)] ++ [] := hp
    have hp : p = (h'.objs.size, go) := by simpa using hp
    subst hp
    refine ⟨Heap.get?_push_size _ hfr, fresh _ (by show s.heap.objs.size ≤ h'.objs.size; omega), by show h'.objs.size ≠ s.heap.objs.size; omega, fun hm => ?_, hgo⟩
    rcases List.mem_cons.mp (I.stkSub _ hm) with z | z
    · have := I.lt
      rw [← z] at this
      have this : h'.objs.size < s.heap.objs.size := this
      omega
    · exact I.nofs (show s.heap.objs.size ≤ h'.objs.size by omega) z
  · show _ = N.length
    rw [List.length_append, List.length_replicate, List.length_map, hN]
end
/-! ### the rules -/
/-- all(elt for target in iter), any(..): P: the running def's table; no: how many names are the generator's own; cap: the captured ones, by the def's slots -/
def tGz (op : (Nat → Bool) → Nat → Bool) (P : Addr) (no : Nat) (cap : List Nat) (wi : TI) (g : TG) (te : TE) : TE := fun σ H Q => wi σ H fun J H1 => ∃ (n : Nat) (f : Nat → Bool) (Is : L2.St → Prop), H1 P = some (TabX P) ∧
  Is (List.replicate no none ++ cap.map fun i => (σ[i]?).getD none) ∧ (∀ i, i < n → J.go i H1) ∧ J.stop n H1 ∧
  (∀ i σ' x H', i < n → Is σ' → J.yld i H1 x H' → g x σ' H' fun σ2 H2 => te σ2 H2 fun v H3 => v = .bl (f i) ∧ H3 = H1 ∧ Is σ2) ∧ Q (.bl (op f n)) H1
def opAll (f : Nat → Bool) (n : Nat) : Bool := (List.range n).all f
def opAny (f : Nat → Bool) (n : Nat) : Bool := (List.range n).any f
section
variable {X : Cx} {c P : Addr} {elt iter target : Expr} {p pos gpos : Pos} {scope : Scope} {N : List Str} {no : Nat} {cap : List Nat} {wi : TI} {g : TG} {te : TE} {k : Nat} {Q' : Value → Shared → Prop} {pins : List (Addr × Obj)} {σ : L2.St} {H : Hp} {s : Shared} {op : (Nat → Bool) → Nat → Bool}
/-- the generator is made: its context, ready to be asked -/
def ReadyZ (X : Cx) (pins : List (Addr × Obj)) (σ : L2.St) (H1 : Hp) (n : Nat) (f : Nat → Bool) (ga : Addr) (s5 : Shared) : Prop :=
  ∃ (Y : Cx) (tn : Nat → Heap → Prop) (Is : L2.St → Prop) (gi : Nat), Y.prog = X.prog ∧ Y.w = X.w ∧ s5.heap.IsGen ga gi ∧ s5.heap.NoLimit ∧ (∀ σ' s', Inv Y [] σ' H1 s' → s'.heap.IsGen ga gi) ∧
    (∃ gs, s5.gens[gi]? = some gs ∧ gs.Goes (model X.prog X.w) X.A.in1.in1 (GzR Y H1) (GzY Y H1 tn n f Is) n (.send .none) (s5.setGen gi .running)) ∧ ∀ σ' s', Inv Y [] σ' H1 s' → Inv X pins σ H1 s'
theorem gen_make (hr : Room (k + 3) X.A) (hT : GxR.TabB X.base X.mg c P) (hcode : X.env.code = .ref c) (S : GenZ X.env scope) (hi : PI X target iter wi)
    (hN : N.length = no + cap.length) (hcap : ∀ j ci, cap[j]? = some ci → ∃ y, N[no + j]? = some y ∧ X.N[ci]? = some y ∧ scope.names.lookup y = some .free ∧ (X.env.kindOf y = some .cell ∨ X.env.kindOf y = some .free))
    (hg : ∀ code fp s H pn, Room k (gX X N scope code fp s H pn).A → PG (gX X N scope code fp s H pn) target g) (he : ∀ code fp s H pn, Room k (gX X N scope code fp s H pn).A → PE (gX X N scope code fp s H pn) elt te)
    (hs : ∀ v, genFold iter X.env v = pure v) (I : Inv X pins σ H s) {Q : VK} (h : tGz op P no cap wi g te σ H Q)
    (hQ : ∀ H1 n f ga s5, Q (.bl (op f n)) H1 → ReadyZ X pins σ H1 n f ga s5 → Q' (.ref ga) s5) :
    wpAny (model X.prog X.w) X.A (eval (.GeneratorExp elt [⟨target, iter, [], 0⟩] scope gpos) X.env) Q' X.xe s := by
  refine wpAny_GeneratorExp_make S.co (closure_ok S.free) S.cell S.dot S.kind (by have := hr.dp; omega) ?_ hs
  refine thn (hi.run pins s σ H _ I h) fun xv s1 h1 => thn h1 fun itv s2 h2 => ?_
  obtain ⟨it, fp, tn, J, H2, rfl, I2, T, t2, f2, n, f, Is, hP, hs0, hgo, hst, step, q⟩ := h2
  refine ⟨I2.nolimit, ?_⟩
  obtain ⟨⟨ps, hPs, ht⟩, _, _⟩ := I2.hok P _ hP
  have cd : PySem.W.CodeHd s2.heap c P := hT.code.keeps fun b u e => I2.bk b u e
  have cont : ∀ (code : Value) (h3 : Heap) (tk : Nat) (ps' : Array Value), Heap.ExtBut P s2.heap h3 → h3.get? P = some { cls := .none, data := .fields ps' } → TriplesOk ps'.toList →
      wpAny (model X.prog X.w) X.A (builtinsFor X.env.globals X.env.builtins) (fun bi s₄ =>
        ∀ h', h'.Ns s₄.heap.objs.size (fun y => if y = ".0" then some (.ref it) else none) → Heap.SameBut s₄.heap.objs.size (s₄.heap.push { cls := .type "frame", data := .dict #[] }) h' →
          Q' (.ref h'.objs.size) { s₄ with
            gens := s₄.gens.push (.fresh (.compStart (.GeneratorExp elt [⟨target, iter, [], 0⟩] scope gpos) 0 (.ref it) .none (genEnv scope (cloFrom X.env.cells scope.names []) s₄.heap.objs.size code bi X.env))),
            toks := s₄.toks + 1 + 1 + 1,
            heap := h'.push { cls := .type "generator", data := .fields #[.int s₄.gens.size 0, .str "<genexpr>" (s₄.toks + 1), .str (X.env.qual ++ "<genexpr>") (s₄.toks + 1 + 1)] } }) X.xe { s2 with heap := h3, toks := tk } := by
    intro code h3 tk ps' hx hP3 ht3
    have I3 : Inv X pins σ H2 { s2 with heap := h3, toks := tk } := inv_tabX (g' := s2.gens) (d' := s2.drawn) I2 hP (fun b o hb e => hx b o hb e) hP3 ht3 I2.bare
    have nfp : ∀ b ∈ fp, b ≠ P := fun b hb z => by
      have := (f2 b hb).1
      rw [z, hP] at this
      cases this
    have t3 : tn 0 h3 := T.keep _ _ _ t2 fun b hb o e => hx b o (nfp b hb) e
    have hlt : ∀ b ∈ fp, b < h3.objs.size := fun b hb => by
      obtain ⟨o, e, _⟩ := T.obj _ _ t3 b hb
      exact Heap.lt_size e
    obtain ⟨bm, ob, e1, e2, e3, e4, e5, e6, e7, e8⟩ := hT.bm
    refine wpAny_builtinsFor (m := X.mg) (by rw [I3.ok.glob]; exact I3.mod.glob.keeps I3.bk) e1 e2 (I3.bk _ _ e5) e6 e7 e8 ?_
    intro h' hn hsb
    have IG := gX_start (N := N) (scope := scope) (code := code) (fp := fp) (no := no) (cap := cap) (it := .ref it) (h' := h')
      (go := { cls := .type "generator", data := .fields #[.int s2.gens.size 0, .str "<genexpr>" (tk + 1), .str (X.env.qual ++ "<genexpr>") (tk + 1 + 1)] })
      (gs := .fresh (.compStart (.GeneratorExp elt [⟨target, iter, [], 0⟩] scope gpos) 0 (.ref it) .none (genEnv scope (cloFrom X.env.cells scope.names []) h3.objs.size code builtinsNs X.env))) (tk := tk + 1 + 1 + 1)
      I3 hr.hd S f2 hlt hN hcap hn hsb rfl (fun v z => by cases z) rfl
    have rg : Room k (gX X N scope code fp { s2 with heap := h3, toks := tk } H2 [(h'.objs.size, { cls := .type "generator", data := .fields #[.int s2.gens.size 0, .str "<genexpr>" (tk + 1), .str (X.env.qual ++ "<genexpr>") (tk + 1 + 1)] })]).A := hr.in1.in1.deeper _
    have hsz : h'.objs.size = h3.objs.size + 1 := by
      have := hsb.1
      rw [Heap.size_push] at this
      exact this
    have keep' : ∀ {go : Obj} b o, h3.get? b = some o → (h'.push go).get? b = some o := fun b o e => Heap.get?_push_of_some _ (hsb.extBut b o (Nat.ne_of_lt (Heap.lt_size e)) (Heap.get?_push_of_some _ e))
    have fG : ∀ b ∈ fp, FpOk (gX X N scope code fp { s2 with heap := h3, toks := tk } H2 [(h'.objs.size, { cls := .type "generator", data := .fields #[.int s2.gens.size 0, .str "<genexpr>" (tk + 1), .str (X.env.qual ++ "<genexpr>") (tk + 1 + 1)] })]) [] H2 b := fun b hb => by
      refine ⟨(f2 b hb).1, Nat.ne_of_lt (hlt b hb), fun hm => ?_, .inl hb, fun x c' e => (f2 b hb).2.2.2.2.1 x c' (clo_of S.free e), fun p hp => ?_⟩
      · rcases List.mem_cons.mp (I3.stkSub b hm) with z | z
        · exact (f2 b hb).2.1 z
        · exact (f2 b hb).2.2.1 z
      · have hp : p ∈ [(h'.objs.size, ({ cls := .type "generator", data := .fields #[.int s2.gens.size 0, .str "<genexpr>" (tk + 1), .str (X.env.qual ++ "<genexpr>") (tk + 1 + 1)] } : Obj))] ++ [] := hp
        have hp1 : p.1 = h'.objs.size := by
          rcases List.mem_cons.mp hp with z | z
          · rw [z]
          · cases z
        have := hlt b hb
        rw [hp1]
        exact Ne.symm (Nat.ne_of_lt (Nat.lt_of_lt_of_le this (by rw [hsz]; exact Nat.le_succ _)))
    refine hQ H2 n f _ _ q ⟨gX X N scope code fp { s2 with heap := h3, toks := tk } H2 [(h'.objs.size, { cls := .type "generator", data := .fields #[.int s2.gens.size 0, .str "<genexpr>" (tk + 1), .str (X.env.qual ++ "<genexpr>") (tk + 1 + 1)] })], tn, Is, s2.gens.size, rfl, rfl, ⟨_, _, _, Heap.get?_push_size _ rfl, rfl, rfl, rfl⟩, IG.nolimit, fun σ' s' I' => ?_, ⟨_, Array.getElem?_push_size .., rfl, ?_⟩, fun σ' s' I' => ?_⟩
    · exact ⟨_, _, _, (I'.pin _ (List.mem_append_left _ List.mem_cons_self)).1, rfl, rfl, rfl⟩
    · refine seg_gx0 (X := gX X N scope code fp { s2 with heap := h3, toks := tk } H2 [(h'.objs.size, { cls := .type "generator", data := .fields #[.int s2.gens.size 0, .str "<genexpr>" (tk + 1), .str (X.env.qual ++ "<genexpr>") (tk + 1 + 1)] })]) (iter := iter) (scope := scope) (pos := gpos) rfl (fun _ _ z => z) rfl S.co T (hg _ _ _ _ _ rg) (he _ _ _ _ _ rg) fG hgo hst step _ _ _ (SleptZ.inv ?_ IG) hs0 (T.keep _ _ _ t3 fun b hb o e => keep' b o e)
      exact slept_set IG.bare rfl
    · exact I3.call' (ch := fp) I'.os I'.base I'.hok I'.bare fun b hb => ⟨(f2 b hb).2.2.2.1, (f2 b hb).2.1, (f2 b hb).2.2.2.2.1, (f2 b hb).2.2.2.2.2⟩
  cases hf : codeAmong gpos ps.toList with
  | none =>
    refine wpAny_genexprCodeX hcode (cd.code hPs ht) (cd.tab hPs) hf fun c' h' tk hx hge hlt hco' _ htab' _ => ?_
    obtain ⟨o1, vs, f1, tf, fl, tg, inF, tx, tt, op, _, _, _, _, _, _, _, _, _, htr, _⟩ := hco'
    exact cont _ h' tk _ hx htab'.2 htr
  | some cv =>
    refine wpAny_genexprCode_hit hcode (cd.code hPs ht) hf ?_
    exact cont cv s2.heap s2.toks ps (Heap.ExtBut.refl _ _) hPs ht
theorem pe_allZ (hr : Room (k + 3) X.A) (hgl : Gl X "all") (hm : X.mg "all" = none) (hT : GxR.TabB X.base X.mg c P) (hcode : X.env.code = .ref c) (S : GenZ X.env scope) (hi : PI X target iter wi)
    (hN : N.length = no + cap.length) (hcap : ∀ j ci, cap[j]? = some ci → ∃ y, N[no + j]? = some y ∧ X.N[ci]? = some y ∧ scope.names.lookup y = some .free ∧ (X.env.kindOf y = some .cell ∨ X.env.kindOf y = some .free))
    (hg : ∀ code fp s H pn, Room k (gX X N scope code fp s H pn).A → PG (gX X N scope code fp s H pn) target g) (he : ∀ code fp s H pn, Room k (gX X N scope code fp s H pn).A → PE (gX X N scope code fp s H pn) elt te)
    (hs : ∀ v, genFold iter X.env v = pure v := by intro _; rfl)
    (hst : starEach [.GeneratorExp elt [⟨target, iter, [], 0⟩] scope gpos] X.env = (false, eval (.GeneratorExp elt [⟨target, iter, [], 0⟩] scope gpos) X.env) :: starEach [] X.env := by rfl) :
    PE X (.Call (.Name "all" p) [.GeneratorExp elt [⟨target, iter, [], 0⟩] scope gpos] [] pos) (tGz opAll P no cap wi g te) := by
  refine ⟨fun pins s σ H Q I h => ?_⟩
  refine wpAny_Call_Name_kw (ld_blt I hgl hm boot_all ?_)
  refine PyProof.Rows.callWith_builtin1 ?_ hst (by rfl)
  rw [hst]
  show wpAny _ _ (spliced ((false, eval (.GeneratorExp elt [⟨target, iter, [], 0⟩] scope gpos) X.env) :: backTo pos (starEach [] X.env))) _ _ s
  refine Calls.spliced_cons (gen_make hr hT hcode S hi hN hcap hg he hs I h fun H1 n f ga s5 hq hG => ?_)
  refine Calls.spliced_nil ?_
  obtain ⟨Y, tn, Is, gi, hp, hw, hgen, hl, hpin, hgo, hend⟩ := hG
  refine call_function_tree F.kind_all F.plain_all F.entry_all (F.args_all1 _) ?_
  unfold Builtin.«all»
  refine wpAny_bind (m := oneArg "all" _) (wpAny_pure ?_)
  refine wpAny_bind (wpAny_pyIter_gen hgen ?_)
  rw [← hp, ← hw] at hgo ⊢
  refine wpAny_pure ⟨plainId_quiet F.plain_all_loop _, all_loopZ (X := Y) (A := X.A) (tn := tn) (H := H1) (n := n) (f := f) (Is := Is) hr.hd (by have := hr.dp; omega) hpin n 0 s5 (Nat.sub_zero _) (Nat.zero_le _) hgen hl hgo fun σ' s' I' => ?_⟩
  exact ⟨.bl _, H1, hend σ' s' I', rfl, hq⟩
theorem pe_anyZ (hr : Room (k + 3) X.A) (hgl : Gl X "any") (hm : X.mg "any" = none) (hT : GxR.TabB X.base X.mg c P) (hcode : X.env.code = .ref c) (S : GenZ X.env scope) (hi : PI X target iter wi)
    (hN : N.length = no + cap.length) (hcap : ∀ j ci, cap[j]? = some ci → ∃ y, N[no + j]? = some y ∧ X.N[ci]? = some y ∧ scope.names.lookup y = some .free ∧ (X.env.kindOf y = some .cell ∨ X.env.kindOf y = some .free))
    (hg : ∀ code fp s H pn, Room k (gX X N scope code fp s H pn).A → PG (gX X N scope code fp s H pn) target g) (he : ∀ code fp s H pn, Room k (gX X N scope code fp s H pn).A → PE (gX X N scope code fp s H pn) elt te)
    (hs : ∀ v, genFold iter X.env v = pure v := by intro _; rfl)
    (hst : starEach [.GeneratorExp elt [⟨target, iter, [], 0⟩] scope gpos] X.env = (false, eval (.GeneratorExp elt [⟨target, iter, [], 0⟩] scope gpos) X.env) :: starEach [] X.env := by rfl) :
    PE X (.Call (.Name "any" p) [.GeneratorExp elt [⟨target, iter, [], 0⟩] scope gpos] [] pos) (tGz opAny P no cap wi g te) := by
  refine ⟨fun pins s σ H Q I h => ?_⟩
  refine wpAny_Call_Name_kw (ld_blt I hgl hm boot_any ?_)
  refine PyProof.Rows.callWith_builtin1 ?_ hst (by rfl)
  rw [hst]
  show wpAny _ _ (spliced ((false, eval (.GeneratorExp elt [⟨target, iter, [], 0⟩] scope gpos) X.env) :: backTo pos (starEach [] X.env))) _ _ s
  refine Calls.spliced_cons (gen_make hr hT hcode S hi hN hcap hg he hs I h fun H1 n f ga s5 hq hG => ?_)
  refine Calls.spliced_nil ?_
  obtain ⟨Y, tn, Is, gi, hp, hw, hgen, hl, hpin, hgo, hend⟩ := hG
  refine call_function_tree F.kind_any F.plain_any F.entry_any (F.args_any1 _) ?_
  unfold Builtin.«any»
  refine wpAny_bind (m := oneArg "any" _) (wpAny_pure ?_)
  refine wpAny_bind (wpAny_pyIter_gen hgen ?_)
  rw [← hp, ← hw] at hgo ⊢
  refine wpAny_pure ⟨plainId_quiet F.plain_any_loop _, any_loopZ (X := Y) (A := X.A) (tn := tn) (H := H1) (n := n) (f := f) (Is := Is) hr.hd (by have := hr.dp; omega) hpin n 0 s5 (Nat.sub_zero _) (Nat.zero_le _) hgen hl hgo fun σ' s' I' => ?_⟩
  exact ⟨.bl _, H1, hend σ' s' I', rfl, hq⟩
end
/-! ### a set comprehension of whole numbers, and how many it has -/
/-- which numbers are among the first n of f; how many unlike ones these are -/
def memD (f : Nat → Int) : Nat → Int → Bool
  | 0 => fun _ => false
  | n + 1 => fun j => memD f n j || decide (j = f n)
def cntD (f : Nat → Int) : Nat → Nat
  | 0 => 0
  | n + 1 => if memD f n (f n) = true then cntD f n else cntD f n + 1
theorem cntD_le (f : Nat → Int) : ∀ n, cntD f n ≤ n
  | 0 => Nat.le_refl 0
  | n + 1 => by
    have := cntD_le f n
    unfold cntD
    split <;> omega
theorem memD_iff (f : Nat → Int) : ∀ (n : Nat) (j : Int), memD f n j = true ↔ ∃ i, i < n ∧ f i = j
  | 0, j => Iff.intro (fun z => nomatch (show false = true from z)) (fun h => by
    obtain ⟨i, h, _⟩ := h
    exact absurd h (Nat.not_lt_zero i))
  | n + 1, j => by
    show (memD f n j || decide (j = f n)) = true ↔ _
    rw [Bool.or_eq_true, memD_iff f n j, decide_eq_true_eq]
    constructor
    · intro h
      rcases h with ⟨i, h1, h2⟩ | h
      · exact ⟨i, by omega, h2⟩
      · exact ⟨n, Nat.lt_succ_self n, h.symm⟩
    · intro h
      obtain ⟨i, h1, h2⟩ := h
      by_cases z : i = n
      · subst z
        exact .inr h2.symm
      · exact .inl ⟨i, by omega, h2⟩
theorem cntD_all (f : Nat → Int) : ∀ n : Nat, cntD f n = n ↔ ∀ i j, i < j → j < n → f i ≠ f j
  | 0 => Iff.intro (fun _ i j _ h => absurd h (Nat.not_lt_zero j)) (fun _ => rfl)
  | n + 1 => by
    have ih := cntD_all f n
    have hl := cntD_le f n
    unfold cntD
    by_cases z : memD f n (f n) = true
    · rw [if_pos z]
      obtain ⟨i, h1, h2⟩ := (memD_iff f n _).mp z
      exact ⟨fun e => absurd e (by omega), fun h => absurd h2 (h i n h1 (Nat.lt_succ_self n))⟩
    · rw [if_neg z]
      constructor
      · intro e i j h1 h2
        by_cases y : j = n
        · subst y
          exact fun w => z ((memD_iff f j _).mpr ⟨i, h1, w⟩)
        · exact ih.mp (by omega) i j h1 (by omega)
      · intro h
        rw [ih.mpr fun i j h1 h2 => h i j h1 (by omega)]
/-- {elt for target in iter}, elt a whole number, by a walk that leaves the heap as it is -/
def tScI (w : World) (wi : TI) (g : TG) (te : TE) (vs : List Nat) : TE := fun σ H Q => wi σ H fun J H1 => ∃ (n : Nat) (f : Nat → Int), n ≤ 4000 ∧ ∀ D, H1 D = none →
  (∀ k, k ≤ n → J.stop n (upd H1 D (SetO w D (memD f k) (cntD f k))) ∧ ∀ i, i < n → J.go i (upd H1 D (SetO w D (memD f k) (cntD f k))) ∧ ∀ x H2, J.yld i (upd H1 D (SetO w D (memD f k) (cntD f k))) x H2 →
    g x (wipe σ vs) H2 fun σ2 H3 => wipe σ2 vs = wipe σ vs ∧ te σ2 H3 fun y H4 => y = .int (f i) ∧ H4 = upd H1 D (SetO w D (memD f k) (cntD f k))) ∧
  Q (.ref D) (upd H1 D (SetO w D (memD f n) (cntD f n)))
section
variable {X : Cx} {elt tg iter : Expr} {scope : Scope} {own : List (Str × Nat)} {pos : Pos} {wi : TI} {g : TG} {te : TE}
theorem addI_ok {pins : List (Addr × Obj)} {σ : L2.St} {H1 : Hp} {s : Shared} {E : Value → Shared → Prop} {D : Addr} {f : Nat → Int} {i : Nat} {t : Tok} {Q : Value → Shared → Prop} (I : Inv X pins σ (upd H1 D (SetO X.w D (memD f i) (cntD f i))) s) (hi : i ≤ 4000)
    (h : ∀ s', Inv X pins σ (upd H1 D (SetO X.w D (memD f (i + 1)) (cntD f (i + 1)))) s' → Q .none s') : wpAny (model X.prog X.w) X.A (call (.builtin "set.add") [.ref D, .int (f i) t]) Q E s := by
  have R := setO_get I (a := D) upd_same
  have hl := cntD_le f i
  refine setR_add R (by unfold scanBound; omega) fun h' sb new => ?_
  have hex : ∃ u, h'.get? D = some u := by
    obtain ⟨o, _, _, _, ho, _⟩ := id new
    exact ⟨o, ho⟩
  have J := I.write (x := D) (e := D) (o := SetO X.w D (memD f (i + 1)) (cntD f (i + 1))) (t' := s.toks + 1) (by rw [upd_same]; trivial) (.inl rfl) (fun b u hb hu => (sb.2 b hb).trans hu) hex (setO_new new)
  rw [upd_upd] at J
  exact h _ J
theorem pe_scI (hc : X.calm = true) (hN : X.N.Nodup) (hi : PI X tg iter wi) (ok : BlkOk X.N X.env.scope scope own)
    (hg : ∀ (s : Shared) (H : Hp) (C : Addr) (cl : List (Str × Addr)) (fp : List Addr), PG (X.blk s H scope (compEnvC scope cl C X.env) fp) tg g)
    (he : ∀ (s : Shared) (H : Hp) (C : Addr) (cl : List (Str × Addr)) (fp : List Addr), PE (X.blk s H scope (compEnvC scope cl C X.env) fp) elt te) (hs : ∀ x, foldedSetIterable iter X.env x = pure x := by intro _; rfl) :
    PE X (.SetComp elt [⟨tg, iter, [], 0⟩] scope pos) (tScI X.w wi g te (own.map (·.2))) := by
  refine ⟨fun pins s σ H Q I h => ?_⟩
  rw [PpSet.eval_SetComp]
  have hcl : ∀ y ∈ scope.names, y.2 = .free → ∃ c, X.env.cells.lookup y.1 = some c := fun y hy e => I.ok.has _ (ok.free y hy e)
  refine wpAny_comprehension_free (use := none) rfl hs (closure_ok hcl) ok.kind (fun y hy e => by rw [ok.uniq y hy, e]) (thn (hi.run pins s σ H _ I h) fun xv s1 hx => thn hx fun itv s2 h2 => ?_)
  obtain ⟨it, fp, tn, J, H1, rfl, I2, T, t2, f2, n, f, hn, hq⟩ := h2
  refine PpSet.newSet_ok (newEnv_comp ?_)
  have hD : H1 s2.heap.objs.size = none := I2.hok.fresh (Nat.le_refl _)
  obtain ⟨hgo, q⟩ := hq _ hD
  have I3 : Inv X pins σ (upd H1 s2.heap.objs.size (SetO X.w s2.heap.objs.size (memD f 0) (cntD f 0))) { s2 with heap := s2.heap.push { cls := .type "set", dict := none, data := .set #[] 0 (.fresh 0 0 (!X.w.params.followText "set-order")) } } :=
    I2.laid (t' := s2.toks) (fun b o e => Heap.get?_push_of_some _ e) (Nat.le_refl _) (setO_new (setR_fresh X.w))
  have t3 : tn 0 (s2.heap.push { cls := .type "set", dict := none, data := .set #[] 0 (.fresh 0 0 (!X.w.params.followText "set-order")) }) := T.keep _ _ _ t2 fun b _ o e => Heap.get?_push_of_some _ e
  have hlt : ∀ b ∈ fp, b < s2.heap.objs.size := fun b hb => by
    obtain ⟨o, e, _⟩ := T.obj _ _ t2 b hb
    exact Heap.lt_size e
  have nD : ∀ b ∈ fp, b ≠ s2.heap.objs.size := fun b hb => Nat.ne_of_lt (hlt b hb)
  have hsz3 : (s2.heap.push { cls := .type "set", dict := none, data := .set #[] 0 (.fresh 0 0 (!X.w.params.followText "set-order")) }).objs.size = s2.heap.objs.size + 1 := Heap.size_push ..
  revert I3 t3 q hgo nD hsz3
  generalize s2.heap.push { cls := .type "set", dict := none, data := .set #[] 0 (.fresh 0 0 (!X.w.params.followText "set-order")) } = h3
  generalize s2.heap.objs.size = D at hlt hD ⊢
  intro hgo q I3 t3 nD hsz3
  have f3 : ∀ b ∈ fp, FpOk X pins (upd H1 D (SetO X.w D (memD f 0) (cntD f 0))) b ∧ b < h3.objs.size := fun b hb =>
    ⟨⟨by rw [upd_ne (nD b hb)]; exact (f2 b hb).1, (f2 b hb).2⟩, by rw [hsz3]; exact Nat.lt_succ_of_lt (hlt b hb)⟩
  have I4 := block_start I3 ok hN f3
  have pg := hg { s2 with heap := h3 } (upd H1 D (SetO X.w D (memD f 0) (cntD f 0))) h3.objs.size (cellsFrom (h3.objs.size + 1) scope.names (cloFrom X.env.cells scope.names [])) fp
  have pe := he { s2 with heap := h3 } (upd H1 D (SetO X.w D (memD f 0) (cntD f 0))) h3.objs.size (cellsFrom (h3.objs.size + 1) scope.names (cloFrom X.env.cells scope.names [])) fp
  have t4 : tn 0 (pushCells (h3.push { cls := .type "dict", data := .dict #[] }) scope.names) := T.keep _ _ _ t3 fun b _ o e => pushCells_keeps _ _ _ _ (Heap.get?_push_of_some _ e)
  have nfp : ∀ k, ∀ b ∈ fp, upd H1 D (SetO X.w D (memD f k) (cntD f k)) b = none := fun k b hb => by
    rw [upd_ne (nD b hb)]
    exact (f2 b hb).1
  show codeAny _ _ (.compStart (.SetComp elt [⟨tg, iter, [], 0⟩] scope pos) 0 (.ref it) (.ref D) (compEnvC scope (cellsFrom (h3.objs.size + 1) scope.names (cloFrom X.env.cells scope.names [])) h3.objs.size X.env)) (compPost (model X.prog X.w) X.A X.xe none (EP X pins σ Q) (.ref D) h3.objs.size) { s2 with heap := pushCells (h3.push { cls := .type "dict", data := .dict #[] }) scope.names }
  generalize hce : compEnvC scope (cellsFrom (h3.objs.size + 1) scope.names (cloFrom X.env.cells scope.names [])) h3.objs.size X.env = ce at I4 pg pe ⊢
  have cL : ce.locals = h3.objs.size := by rw [← hce]; rfl
  have stat : ∀ {k : Nat} {σ' : L2.St} {s' : Shared}, Inv (X.blk { s2 with heap := h3 } (upd H1 D (SetO X.w D (memD f 0) (cntD f 0))) scope ce fp) [] σ' (upd H1 D (SetO X.w D (memD f k) (cntD f k))) s' →
      ∀ b ∈ fp, FpOk (X.blk { s2 with heap := h3 } (upd H1 D (SetO X.w D (memD f 0) (cntD f 0))) scope ce fp) [] (upd H1 D (SetO X.w D (memD f k) (cntD f k))) b := fun {k σ' s'} I' b hb =>
    ⟨nfp k b hb, (I'.ok.exf b hb).1, I'.ok.exfs b hb, .inl hb, fun x c e => (I'.ok.exf b hb).2 x c e, fun p hp => nomatch (show p ∈ ([] : List (Addr × Obj)) from hp)⟩
  have loop : codeAny (model X.prog X.w) X.A (.compLoop (.SetComp elt [⟨tg, iter, [], 0⟩] scope pos) 0 (.ref it) (.ref D) ce) (compPost (model X.prog X.w) X.A X.xe none (EP X pins σ Q) (.ref D) h3.objs.size) { s2 with heap := pushCells (h3.push { cls := .type "dict", data := .dict #[] }) scope.names } := by
    refine PpSet.compLoopS_any (fun m s' => ∃ i, m = n - i ∧ i ≤ n ∧ Inv (X.blk { s2 with heap := h3 } (upd H1 D (SetO X.w D (memD f 0) (cntD f 0))) scope ce fp) [] (wipe σ (own.map (·.2))) (upd H1 D (SetO X.w D (memD f i) (cntD f i))) s' ∧ tn i s'.heap) ?_ n ⟨0, rfl, Nat.zero_le _, I4, t4⟩
    rintro m s5 ⟨i, rfl, hin, I5, t5⟩
    obtain ⟨hstop, hstep⟩ := hgo i hin
    by_cases hlti : i < n
    · obtain ⟨go, step⟩ := hstep i hlti
      refine thnF (T.item (X.blk { s2 with heap := h3 } (upd H1 D (SetO X.w D (memD f 0) (cntD f 0))) scope ce fp) rfl rfl rfl hc i [] s5 _ _ (fun _ _ => False) I5 (stat I5) t5 go) fun r s6 ⟨u, hr, h6⟩ => ?_
      subst hr
      refine thnF h6 fun _ s7 ⟨x, H7, I7, r7, y7, t7, n7⟩ => ?_
      have I7' := I7.pinned (fun b hb => ⟨n7 b hb, (stat I5 b hb).2⟩) (T.obj _ _ t7)
      refine thnF (pg.run _ s7 _ H7 x u _ I7' r7 (step x H7 y7)) fun _ s8 ⟨σ8, H8, I8, hw8, q8⟩ => ?_
      simp only [List.forIn_nil]
      refine wpAny_pure ?_
      simp only [if_true]
      refine thnF (pe.run _ s8 σ8 H8 _ I8 q8) fun yv s9 ⟨y, H9, I9, r9, ey, eH⟩ => ?_
      subst ey
      subst eH
      obtain ⟨tk, rfl⟩ := (show ∃ tk, yv = Value.int (f i) tk from r9)
      refine addI_ok (X := X.blk { s2 with heap := h3 } (upd H1 D (SetO X.w D (memD f 0) (cntD f 0))) scope ce fp) I9 (by omega) fun s10 I10 => ?_
      refine ⟨n - (i + 1), by omega, i + 1, rfl, hlti, (I10.unpinned (pins := [])).weak (by rw [← hw8, wipe_length]) (fun j v e => ?_), T.keep _ _ _ t7 fun b hb o e => ?_⟩
      · rw [← hw8] at e
        exact (wipe_some e).1
      · exact (I10.pin (b, o) (List.mem_append_right _ (List.mem_append_right _ (mem_pinsAt hb e)))).1
    · have e : i = n := by omega
      subst e
      refine thnF (T.done (X.blk { s2 with heap := h3 } (upd H1 D (SetO X.w D (memD f 0) (cntD f 0))) scope ce fp) rfl rfl rfl hc i [] s5 _ _ (fun _ _ => False) I5 (stat I5) t5 hstop) fun r s6 ⟨hr, I6⟩ => ?_
      subst hr
      have I7 : Inv X pins σ (upd H1 D (SetO X.w D (memD f i) (cntD f i))) s6 := I3.call' (ch := fp) I6.os I6.base I6.hok I6.bare fun b hb => ⟨(f2 b hb).2.2.2.1, (f2 b hb).2.1, (f2 b hb).2.2.2.2.1, (f2 b hb).2.2.2.2.2⟩
      obtain ⟨m', hm', _⟩ := I6.loc
      have hm' : s6.heap.Ns ce.locals m' := hm'
      have hfree : upd H1 D (SetO X.w D (memD f i) (cntD f i)) ce.locals = none := I6.free
      rw [cL] at hm' hfree
      obtain ⟨c0, c1, c2, c3, c4, c5⟩ := I3.fpOk (b := h3.objs.size) (Nat.le_refl _) hfree
      exact ⟨m', hm', fun h'' sb => ⟨.ref D, _, I7.turned (t' := s6.toks) (fun b o hb e => (sb.2 b hb).trans e) c0 c1 c3 c4 c5, rfl, q⟩⟩
  exact PpSet.codeAny_compStart_set loop (T.self X.A 0 _ _ _ t4 loop)
/-- len of such a set -/
def rLenO (w : World) : List V → Hp → VK → Prop := fun xs H Q => ∃ a S n, xs = [.ref a] ∧ H a = some (SetO w a S n) ∧ Q (.int (n : Int)) H
theorem call_lenO : CallR X (.builtin "len") (rLenO X.w) := by
  intro pins s σ H xs us Q I r h
  obtain ⟨a, S, n, rfl, ha, q⟩ := h
  obtain ⟨u, rfl, rv⟩ := vals1 r
  cases (show u = Value.ref a from rv)
  obtain ⟨o, es, ep, t, ho, hex, hd, _, _, _, hb, hf, hn, _⟩ := setO_get I ha
  have hb : es.size < scanBound := hb
  unfold scanBound at hb
  exact call_len_set ho hex hd hf (by omega) ⟨.int n, H, I.tok _, ⟨_, by rw [hn]⟩, q⟩
end
/-! ### defs that hold a generator expression -/
theorem okT {P : Program} {w : World} {K : PySem.W.Frag} {mg : Str → Option Value} {base : Heap} {x qual : Str} {params : Arguments} {body : List Stmt} {scope : Scope} {dvs : List V} {kws : List (Str × V)} {f c : Addr} {fd : FuncData} {CX : CXT} {N ps : List Str} {k : Nat} {sp : Sp}
    (F : FunD K x qual params body scope dvs kws f fd) (hcode : fd.code = .ref c) (S : FnScope N ps scope) (len : ∀ vs H Q E, sp vs H Q E → vs.length = ps.length)
    (hbody : ∀ (A : Around) (outer : List Env) (s : Shared) (H : Hp) (vs : List V) (Q : VK) (E : XK), Room k (A.deeper (envOfC qual scope s.heap.objs.size f (.ref c))) → sp vs H Q E →
      ∃ t, PSs (cxOf CX P w K mg base N qual scope f (.ref c) A outer s H E) body t ∧ t { nx := fun _ H' => Q .non H', rt := Q } (start N vs) H) : FnOk P w K mg base CX (k + 1) f fd ps sp := by
  obtain ⟨oc, od, dV, kV, doc, pm, an, cdv, ct, osl, rfl, lk, hcd, _, _⟩ := F.ex
  have e : cdv = .ref c := hcode
  subst e
  exact fn_of lk hcd S len hbody
theorem FnG.of {P : Program} {w : World} {K : PySem.W.Frag} {mg : Str → Option Value} {base : Heap} {CX : CXT} {k : Nat} {f : Addr} {fd : FuncData} {ps : List Str} {sp : Sp} (F : FnOk P w K mg base CX k f fd ps sp) : FnG P w K mg base CX k f fd ps sp :=
  ⟨F.len, fun A out s H ar us vs Q E _ hr e0 hb rv h => F.run A out s H ar us vs Q E hr e0 hb rv h⟩
/-- the names of a generator expression that captures nothing -/
theorem genZ_of {env : Env} {scope : Scope} (h : (decide (scope.kind = .function) && (!scope.isCoroutine) && (scope.names.all fun y => decide (y.2 ≠ .cell) && decide (y.2 ≠ .free)) && decide (scope.names.lookup (".0" : Str) = some NameKind.local)) = true) : GenZ env scope := by
  obtain ⟨h, h4⟩ := Bool.and_eq_true_iff.mp h
  obtain ⟨h, h3⟩ := Bool.and_eq_true_iff.mp h
  obtain ⟨h1, h2⟩ := Bool.and_eq_true_iff.mp h
  have h3 := List.all_eq_true.mp h3
  refine ⟨of_decide_eq_true h1, by simpa using h2, fun y hy => ?_, of_decide_eq_true h4, fun y hy e => ?_⟩
  · exact of_decide_eq_true (Bool.and_eq_true_iff.mp (h3 y hy)).1
  · exact absurd e (of_decide_eq_true (Bool.and_eq_true_iff.mp (h3 y hy)).2)
theorem cap0 {N XN : List Str} {no : Nat} {Q : Str → Prop} : ∀ j ci, ([] : List Nat)[j]? = some ci → ∃ y, N[no + j]? = some y ∧ XN[ci]? = some y ∧ Q y := fun j ci h => by simp at h
section
variable {xf : List XF} {fa : List He.Fa} {fn : List He.DefD} {gn : List Str} {K : PySem.W.Frag} {h base : Heap} {mg : Str → Option Value}
theorem SaysT.no (c : SaysT xf fa fn gn K h) (KI : K.In h) {x : Str} (hx : x ∈ gn) : K.lookup (tabA K x) = none := by
  cases e : K.lookup (tabA K x) with
  | none => rfl
  | some o =>
    have := KI _ _ e
    rw [c.em x hx] at this
    have := Option.some.inj this
    exact absurd (by rw [← this]) (c.cl _ _ e)
theorem SaysT.tab (c : SaysT xf fa fn gn K h) (KI : K.In h) (G : h.Ns mainGlobals mg) (KB : K.In base) (hb : mg "__builtins__" = some (.ref (He.ga K "__builtins__"))) {x : Str} (hx : x ∈ gn) : GxR.TabB base mg (codeA K x) (tabA K x) := by
  have cf := codeB_ok (c.cd x hx)
  have nP : ∀ {a : Addr} {o : Obj}, K.lookup a = some o → a ≠ tabA K x := fun {a o} e z => by
    rw [z, c.no KI hx] at e
    cases e
  have gP : mainGlobals ≠ tabA K x := fun z => by
    obtain ⟨o, es, ep, e, d, _⟩ := G
    rw [z, c.em x hx] at e
    cases e
    cases d
  refine ⟨cf.hd base KB, ?_, gP⟩
  obtain ⟨b1, b2⟩ := Bool.and_eq_true_iff.mp c.bm
  split at b2
  · rename_i o e
    obtain ⟨m1, b2⟩ := Bool.and_eq_true_iff.mp b2
    obtain ⟨m2, m3⟩ := Bool.and_eq_true_iff.mp b2
    have nG : He.ga K "__builtins__" ≠ mainGlobals := fun z => by
      obtain ⟨o', es, ep, e', d, _⟩ := G
      have q := KI _ _ e
      rw [z, e'] at q
      have q := Option.some.inj q
      subst q
      rw [d] at m3
      cases m3
    refine ⟨He.ga K "__builtins__", o, hb, of_decide_eq_true b1, nG, nP e, KB _ _ e, isM_ok m1, of_decide_eq_true m2, ?_⟩
    split at m3
    · assumption
    · cases m3
  · cases b2
/-- fd.code of a def that is known -/
theorem SaysT.code (c : SaysT xf fa fn gn K h) {x qual : Str} {params : Arguments} {body : List Stmt} {scope : Scope} {dvs : List V} {kws : List (Str × V)} {fd : FuncData} (F : FunD K x qual params body scope dvs kws (He.ga K x) fd) (hx : x ∈ gn) : fd.code = .ref (codeA K x) := by
  obtain ⟨o, fd', e1, e2, e3⟩ := (codeB_ok (c.cd x hx)).fn
  obtain ⟨oc, od, dV, kV, doc, pm, an, cdv, ct, osl, _, lk, _⟩ := F.ex
  rw [lk] at e1
  cases e1
  cases e2
  exact e3
end
/-! ### the law's own call, the tables tracked -/
theorem law_goT {P : Program} {w : World} {K : PySem.W.Frag} {mg mb : Str → Option Value} {k : Nat} {fa a : Addr} {cs : List (Addr × Addr)} {fd : FuncData} {x : Str} {sp : Sp} {s1 : Shared} {vs : List Value} {ns : List Int} (KX : K.In s1.heap) (hns : s1.heap.Ns mainGlobals mg)
    (hb : s1.heap.Ns builtinsNs mb) (hbb : ∀ x : Str, x ≠ "__name__" → mb x = bootBuiltins x) (hlim : s1.heap.NoLimit) (hg : s1.gens = #[]) (hT : ∀ p ∈ cs, s1.heap.get? p.2 = some { cls := .none, data := .fields #[] }) (nT : ∀ p ∈ cs, K.lookup p.2 = none) (C : ∀ p ∈ cs, PySem.W.CodeHd s1.heap p.1 p.2)
    (ha : s1.heap.get? a = some { cls := .type "list", data := .seq vs.toArray }) (hi : IntsAre vs ns) (hl : ns.length ≤ sizeLine) (hr : Room k callerA)
    (hsys : ∃ mm, s1.heap.Ns sysModules mm) (F : ∀ base : Heap, K.In base → base.Ns mainGlobals mg → (∃ o, base.get? sysModules = some o) → FnG P w K mg base CX0 k fa fd [x] sp) (hbind : ∀ (s : Shared) (u : Value), BindsTo s fd ⟨[u], []⟩ [(x, u)])
    (hsp : ∀ H : Hp, (∀ p ∈ cs, H p.2 = some (TabX p.2)) → SqL K H a (ns.map V.int) → sp [.ref a] H (fun v H' => v = .bl true ∧ Ex H H') fun _ _ _ => False) :
    codeAny (model P w) callerA (.call (.ref fa) ⟨[.ref a], []⟩) (fun r s2 => r = .ok (.ret (.bool true)) ∧ OldK s1.heap s2.heap ∧ s2.os = s1.os ∧ AllBare s2.gens) s1 := by
  have rv := vals_ints hi
  have lenV := hi.length
  have isT : ∀ {b : Addr}, b ∈ cs.map (·.2) → s1.heap.get? b = some { cls := .none, data := .fields #[] } := fun {b} m => by
    obtain ⟨p, hp, rfl⟩ := List.mem_map.mp m
    exact hT p hp
  have nA : a ∉ cs.map (·.2) := fun m => by
    have q := isT m
    rw [ha] at q
    cases q
  have main : ∀ H : Hp, (∀ b ∈ cs.map (·.2), H b = some (TabX b)) → (∀ b, b ∉ cs.map (·.2) → H b = none ∨ (b = a ∧ ∃ o xs, H b = some (.frz o (.lst xs)))) → SqL K H a (ns.map V.int) → HOk P w H s1.heap → (H a ≠ none → K.lookup a = none) →
      codeAny (model P w) callerA (.call (.ref fa) ⟨[.ref a], []⟩) (fun r s2 => r = .ok (.ret (.bool true)) ∧ OldK s1.heap s2.heap ∧ s2.os = s1.os ∧ AllBare s2.gens) s1 := by
    intro H hH hO hS hok hK
    have dictFree : ∀ {b : Addr} {o : Obj} {es : Array DictEntry} {ep : Nat}, s1.heap.get? b = some o → o.data = .dict es ep → H b = none := fun {b o es ep} e d => by
      by_cases m : b ∈ cs.map (·.2)
      · rw [isT m] at e
        cases e
        cases d
      · rcases hO b m with z | ⟨z, _⟩
        · exact z
        · rw [z, ha] at e
          cases e
          cases d
    have nsH : ∀ {b : Addr} {m : Str → Option Value}, s1.heap.Ns b m → (hidT s1.heap H).Ns b m := fun {b m} ⟨o, es, ep, e, d, r⟩ => ⟨o, es, ep, hidT_get e (dictFree e d), d, r⟩
    have KH : K.In (hidT s1.heap H) := fun b o e => hidT_get (KX b o e) (by
      by_cases m : b ∈ cs.map (·.2)
      · obtain ⟨p, hp, rfl⟩ := List.mem_map.mp m
        rw [nT p hp] at e
        cases e
      · rcases hO b m with z | ⟨z, o', xs, z2⟩
        · exact z
        · rw [z] at e z2
          rw [hK (by rw [z2]; exact Option.some_ne_none _)] at e
          cases e)
    have lim : (hidT s1.heap H).NoLimit := by
      obtain ⟨mc, l1, l2⟩ := hlim
      exact ⟨mc, nsH l1, l2⟩
    have e0 : Env0 P w K mg (hidT s1.heap H) callerA [] s1 H := ⟨rfl, ⟨KH, nsH hns, ⟨mb, nsH hb, hbb⟩, lim⟩, fun b o e => of_hidT e, Nat.le_of_eq (hidT_size _ _), trivial, (fun b z => nomatch z), hok, .of_eq hg⟩
    refine codeAny_mono ((F _ KH (nsH hns) (by
      obtain ⟨mm, hm⟩ := hsys
      obtain ⟨o, _, _, e, _⟩ := nsH hm
      exact ⟨o, e⟩)).go callerA [] s1 H ⟨[.ref a], []⟩ [.ref a] [.ref a] _ _ rfl hr e0 (hbind s1 (.ref a)) (.cons rfl .nil) (hsp H (fun p hp => hH _ (List.mem_map.mpr ⟨p, hp, rfl⟩)) hS)) fun res s2 h2 => ?_
    match res, h2 with
    | .error _, h2 => exact h2.elim
    | .ok .next, h2 => exact h2.elim
    | .ok .brk, h2 => exact h2.elim
    | .ok .cont, h2 => exact h2.elim
    | .ok (.ret u), h2 =>
      obtain ⟨v, H2, os, bare, un, hok2, r2, q2⟩ := h2
      obtain ⟨q2, ex2⟩ : v = .bl true ∧ Ex H H2 := q2
      subst q2
      have r2 : u = Value.bool true := r2
      subst r2
      have grown : ∀ b ∈ cs.map (·.2), ∃ ps : Array Value, s2.heap.get? b = some { cls := .none, data := .fields ps } := fun b m => by
        obtain ⟨⟨ps, e, _⟩, _⟩ := hok2 b _ (ex2 b _ (hH b m))
        exact ⟨ps, e⟩
      have kept : ∀ b o, b ∉ cs.map (·.2) → s1.heap.get? b = some o → s2.heap.get? b = some o := fun b o m e => by
        rcases hO b m with z | ⟨_, o', xs, z⟩
        · exact un.keep b o e z (fun y => nomatch y) (fun y => nomatch y)
        · have c1 := (hok b _ z).1
          rw [e] at c1
          rw [Option.some.inj c1]
          exact (hok2 b _ (un.frzs b o' _ z)).1
      refine ⟨rfl, ⟨fun b o e => ?_, fun b o e => ?_⟩, os, bare⟩
      · by_cases m : b ∈ cs.map (·.2)
        · obtain ⟨ps, hps⟩ := grown b m
          obtain ⟨p, hp, rfl⟩ := List.mem_map.mp m
          rw [hT p hp] at e
          cases e
          exact .inr (.inl ⟨((C p hp).tab (hT p hp)).isCodeTable, rfl, #[], ps, rfl, by rw [Array.empty_append]; exact hps⟩)
        · exact .inl (kept b o m e)
      · by_cases m : b ∈ cs.map (·.2)
        · obtain ⟨ps, hps⟩ := grown b m
          exact ⟨_, hps⟩
        · exact ⟨o, kept b o m e⟩
  have tOk : ∀ {H : Hp} {b : Addr}, b ∈ cs.map (·.2) → ObjOk P w H s1.heap b (TabX b) := fun m => tabX_ok (isT m) trivial
  cases hk : K.lookup a with
  | some o =>
    have e := (KX a o hk).symm.trans ha
    cases e
    refine main (fun b => if b ∈ cs.map (·.2) then some (TabX b) else none) (fun b m => if_pos m) (fun b m => .inl (if_neg m)) (.inr ⟨_, vs.toArray, _, hk, rfl, rfl, rfl, ?_, ?_⟩) (fun b u z => ?_) (fun z => absurd (if_neg nA) z)
    · rw [List.size_toArray, lenV]
      exact hl
    · simpa using rv
    · by_cases m : b ∈ cs.map (·.2)
      · cases (if_pos m).symm.trans z
        exact tOk m
      · cases (if_neg m).symm.trans z
  | none =>
    have atA : ∀ {o : HO}, (fun b => if b = a then some o else if b ∈ cs.map (·.2) then some (TabX b) else none : Hp) a = some o := if_pos rfl
    have neA : ∀ {b : Addr}, b ∈ cs.map (·.2) → b ≠ a := fun m z => nA (z ▸ m)
    refine main (fun b => if b = a then some (.frz { cls := .type "list", data := .seq vs.toArray } (.lst (ns.map V.int))) else if b ∈ cs.map (·.2) then some (TabX b) else none) (fun b m => (if_neg (neA m)).trans (if_pos m)) (fun b m => ?_) (.inl (.inr ⟨_, atA⟩)) (fun b u z => ?_) (fun _ => hk)
    · by_cases y : b = a
      · exact .inr ⟨y, _, _, if_pos y⟩
      · exact .inl ((if_neg y).trans (if_neg m))
    · by_cases y : b = a
      · subst y
        cases atA.symm.trans z
        exact ⟨ha, by rw [List.length_map]; exact hl, vs, _, rv, ha⟩
      · have z := (if_neg y).symm.trans z
        by_cases m : b ∈ cs.map (·.2)
        · cases (if_pos m).symm.trans z
          exact tOk m
        · cases (if_neg m).symm.trans z
theorem walkT {l : PySem.W.OpenLaw} {n k : Nat} {q : Program} {loose : List Str} {XP : (Str → Option Value) → Heap → Prop} {YP : World → Heap → Prop} {d : DefRec} {x : Str} (hn : l.most = some n) (hn2 : n ≤ sizeLine) (hdf : d.params.defaults = []) (hr : Room k callerA) (hin : PyProof.Rows.importsNone q = true)
    (F : ∀ (w : World) (mg : Str → Option Value) (fa : Addr) (h : Heap), YP w h → h.Ns mainGlobals mg → mg d.name = some (.ref fa) → ∃ (K : PySem.W.Frag) (fd : FuncData) (cs : List (Addr × Addr)) (sp : Sp), K.In h ∧ (∀ p ∈ cs, h.get? p.2 = some { cls := .none, data := .fields #[] }) ∧ (∀ p ∈ cs, K.lookup p.2 = none) ∧
        (∀ p ∈ cs, PySem.W.CodeHd h p.1 p.2) ∧ (∀ (s : Shared) (u : Value), BindsTo s fd ⟨[u], []⟩ [(x, u)]) ∧
        (∀ (H : Hp) (a : Addr) (ns : List Int), ns.length ≤ n → (∀ p ∈ cs, H p.2 = some (TabX p.2)) → SqL K H a (ns.map V.int) → sp [.ref a] H (fun v H' => v = .bl true ∧ Ex H H') fun _ _ _ => False) ∧ ∀ base : Heap, K.In base → base.Ns mainGlobals mg → (∃ o, base.get? sysModules = some o) → FnG l.prog w K mg base CX0 k fa fd [x] sp) :
    PySem.W.WalkO q loose XP YP l.row.toRowW d [] (fun f vs => PySem.call f vs) := by
  refine Att.attach_call hn hdf fun w s0 s1 mg mb fa o pm cd doc a vs ns G Y ho hd hcd hmg hobj hints hlen hg => ?_
  obtain ⟨K, fd, cs, sp, KX, hT, nT, C, hb, hsp, hF⟩ := F w mg fa _ Y G.T.g hmg
  exact law_goT KX G.T.g G.T.b G.T.builtins G.T.nolimit hg hT nT C hobj hints (Nat.le_trans hlen hn2) hr (let ⟨mm, hm, _⟩ := (G.T.seer hin).mods; ⟨mm, hm⟩) hF hb (fun H hH hS => hsp H a ns hlen hH hS)
theorem gX_nd {X : Cx} {N : List Str} {scope : Scope} {code : Value} {fp : List Addr} {s : Shared} {H : Hp} {pn : List (Addr × Obj)} (h : N.Nodup) : (gX X N scope code fp s H pn).N.Nodup := h
theorem pgz {X : Cx} {N : List Str} {scope : Scope} {code : Value} {fp : List Addr} {s : Shared} {H : Hp} {pn : List (Addr × Obj)} {i : Nat} {x : Str} {pos : Pos} (hN : N.Nodup) (hi : N[i]? = some x) (hx : scope.names.lookup x = some .local) : PG (gX X N scope code fp s H pn) (.Name x pos) (gName i) :=
  pg_name hN hi (.inl hx) (.inr hx)
theorem pgz_tup2 {X : Cx} {N : List Str} {scope : Scope} {code : Value} {fp : List Addr} {s : Shared} {H : Hp} {pn : List (Addr × Obj)} {i j k : Nat} {x y : Str} {p1 p2 pos : Pos} (hN : N.Nodup) (hi : N[i]? = some x) (hj : N[j]? = some y) (hx : scope.names.lookup x = some .local) (hy : scope.names.lookup y = some .local) :
    PG (gX X N scope code fp s H pn) (.Tuple [.Name x p1, .Name y p2] k pos) (gTup X.K 2 (gCons (gName i) (gCons (gName j) gNil))) :=
  pg_tup rfl (pgs_cons (pgz hN hi hx) (pgs_cons (pgz hN hj hy) pgs_nil))
theorem pg_tupK {X : Cx} {es : List Expr} {k : Nat} {t : TGs} {n : Nat} {pos : Pos} (K : PySem.W.Frag) (hc : X.calm = true) (h : PGs X es t) (hK : X.K = K := by rfl) (hn : (assignEach es X.env).length = n := by rfl) (hst : (assignEach es X.env).findIdx? (·.1) = none := by rfl) :
    PG X (.Tuple es k pos) (gTup K n t) := by
  subst hK
  exact pg_tup hc h hn hst
section
variable {X : Cx} {o e : Expr} {es : List Expr} {to : TE} {t : TA} {name : Str} {apos cpos : Pos} {T id : String} {r : V → List V → Hp → VK → Prop}
theorem pe_bmK (K : PySem.W.Frag) (pa : PlainAttrs T) (slot : Slot T name id) (hty : typeOf (.builtin id) = pure (.type "method_descriptor")) (hm : MtR X id r) (ho : PE X o to) (ha : PA X (e :: es) t) (hK : X.K = K := by rfl)
    (hbase : attributeBase o name X.env (eval o X.env) = eval o X.env := by rfl)
    (hfew : ((backTo cpos (starEach (e :: es) X.env)).all (fun x => !x.1) && ((backToKw cpos (keywordEach [] X.env)).all fun x => x.1.isSome) && decide ((e :: es).length + ([] : List Keyword).length + (if ([] : List Keyword).isEmpty then 0 else 1) < 30)) = true := by rfl)
    (hline : (apos.endLine == cpos.line) = true := by rfl) (hs : starEach (e :: es) X.env = (false, eval e X.env) :: starEach es X.env := by rfl) (hplain : (backTo cpos (starEach es X.env)).any (·.1) = false := by rfl) :
    PE X (.Call (.Attribute o name apos) (e :: es) [] cpos) (tBM K T r to t) := by
  subst hK
  exact pe_bm pa slot hty hm ho ha hbase hfew hline hs hplain
end
/-! ### repr of whatever stands in the heap -/
theorem Inv.noSys {X : Cx} {pins : List (Addr × Obj)} {σ : L2.St} {H : Hp} {s : Shared} (I : Inv X pins σ H s) (hy : ∃ o, X.base.get? sysModules = some o) : H sysModules = none := by
  obtain ⟨o, e⟩ := hy
  exact (I.bs _ o e).2
section
variable {X : Cx} {pins : List (Addr × Obj)} {σ : L2.St} {H : Hp} {s : Shared}
mutual
theorem Dt.readsB (I : Inv X pins σ H s) (hn : H sysModules = none) : ∀ (d : PyData) (v : V) (u : Value), Dt H v d → RelV v u → ∃ as, Reads s.heap u d as ∧ sysModules ∉ as
  | .none, _, _, h, r => by
    cases h
    cases r
    exact ⟨_, .none, fun z => nomatch z⟩
  | .bool b, _, _, h, r => by
    cases h
    cases r
    exact ⟨_, .bool b, fun z => nomatch z⟩
  | .int i, _, _, h, r => by
    cases h
    obtain ⟨t, rfl⟩ := r
    exact ⟨_, .int i t, fun z => nomatch z⟩
  | .str x, _, _, h, r => by
    cases h
    obtain ⟨t, rfl⟩ := r
    exact ⟨_, .str x t, fun z => nomatch z⟩
  | .list ds, _, _, h, r => by
    cases h with
    | @lst a _ _ hs ha =>
      cases r
      obtain ⟨its, rv, ⟨o, n, ho, hc, _, hd⟩, _⟩ := I.list (sq_of hs)
      obtain ⟨as, hr, hm⟩ := DtAll.readsB I hn ds _ its ha rv
      refine ⟨_, .list ho hc hd hr, fun z => ?_⟩
      rcases List.mem_cons.mp z with y | y
      · rw [← y, hn] at hs
        cases hs
      · exact hm y
  | .tuple ds, _, _, h, r => by
    cases h with
    | tup hs ha =>
      cases r
      obtain ⟨its, rv, ⟨o, ho, hc, n, hd⟩, _⟩ := I.tuple (st_of hs)
      obtain ⟨as, hr, hm⟩ := DtAll.readsB I hn ds _ its ha rv
      exact ⟨_, .tuple ho hc hd hr, hm⟩
  | .dict kvs, _, _, h, r => by
    obtain ⟨as, h1, h2⟩ := Dt.reads I (.dict kvs) _ _ h r
    exact ⟨as, h1, h2 rfl⟩
theorem DtAll.readsB (I : Inv X pins σ H s) (hn : H sysModules = none) : ∀ (ds : List PyData) (vs : List V) (us : List Value), DtAll H vs ds → Vals vs us → ∃ as, ReadsAll s.heap us ds as ∧ sysModules ∉ as
  | [], _, _, h, r => by
    cases h
    cases r
    exact ⟨_, .nil, fun z => nomatch z⟩
  | d :: ds, _, _, h, r => by
    cases h with
    | cons h1 h2 =>
      cases r with
      | cons r1 r2 =>
        obtain ⟨as, q1, n1⟩ := Dt.readsB I hn d _ _ h1 r1
        obtain ⟨bs, q2, n2⟩ := DtAll.readsB I hn ds _ _ h2 r2
        refine ⟨_, .cons q1 q2, fun m => ?_⟩
        rcases List.mem_append.mp m with m | m
        · exact n1 m
        · exact n2 m
end
structure ShowsB (d : PyData) : Prop where
  sh : d.showable = true
  dp : d.depth ≤ 60
  ln : d.shown.length ≤ sizeLine
def rReprB : List V → Hp → VK → Prop := fun xs H Q => ∃ v d, xs = [v] ∧ Dt H v d ∧ ShowsB d ∧ Q (.str d.shown) H
theorem call_reprB (hy : ∃ o, X.base.get? sysModules = some o) (hG : X.A.guards = some []) (hu : X.A.units + 64 < cLine) : CallR X (.builtin "repr") rReprB := by
  intro pins s σ H xs us Q I r h
  obtain ⟨v, d, rfl, hd, hs, q⟩ := h
  obtain ⟨u, rfl, rv⟩ := vals1 r
  have fin : ∀ (a : Addr), v = .ref a → wpAny (model X.prog X.w) X.A (call (.builtin "repr") [u]) (EP X pins σ Q) X.xe s := fun a e => by
    subst e
    have e2 : u = Value.ref a := rv
    subst e2
    obtain ⟨as, hr, hn⟩ := Dt.readsB I (Inv.noSys I hy) d _ _ hd rv
    have := hs.dp
    refine repr_of_reads' hr hs.sh (fun z => hn) hG (by omega) (fun _ _ z => z) (fun h' t tk hk => ?_) hs.ln
    exact ⟨.str d.shown, H, I.kept (t' := tk) hk, ⟨t, rfl⟩, q⟩
  cases hd with
  | non =>
    cases (show u = Value.none from rv)
    exact PySem.P.repr_of_none ⟨.str _, H, I.tok _, ⟨_, rfl⟩, q⟩
  | bl b =>
    cases (show u = Value.bool b from rv)
    exact PySem.P.repr_of_bool ⟨.str _, H, I.tok _, ⟨_, rfl⟩, q⟩
  | int i =>
    obtain ⟨t, rfl⟩ := (show ∃ t, u = Value.int i t from rv)
    exact PySem.P.repr_of_int (of_decide_eq_true hs.sh) ⟨.str _, H, I.tok _, ⟨_, rfl⟩, q⟩
  | str x =>
    obtain ⟨t, rfl⟩ := (show ∃ t, u = Value.str x t from rv)
    exact PySem.P.repr_of_str ⟨.str _, H, I.tok _, ⟨_, rfl⟩, q⟩ hs.ln
  | lst a b => exact fin _ rfl
  | tup a b => exact fin _ rfl
  | dic a => exact fin _ rfl
end
abbrev FnP (K : PySem.W.Frag) (x : Str) (st : Stmt) (f : Addr) (fd : FuncData) : Prop := FunD K x x (defArgs st) (defBody st) (defScope st) [] [] f fd
structure Ad where
  a_is_whole : Addr
  d_is_whole : FuncData
  a_is_whole_below : Addr
  d_is_whole_below : FuncData
  a_common_divisor : Addr
  d_common_divisor : FuncData
  a_short_row : Addr
  d_short_row : FuncData
  a_inverse : Addr
  d_inverse : FuncData
  a_is_pair : Addr
  d_is_pair : FuncData
  a_is_fraction : Addr
  d_is_fraction : FuncData
  a_is_prime : Addr
  d_is_prime : FuncData
  a_need_fraction : Addr
  d_need_fraction : FuncData
  a_need_prime : Addr
  d_need_prime : FuncData
  a_rest_by : Addr
  d_rest_by : FuncData
  a_rest_of : Addr
  d_rest_of : FuncData
  a_rests_of : Addr
  d_rests_of : FuncData
  a_is_rest : Addr
  d_is_rest : FuncData
  a_is_reading : Addr
  d_is_reading : FuncData
  a_is_readings : Addr
  d_is_readings : FuncData
  a_need_readings : Addr
  d_need_readings : FuncData
  a_keeps : Addr
  d_keeps : FuncData
  a_not_kept : Addr
  d_not_kept : FuncData
  a__law_pool : Addr
  d__law_pool : FuncData
  a__law_take : Addr
  d__law_take : FuncData
  a__law_far : Addr
  d__law_far : FuncData
  a__law_all_primes : Addr
  d__law_all_primes : FuncData
  a__law_prime : Addr
  d__law_prime : FuncData
  a__law_shared : Addr
  d__law_shared : FuncData
  a__law_low : Addr
  d__law_low : FuncData
  a__law_fraction : Addr
  d__law_fraction : FuncData
  a__law_near : Addr
  d__law_near : FuncData
  a__law_two_right : Addr
  d__law_two_right : FuncData
  a__law_other_ways : Addr
  d__law_other_ways : FuncData
  a_law : Addr
  d_law : FuncData
  t_PRIME_LIMIT : Tok
  t_MOST_READINGS : Tok
  k_BackError : Addr
  k_NoFraction : Addr
  k_NoPrime : Addr
  k_NoReadings : Addr
  c_is_readings : Addr
  p_is_readings : Addr
/-- the tables stand in the heap -/
def Tabs (z : Ad) (H : Hp) : Prop := H z.p_is_readings = some (TabX z.p_is_readings)
theorem Tabs.up {z : Ad} {H H2 : Hp} (t : Tabs z H) (e : Ex H H2) : Tabs z H2 := e _ _ t
theorem Tabs.dr {z : Ad} {B : Addr} {H H2 : Hp} (t : Tabs z H) (hB : IsL H B) (e : ExB B H H2) : Tabs z H2 := e _ _ (fun y => by obtain ⟨xs, hx⟩ := hB; have q := t; unfold Tabs at q; rw [y, hx] at q; cases q) t
structure Txt (K : PySem.W.Frag) (mg : Str → Option Value) (base : Heap) (z : Ad) : Prop where
  F_is_whole : FnP K "is_whole" s_is_whole z.a_is_whole z.d_is_whole
  g_is_whole : mg "is_whole" = some (.ref z.a_is_whole)
  b_is_whole : Binds K z.d_is_whole ["thing"] []
  F_is_whole_below : FnP K "is_whole_below" s_is_whole_below z.a_is_whole_below z.d_is_whole_below
  g_is_whole_below : mg "is_whole_below" = some (.ref z.a_is_whole_below)
  b_is_whole_below : Binds K z.d_is_whole_below ["thing", "limit"] []
  F_common_divisor : FnP K "common_divisor" s_common_divisor z.a_common_divisor z.d_common_divisor
  g_common_divisor : mg "common_divisor" = some (.ref z.a_common_divisor)
  b_common_divisor : Binds K z.d_common_divisor ["one", "other"] []
  F_short_row : FnP K "short_row" s_short_row z.a_short_row z.d_short_row
  g_short_row : mg "short_row" = some (.ref z.a_short_row)
  b_short_row : Binds K z.d_short_row ["modulus", "number", "most"] []
  F_inverse : FnP K "inverse" s_inverse z.a_inverse z.d_inverse
  g_inverse : mg "inverse" = some (.ref z.a_inverse)
  b_inverse : Binds K z.d_inverse ["number", "prime"] []
  F_is_pair : FnP K "is_pair" s_is_pair z.a_is_pair z.d_is_pair
  g_is_pair : mg "is_pair" = some (.ref z.a_is_pair)
  b_is_pair : Binds K z.d_is_pair ["thing"] []
  F_is_fraction : FnP K "is_fraction" s_is_fraction z.a_is_fraction z.d_is_fraction
  g_is_fraction : mg "is_fraction" = some (.ref z.a_is_fraction)
  b_is_fraction : Binds K z.d_is_fraction ["thing"] []
  F_is_prime : FnP K "is_prime" s_is_prime z.a_is_prime z.d_is_prime
  g_is_prime : mg "is_prime" = some (.ref z.a_is_prime)
  b_is_prime : Binds K z.d_is_prime ["thing"] []
  F_need_fraction : FnP K "need_fraction" s_need_fraction z.a_need_fraction z.d_need_fraction
  g_need_fraction : mg "need_fraction" = some (.ref z.a_need_fraction)
  b_need_fraction : Binds K z.d_need_fraction ["thing"] []
  F_need_prime : FnP K "need_prime" s_need_prime z.a_need_prime z.d_need_prime
  g_need_prime : mg "need_prime" = some (.ref z.a_need_prime)
  b_need_prime : Binds K z.d_need_prime ["thing"] []
  F_rest_by : FnP K "rest_by" s_rest_by z.a_rest_by z.d_rest_by
  g_rest_by : mg "rest_by" = some (.ref z.a_rest_by)
  b_rest_by : Binds K z.d_rest_by ["f", "p"] []
  F_rest_of : FnP K "rest_of" s_rest_of z.a_rest_of z.d_rest_of
  g_rest_of : mg "rest_of" = some (.ref z.a_rest_of)
  b_rest_of : Binds K z.d_rest_of ["f", "p"] []
  F_rests_of : FnP K "rests_of" s_rests_of z.a_rests_of z.d_rests_of
  g_rests_of : mg "rests_of" = some (.ref z.a_rests_of)
  b_rests_of : Binds K z.d_rests_of ["f", "primes"] []
  F_is_rest : FnP K "is_rest" s_is_rest z.a_is_rest z.d_is_rest
  g_is_rest : mg "is_rest" = some (.ref z.a_is_rest)
  b_is_rest : Binds K z.d_is_rest ["thing", "p"] []
  F_is_reading : FnP K "is_reading" s_is_reading z.a_is_reading z.d_is_reading
  g_is_reading : mg "is_reading" = some (.ref z.a_is_reading)
  b_is_reading : Binds K z.d_is_reading ["thing"] []
  F_is_readings : FnP K "is_readings" s_is_readings z.a_is_readings z.d_is_readings
  g_is_readings : mg "is_readings" = some (.ref z.a_is_readings)
  b_is_readings : Binds K z.d_is_readings ["thing"] []
  F_need_readings : FnP K "need_readings" s_need_readings z.a_need_readings z.d_need_readings
  g_need_readings : mg "need_readings" = some (.ref z.a_need_readings)
  b_need_readings : Binds K z.d_need_readings ["thing"] []
  F_keeps : FnP K "keeps" s_keeps z.a_keeps z.d_keeps
  g_keeps : mg "keeps" = some (.ref z.a_keeps)
  b_keeps : Binds K z.d_keeps ["f", "reading"] []
  F_not_kept : FnP K "not_kept" s_not_kept z.a_not_kept z.d_not_kept
  g_not_kept : mg "not_kept" = some (.ref z.a_not_kept)
  b_not_kept : Binds K z.d_not_kept ["f", "readings"] []
  F__law_pool : FnP K "_law_pool" s__law_pool z.a__law_pool z.d__law_pool
  g__law_pool : mg "_law_pool" = some (.ref z.a__law_pool)
  b__law_pool : Binds K z.d__law_pool ["script", "k"] []
  F__law_take : FnP K "_law_take" s__law_take z.a__law_take z.d__law_take
  g__law_take : mg "_law_take" = some (.ref z.a__law_take)
  b__law_take : Binds K z.d__law_take ["pool", "many"] []
  F__law_far : FnP K "_law_far" s__law_far z.a__law_far z.d__law_far
  g__law_far : mg "_law_far" = some (.ref z.a__law_far)
  b__law_far : Binds K z.d__law_far ["pool", "turns"] []
  F__law_all_primes : FnP K "_law_all_primes" s__law_all_primes z.a__law_all_primes z.d__law_all_primes
  g__law_all_primes : mg "_law_all_primes" = some (.ref z.a__law_all_primes)
  b__law_all_primes : Binds K z.d__law_all_primes [] []
  F__law_prime : FnP K "_law_prime" s__law_prime z.a__law_prime z.d__law_prime
  g__law_prime : mg "_law_prime" = some (.ref z.a__law_prime)
  b__law_prime : Binds K z.d__law_prime ["pool", "primes"] []
  F__law_shared : FnP K "_law_shared" s__law_shared z.a__law_shared z.d__law_shared
  g__law_shared : mg "_law_shared" = some (.ref z.a__law_shared)
  b__law_shared : Binds K z.d__law_shared ["one", "other"] []
  F__law_low : FnP K "_law_low" s__law_low z.a__law_low z.d__law_low
  g__law_low : mg "_law_low" = some (.ref z.a__law_low)
  b__law_low : Binds K z.d__law_low ["top", "bottom"] []
  F__law_fraction : FnP K "_law_fraction" s__law_fraction z.a__law_fraction z.d__law_fraction
  g__law_fraction : mg "_law_fraction" = some (.ref z.a__law_fraction)
  b__law_fraction : Binds K z.d__law_fraction ["pool", "primes"] []
  F__law_near : FnP K "_law_near" s__law_near z.a__law_near z.d__law_near
  g__law_near : mg "_law_near" = some (.ref z.a__law_near)
  b__law_near : Binds K z.d__law_near ["pool", "f", "p"] []
  F__law_two_right : FnP K "_law_two_right" s__law_two_right z.a__law_two_right z.d__law_two_right
  g__law_two_right : mg "_law_two_right" = some (.ref z.a__law_two_right)
  b__law_two_right : Binds K z.d__law_two_right ["f", "g", "some"] []
  F__law_other_ways : FnP K "_law_other_ways" s__law_other_ways z.a__law_other_ways z.d__law_other_ways
  g__law_other_ways : mg "_law_other_ways" = some (.ref z.a__law_other_ways)
  b__law_other_ways : Binds K z.d__law_other_ways ["pool", "f", "p"] []
  F_law : FnP K "law" s_law z.a_law z.d_law
  g_law : mg "law" = some (.ref z.a_law)
  b_law : Binds K z.d_law ["script"] []
  m_isinstance : mg "isinstance" = none
  m_bool : mg "bool" = none
  m_int : mg "int" = none
  m_len : mg "len" = none
  m_tuple : mg "tuple" = none
  m_list : mg "list" = none
  m_all : mg "all" = none
  m_enumerate : mg "enumerate" = none
  m_range : mg "range" = none
  m_abs : mg "abs" = none
  m_zip : mg "zip" = none
  m_max : mg "max" = none
  m_min : mg "min" = none
  c_PRIME_LIMIT : mg "PRIME_LIMIT" = some (.int 1000 z.t_PRIME_LIMIT)
  c_MOST_READINGS : mg "MOST_READINGS" = some (.int 10 z.t_MOST_READINGS)
  k_BackError : mg "BackError" = some (.ref z.k_BackError)
  x_BackError : ExcFacts K z.k_BackError
  k_NoFraction : mg "NoFraction" = some (.ref z.k_NoFraction)
  x_NoFraction : ExcFacts K z.k_NoFraction
  k_NoPrime : mg "NoPrime" = some (.ref z.k_NoPrime)
  x_NoPrime : ExcFacts K z.k_NoPrime
  k_NoReadings : mg "NoReadings" = some (.ref z.k_NoReadings)
  x_NoReadings : ExcFacts K z.k_NoReadings
  sm : SMK K
  sys : ∃ o, base.get? sysModules = some o
  cd_is_readings : z.d_is_readings.code = .ref z.c_is_readings
  tb_is_readings : GxR.TabB base mg z.c_is_readings z.p_is_readings
/-! readings without None, as pairs of whole numbers -/
def rdD (l : List (Int × Int)) : List PyData := l.map fun q => .tuple [.int q.1, .int q.2]
def prodP (l : List (Int × Int)) : Int := (l.map (·.1)).foldl (· * ·) 1
structure RdOk (l : List (Int × Int)) : Prop where
  len : l.length ≤ 10
  ok : ∀ q ∈ l, primeB q.1 = true ∧ 0 ≤ q.2 ∧ q.2 < q.1
  nd : (l.map (·.1)).Nodup
theorem prodP_snoc {l : List (Int × Int)} {q : Int × Int} : prodP (l ++ [q]) = prodP l * q.1 := by
  unfold prodP
  rw [List.map_append, List.foldl_append]
  rfl
theorem take_snoc {α : Type} {l : List α} {i : Nat} {q : α} (h : l[i]? = some q) : l.take (i + 1) = l.take i ++ [q] := by
  rw [List.take_add_one, h]
  rfl
theorem prime_ne {p q : Int} (hp : primeB p = true) (hq : primeB q = true) (h : p ≠ q) : Int.gcd q p = 1 := by
  refine primeB_gcd hp fun e => ?_
  have lo := primeB_lo hp
  rcases primeB_div hq (Int.dvd_of_emod_eq_zero e) (by omega) with z | z
  · omega
  · exact h z
theorem gcd_mul1 {a b p : Int} (ha : Int.gcd a p = 1) (hb : Int.gcd b p = 1) : Int.gcd (a * b) p = 1 := by
  rw [Int.gcd_eq_natAbs_gcd_natAbs] at *
  rw [Int.natAbs_mul]
  exact Nat.Coprime.mul_left ha hb
theorem prodP_facts : ∀ (n : Nat) (l : List (Int × Int)), l.length = n → (∀ q ∈ l, primeB q.1 = true) → 0 < prodP l ∧ prodP l ≤ 1000 ^ n ∧ (∀ q ∈ l, q.1 ∣ prodP l) ∧ ∀ p, primeB p = true → (∀ q ∈ l, q.1 ≠ p) → Int.gcd (prodP l) p = 1
  | 0, l, h, _ => by
    have e : l = [] := List.length_eq_zero_iff.mp h
    subst e
    exact ⟨by decide, by decide, (fun q hq => by cases hq), fun p _ _ => Int.one_gcd⟩
  | n + 1, l, h, hp => by
    obtain ⟨l', q, rfl⟩ : ∃ l' q, l = l' ++ [q] := by
      refine ⟨l.dropLast, l.getLast (fun e => by rw [e] at h; cases h), (List.dropLast_concat_getLast _).symm⟩
    have h' : l'.length = n := by
      rw [List.length_append] at h
      have : l'.length + 1 = n + 1 := h
      omega
    obtain ⟨i1, i2, i3, i4⟩ := prodP_facts n l' h' fun x hx => hp x (List.mem_append_left _ hx)
    have hq := hp q (List.mem_append_right _ List.mem_cons_self)
    have lo := primeB_lo hq
    rw [prodP_snoc]
    refine ⟨Int.mul_pos i1 (by omega), ?_, fun x hx => ?_, fun p hpp hne => ?_⟩
    · rw [Int.pow_succ]
      exact Int.mul_le_mul i2 (by omega) (by omega) (by exact Int.le_trans (Int.le_of_lt i1) i2)
    · rcases List.mem_append.mp hx with z | z
      · exact Int.dvd_mul_of_dvd_left (i3 x z)
      · rcases List.mem_cons.mp z with rfl | z
        · exact Int.dvd_mul_left _ _
        · cases z
    · exact gcd_mul1 (i4 p hpp fun x hx => hne x (List.mem_append_left _ hx)) (prime_ne hpp hq fun z => hne q (List.mem_append_right _ List.mem_cons_self) z.symm)
theorem prodP_small {l : List (Int × Int)} (hl : l.length ≤ 10) (hp : ∀ q ∈ l, primeB q.1 = true) : 0 < prodP l ∧ prodP l ≤ 1000000000000000000000000000000 := by
  obtain ⟨h1, h2, _⟩ := prodP_facts l.length l rfl hp
  refine ⟨h1, Int.le_trans h2 ?_⟩
  have : (1000 : Int) ^ l.length ≤ 1000 ^ 10 := by
    exact_mod_cast Nat.pow_le_pow_right (by decide : 0 < 1000) hl
  exact Int.le_trans this (by decide)
theorem crt_step {m w p r i : Int} (hm : 0 < m) (w0 : 0 ≤ w) (w1 : w < m) (hp : 1 < p) (hi : i * m % p = 1) (r0 : 0 ≤ r) (r1 : r < p) :
    0 ≤ (r - w) * i % p ∧ (r - w) * i % p < p ∧ 0 ≤ w + m * ((r - w) * i % p) ∧ w + m * ((r - w) * i % p) < m * p ∧ (w + m * ((r - w) * i % p)) % p = r := by
  have s0 := Int.emod_nonneg ((r - w) * i) (show p ≠ 0 by omega)
  have s1 := Int.emod_lt_of_pos ((r - w) * i) (show 0 < p by omega)
  have e1 := Int.emod_add_mul_ediv ((r - w) * i) p
  have e2 := Int.emod_add_mul_ediv (i * m) p
  rw [hi] at e2
  generalize (r - w) * i / p = x at e1
  generalize i * m / p = y at e2
  generalize (r - w) * i % p = s at *
  have a1 : 0 ≤ m * s := Int.mul_nonneg (by omega) s0
  have a2 : m * s ≤ m * (p - 1) := Int.mul_le_mul_of_nonneg_left (by omega) (by omega)
  rw [Int.mul_sub, Int.mul_one] at a2
  refine ⟨s0, s1, by omega, by omega, ?_⟩
  have e3 : w + m * s = r + p * ((r - w) * y - m * x) := by grind
  rw [e3, Int.add_mul_emod_self_left]
  exact Int.emod_eq_of_lt r0 r1
theorem erase_map {α β : Type} (f : α → β) : ∀ (l : List α) (k : Nat), (l.map f).eraseIdx k = (l.eraseIdx k).map f
  | [], _ => rfl
  | _ :: _, 0 => rfl
  | x :: l, k + 1 => by
    show f x :: (l.map f).eraseIdx k = f x :: (l.eraseIdx k).map f
    rw [erase_map f l k]
theorem seqIx {i : Int} {n : Nat} (h0 : 0 ≤ i) (h1 : i < n) : seqIndex? i n = some i.toNat := by
  unfold seqIndex?
  have e : (if i < 0 then i + (n : Int) else i) = i := if_neg (by omega)
  show (if (decide (0 ≤ (if i < 0 then i + (n : Int) else i)) && decide ((if i < 0 then i + (n : Int) else i) < n)) = true then some (if i < 0 then i + (n : Int) else i).toNat else none) = _
  rw [e, decide_eq_true h0, decide_eq_true h1]
  rfl
theorem cut16 : cutV (primesL.map V.int) none (some 16) = (primesL.take 16).map V.int := by decide +kernel
theorem cut152 : cutV (primesL.map V.int) (some 152) none = (primesL.drop 152).map V.int := by decide +kernel
theorem primesL_nd : primesL.Nodup := by decide +kernel
/-- what is left to be drawn from -/
structure LeftOk (qs : List Int) (k : Nat) : Prop where
  nd : qs.Nodup
  pr : ∀ x ∈ qs, x ∈ primesL
  lo : 16 ≤ qs.length + k
  hi : qs.length ≤ 168
theorem left_three : LeftOk (primesL.take 16) 0 ∧ LeftOk primesL 0 ∧ LeftOk (primesL.drop 152) 0 := by
  have l1 : (primesL.take 16).length = 16 := by decide +kernel
  have l2 : (primesL.drop 152).length = 16 := by decide +kernel
  refine ⟨⟨primesL_nd.sublist (List.take_sublist _ _), fun x h => List.mem_of_mem_take h, by omega, by omega⟩, ⟨primesL_nd, fun x h => h, ?_, ?_⟩, ⟨primesL_nd.sublist (List.drop_sublist _ _), fun x h => List.mem_of_mem_drop h, by omega, by omega⟩⟩
  · rw [primesL_len]
    decide
  · rw [primesL_len]
    decide
theorem LeftOk.pop {qs : List Int} {k i : Nat} {p : Int} (h : LeftOk qs k) (hi : qs[i]? = some p) : LeftOk (qs.eraseIdx i) (k + 1) ∧ p ∈ primesL ∧ p ∉ qs.eraseIdx i ∧ ∀ x ∈ qs.eraseIdx i, x ∈ qs := by
  obtain ⟨hl, he⟩ := List.getElem?_eq_some_iff.mp hi
  have len : (qs.eraseIdx i).length + 1 = qs.length := by
    rw [List.length_eraseIdx_of_lt hl]
    omega
  have sub : ∀ x ∈ qs.eraseIdx i, x ∈ qs := fun x hx => List.mem_of_mem_eraseIdx hx
  have h1 := h.lo
  have h2 := h.hi
  refine ⟨⟨h.nd.sublist (List.eraseIdx_sublist _ _), fun x hx => h.pr x (sub x hx), by omega, by omega⟩, h.pr p (List.mem_of_getElem? hi), fun hm => ?_, sub⟩
  obtain ⟨j, hj⟩ := List.getElem?_of_mem hm
  rw [List.getElem?_eraseIdx] at hj
  have key : ∀ {a b : Nat}, a ≠ b → qs[a]? = some p → qs[b]? = some p → False := fun {a b} hab ha hb => by
    obtain ⟨la, ea⟩ := List.getElem?_eq_some_iff.mp ha
    obtain ⟨lb, eb⟩ := List.getElem?_eq_some_iff.mp hb
    have nd := List.pairwise_iff_getElem.mp h.nd
    rcases Nat.lt_or_gt_of_ne hab with z | z
    · exact nd a b la lb z (by rw [ea, eb])
    · exact nd b a lb la z (by rw [ea, eb])
  split at hj
  · exact key (by omega) hj hi
  · exact key (by omega) hj hi
theorem AccL.dr {H H' : Hp} {B D : Addr} {ds : List PyData} (h : AccL H D ds) (hB : IsL H B) (n : D ≠ B) (e : ExB B H H') : AccL H' D ds := by
  obtain ⟨acc, h1, h2, h3⟩ := h
  exact ⟨acc, e _ _ n h1, DtAll.monoB hB e _ _ h3 h2, h3⟩
theorem PoolB.dr2 {H H' : Hp} {B pa : Addr} {n : Nat} (h : PoolB H pa n) (hn : pa ≠ B) (e : ExB B H H') : PoolB H' pa n := by
  obtain ⟨a, b, c, h, h2⟩ := h
  exact ⟨a, b, c, e _ _ hn h, h2⟩
theorem RdOk.snoc {l : List (Int × Int)} {p r : Int} (h : RdOk l) (hl : l.length < 10) (hp : primeB p = true) (r0 : 0 ≤ r) (r1 : r < p) (hn : p ∉ l.map (·.1)) : RdOk (l ++ [(p, r)]) := by
  refine ⟨by rw [List.length_append]; show l.length + 1 ≤ 10; omega, fun q hq => ?_, ?_⟩
  · rcases List.mem_append.mp hq with z | z
    · exact h.ok q z
    · rcases List.mem_cons.mp z with rfl | z
      · exact ⟨hp, r0, r1⟩
      · cases z
  · rw [List.map_append]
    refine List.nodup_append.mpr ⟨h.nd, by simp, fun a ha b hb => ?_⟩
    have hb : b = p := by simpa using hb
    rw [hb]
    exact fun z => hn (z ▸ ha)
/-- what put_together tells of these readings -/
structure Told (l : List (Int × Int)) (w : Int) : Prop where
  lo : 0 ≤ w
  hi : w < prodP l
  each : ∀ q ∈ l, w % q.1 = q.2
theorem rd_get {H : Hp} {xs : List V} {l : List (Int × Int)} (hx : DtAll H xs (rdD l)) {i : Nat} {x : V} (hi : xs[i]? = some x) : ∃ q b, l[i]? = some q ∧ x = .ref b ∧ H b = some (.tup [.int q.1, .int q.2]) := by
  obtain ⟨d, hd, hxd⟩ := hx.get i hi
  unfold rdD at hd
  rw [List.getElem?_map] at hd
  cases hq : l[i]? with
  | none =>
    rw [hq] at hd
    cases hd
  | some q =>
    rw [hq] at hd
    have hd := Option.some.inj hd
    subst hd
    obtain ⟨b, ys, rfl, hb, hys⟩ := hxd.tup_get
    have := DtAll.ints_eq [q.1, q.2] hys
    subst this
    exact ⟨q, b, rfl, rfl, hb⟩
theorem erase_perm {α : Type} : ∀ (l : List α) (k : Nat) (q : α), l[k]? = some q → (q :: l.eraseIdx k).Perm l
  | [], _, _, h => by simp at h
  | x :: l, 0, q, h => by
    have h : x = q := Option.some.inj h
    rw [h]
    exact List.Perm.refl _
  | x :: l, k + 1, q, h => (List.Perm.swap x q (l.eraseIdx k)).trans ((erase_perm l k q h).cons x)
theorem foldl_mul : ∀ (l : List Int) (a : Int), l.foldl (· * ·) a = a * l.foldl (· * ·) 1
  | [], a => (Int.mul_one a).symm
  | x :: l, a => by
    show l.foldl (· * ·) (a * x) = a * l.foldl (· * ·) (1 * x)
    rw [foldl_mul l (a * x), foldl_mul l (1 * x), Int.one_mul, Int.mul_assoc]
theorem prodP_cons {q : Int × Int} {l : List (Int × Int)} : prodP (q :: l) = q.1 * prodP l := by
  show (l.map (·.1)).foldl (· * ·) (1 * q.1) = q.1 * (l.map (·.1)).foldl (· * ·) 1
  rw [foldl_mul, Int.one_mul]
theorem prodP_perm {l l' : List (Int × Int)} (h : l.Perm l') : prodP l = prodP l' := by
  induction h with
  | nil => rfl
  | cons q _ ih => rw [prodP_cons, prodP_cons, ih]
  | swap q r l =>
    rw [prodP_cons, prodP_cons, prodP_cons, prodP_cons, ← Int.mul_assoc, ← Int.mul_assoc, Int.mul_comm r.1 q.1]
  | trans _ _ i1 i2 => rw [i1, i2]
theorem RdOk.perm {l l' : List (Int × Int)} (h : RdOk l) (p : l'.Perm l) : RdOk l' :=
  ⟨by rw [p.length_eq]; exact h.len, fun q hq => h.ok q (p.mem_iff.mp hq), (p.map _).nodup_iff.mpr h.nd⟩
theorem RdOk.sub {l l' : List (Int × Int)} (h : RdOk l) (s : l'.Sublist l) : RdOk l' :=
  ⟨Nat.le_trans s.length_le h.len, fun q hq => h.ok q (s.subset hq), h.nd.sublist (s.map _)⟩
theorem Told.perm {l l' : List (Int × Int)} {w : Int} (h : Told l w) (p : l'.Perm l) : Told l' w := ⟨h.lo, by rw [prodP_perm p]; exact h.hi, fun q hq => h.each q (p.mem_iff.mp hq)⟩
theorem dvd_both {m p d : Int} (h1 : m ∣ d) (h2 : p ∣ d) (h : Int.gcd m p = 1) : m * p ∣ d := by
  rw [← Int.natAbs_dvd_natAbs] at *
  rw [Int.gcd_eq_natAbs_gcd_natAbs] at h
  rw [Int.natAbs_mul]
  exact Nat.Coprime.mul_dvd_of_dvd_of_dvd h h1 h2
theorem prodP_dvd : ∀ (n : Nat) (l : List (Int × Int)) (d : Int), l.length = n → (∀ q ∈ l, primeB q.1 = true) → (l.map (·.1)).Nodup → (∀ q ∈ l, q.1 ∣ d) → prodP l ∣ d
  | 0, l, d, h, _, _, _ => by
    have e : l = [] := List.length_eq_zero_iff.mp h
    subst e
    exact Int.one_dvd d
  | n + 1, l, d, h, hp, nd, hd => by
    match l, h with
    | q :: l, h =>
      have h' : l.length = n := Nat.succ.inj h
      have nd' : q.1 ∉ l.map (·.1) ∧ (l.map (·.1)).Nodup := List.nodup_cons.mp nd
      have hpl : ∀ x ∈ l, primeB x.1 = true := fun x hx => hp x (List.mem_cons_of_mem _ hx)
      have i := prodP_dvd n l d h' hpl nd'.2 fun x hx => hd x (List.mem_cons_of_mem _ hx)
      obtain ⟨_, _, _, co⟩ := prodP_facts _ l rfl hpl
      have g := co q.1 (hp q List.mem_cons_self) fun x hx z => nd'.1 (List.mem_map.mpr ⟨x, hx, z⟩)
      rw [prodP_cons, Int.mul_comm]
      exact dvd_both i (hd q List.mem_cons_self) g
theorem Told.uniq {l : List (Int × Int)} {w w' : Int} (hR : RdOk l) (h : Told l w) (h' : Told l w') : w = w' := by
  have d : prodP l ∣ w - w' := prodP_dvd _ l _ rfl (fun q hq => (hR.ok q hq).1) hR.nd fun q hq => by
    have := h.each q hq
    rw [← h'.each q hq] at this
    exact Int.dvd_of_emod_eq_zero (Int.emod_eq_emod_iff_emod_sub_eq_zero.mp this)
  obtain ⟨c, hc⟩ := d
  have := h.lo
  have := h.hi
  have := h'.lo
  have := h'.hi
  have hpos : 0 < prodP l := by omega
  rcases Int.lt_trichotomy c 0 with z | z | z
  · have : prodP l * c ≤ prodP l * (-1) := Int.mul_le_mul_of_nonneg_left (by omega) (by omega)
    omega
  · rw [z] at hc
    omega
  · have : prodP l * 1 ≤ prodP l * c := Int.mul_le_mul_of_nonneg_left (by omega) (by omega)
    omega
theorem rd_lay (l : List (Int × Int)) : (PyData.list (rdD l)).canLay0 = true ∧ (PyData.list (rdD l)).depth ≤ 2 := lay_list (k := 1) fun d hd => by
  obtain ⟨q, _, rfl⟩ := List.mem_map.mp hd
  exact lay_pair q.1 q.2
theorem rd_app (l l' : List (Int × Int)) : rdD (l ++ l') = rdD l ++ rdD l' := List.map_append ..
theorem DtAll.cut {H : Hp} : ∀ {vs : List V} {ds : List PyData} (k : Nat), DtAll H vs ds → DtAll H (vs.eraseIdx k) (ds.eraseIdx k)
  | _, _, _, .nil => .nil
  | _, _, 0, .cons _ b => b
  | _, _, k + 1, .cons a b => .cons a (b.cut k)
theorem DtAll.rev {H : Hp} : ∀ {vs : List V} {ds : List PyData}, DtAll H vs ds → DtAll H vs.reverse ds.reverse
  | _, _, .nil => .nil
  | _, _, .cons a b => by
    rw [List.reverse_cons, List.reverse_cons]
    exact b.rev.app (.cons a .nil)
theorem DtAll.tk {H : Hp} : ∀ {vs : List V} {ds : List PyData} (k : Nat), DtAll H vs ds → DtAll H (vs.take k) (ds.take k)
  | _, _, 0, _ => by
    rw [List.take_zero, List.take_zero]
    exact .nil
  | _, _, k + 1, .nil => .nil
  | _, _, k + 1, .cons a b => .cons a (b.tk k)
theorem cut1 (xs : List V) : cutV xs none (some 1) = xs.take 1 := by
  match xs with
  | [] => rfl
  | [x] => rfl
  | x :: y :: r =>
    unfold cutV
    rfl
/-! readings, also with None -/
def rdN (l : List (Int × Option Int)) : List PyData := l.map fun q => .tuple [.int q.1, oD q.2]
structure RdN (l : List (Int × Option Int)) : Prop where
  len : l.length ≤ 10
  ok : ∀ q ∈ l, primeB q.1 = true ∧ ∀ r, q.2 = some r → 0 ≤ r ∧ r < q.1
  nd : (l.map (·.1)).Nodup
theorem Dt.o_get {H : Hp} {v : V} {e : Option Int} (h : Dt H v (oD e)) : v = oV e := by
  cases e <;> cases h <;> rfl
theorem Dt.o {H : Hp} (e : Option Int) : Dt H (oV e) (oD e) := by
  cases e
  · exact .non
  · exact .int _
def keepsB (t b p : Int) : Option Int → Bool
  | none => decide (b % p = 0)
  | some r => decide ((r * b - t) % p = 0)
def atN (l : List (Int × Option Int)) (x : Int) : Int × Option Int := l.getD x.toNat (0, none)
def nkD (t b : Int) (l : List (Int × Option Int)) : List PyData := ((irng 0 l.length).filter fun x => !keepsB t b (atN l x).1 (atN l x).2).map PyData.int
theorem atN_get {l : List (Int × Option Int)} {i : Nat} {q : Int × Option Int} (h : l[i]? = some q) : atN l (0 + (i : Int)) = q := by
  unfold atN
  rw [show (0 + (i : Int)).toNat = i by omega, List.getD_eq_getElem?_getD, h]
  rfl
theorem rdN_get {H : Hp} {xs : List V} {l : List (Int × Option Int)} (hx : DtAll H xs (rdN l)) {i : Nat} {x : V} (hi : xs[i]? = some x) : ∃ q b, l[i]? = some q ∧ x = .ref b ∧ H b = some (.tup [.int q.1, oV q.2]) := by
  obtain ⟨d, hd, hxd⟩ := hx.get i hi
  unfold rdN at hd
  rw [List.getElem?_map] at hd
  cases hq : l[i]? with
  | none =>
    rw [hq] at hd
    cases hd
  | some q =>
    rw [hq] at hd
    have e : PyData.tuple [.int q.1, oD q.2] = d := Option.some.inj hd
    subst e
    obtain ⟨b, ys, rfl, hb, hys⟩ := hxd.tup_get
    cases hys with
    | cons h1 hys => cases hys with
      | cons h2 hys =>
        cases hys
        cases h1
        rw [h2.o_get] at hb
        exact ⟨q, b, rfl, rfl, hb⟩
theorem rdN_snoc {l : List (Int × Option Int)} {q : Int × Option Int} : rdN (l ++ [q]) = rdN l ++ [.tuple [.int q.1, oD q.2]] := List.map_append ..
theorem RdN.snoc {l : List (Int × Option Int)} {p : Int} {e : Option Int} (h : RdN l) (hl : l.length < 10) (hp : primeB p = true) (he : ∀ r, e = some r → 0 ≤ r ∧ r < p) (hn : p ∉ l.map (·.1)) : RdN (l ++ [(p, e)]) := by
  refine ⟨by rw [List.length_append]; show l.length + 1 ≤ 10; omega, fun q hq => ?_, ?_⟩
  · rcases List.mem_append.mp hq with z | z
    · exact h.ok q z
    · rcases List.mem_cons.mp z with rfl | z
      · exact ⟨hp, he⟩
      · cases z
  · rw [List.map_append]
    refine List.nodup_append.mpr ⟨h.nd, by simp, fun a ha b hb => ?_⟩
    have hb : b = p := by simpa using hb
    rw [hb]
    exact fun z => hn (z ▸ ha)
/-- what is kept is its own rest -/
theorem keeps_rest {t b p : Int} {e : Option Int} (hg : Int.gcd t b = 1) (hp : primeB p = true) (he : ∀ r, e = some r → 0 ≤ r ∧ r < p) : keepsB t b p e = true ↔ restD t b p = oD e := by
  have lo := primeB_lo hp
  by_cases z : b % p = 0
  · rw [restD_none z]
    cases e with
    | none => exact ⟨fun _ => rfl, fun _ => decide_eq_true z⟩
    | some r =>
      refine ⟨fun h => ?_, fun h => nomatch h⟩
      have h : (r * b - t) % p = 0 := of_decide_eq_true h
      have d1 := Int.dvd_of_emod_eq_zero z
      have d2 : p ∣ t := by
        have := Int.dvd_sub (Int.dvd_mul_of_dvd_right (b := r) d1) (Int.dvd_of_emod_eq_zero h)
        rwa [show r * b - (r * b - t) = t by omega] at this
      have d3 := Int.dvd_coe_gcd d2 d1
      rw [hg] at d3
      have := Int.le_of_dvd (by decide) d3
      omega
  · obtain ⟨r', e1, r0, r1, hr⟩ := restD_ok (t := t) hp z
    rw [e1]
    cases e with
    | none =>
      refine ⟨fun h => ?_, fun h => nomatch h⟩
      exact absurd (of_decide_eq_true h) z
    | some r =>
      obtain ⟨s0, s1⟩ := he r rfl
      constructor
      · intro h
        have h : (r * b - t) % p = 0 := of_decide_eq_true h
        have := restI_eq (primeB_gcd hp z) s0 s1 h
        unfold restD at e1
        rw [if_neg z] at e1
        rw [← e1, this]
        rfl
      · intro h
        have h : PyData.int r' = .int r := h
        cases h
        exact decide_eq_true hr
/-- .. over enumerate(..) of a list -/
theorem lc_enum {K : PySem.W.Frag} {a : Addr} {xs : List V} {g : TG} {tt : TT} {te : TE} {vs : List Nat} {σ : L2.St} {H1 : Hp} {D : Addr} {Qd : Hp → Prop} (Pv : Nat → Hp → Prop) (h0 : Pv 0 (upd H1 D (.lst []))) (hl : ∀ i H, i ≤ xs.length → Pv i H → SqL K H a xs)
    (hs : ∀ i x T H, xs[i]? = some x → Pv i H → H T = none → g (.ref T) (wipe σ vs) (upd H T (.tup [.int (i : Nat), x])) fun σ2 H2 => wipe σ2 vs = wipe σ vs ∧ tt σ2 H2 fun b H3 =>
      if b = true then te σ2 H3 fun y H4 => ∃ acc, H4 D = some (.lst acc) ∧ acc.length < sizeLine ∧ Pv (i + 1) (upd H4 D (.lst (acc ++ [y]))) else Pv (i + 1) H3) (hd : ∀ H, Pv xs.length H → Qd H) :
    ∃ W : Nat → Nat → Hp → Prop, (∃ m, W 0 m (upd H1 D (.lst []))) ∧ ∀ i m H, W i m H →
      ((Ite K a).stop i H ∧ Qd H) ∨ ((Ite K a).go i H ∧ ∃ Nx : Hp → Prop, (∀ H', Nx H' → ∃ m', m' < m ∧ W (i + 1) m' H') ∧ ∀ x H', (Ite K a).yld i H x H' → g x (wipe σ vs) H' fun σ2 H2 => wipe σ2 vs = wipe σ vs ∧ tt σ2 H2 fun b H3 =>
        if b = true then te σ2 H3 fun y H4 => ∃ acc, H4 D = some (.lst acc) ∧ acc.length < sizeLine ∧ Nx (upd H4 D (.lst (acc ++ [y]))) else Nx H3) := by
  refine ⟨fun i m H => m = xs.length - i ∧ i ≤ xs.length ∧ Pv i H, ⟨xs.length, by simp, Nat.zero_le _, h0⟩, fun i m H hW => ?_⟩
  obtain ⟨hm, hi, hp⟩ := hW
  have hq := hl i H hi hp
  by_cases z : i < xs.length
  · refine .inr ⟨⟨xs, xs[i], hq, List.getElem?_eq_getElem z⟩, fun H' => Pv (i + 1) H', fun H' h => ⟨xs.length - (i + 1), by omega, rfl, by omega, h⟩, fun x H' hy => ?_⟩
    obtain ⟨T, x, rfl, hT, rfl, hx⟩ := hy
    exact hs i x T H (hx xs hq) hp hT
  · have e : i = xs.length := by omega
    exact .inl ⟨⟨xs, hq, by omega⟩, hd H (e ▸ hp)⟩
theorem en_lcE {K : PySem.W.Frag} {σ : L2.St} {H : Hp} {ta : TA} {t : TT} {te : TE} {ds : List PyData} {g0 : TG} {vs : List Nat} (st : Int → V → L2.St) (f : Int → Bool) (g : Int → PyData) (h : EvDA ta σ H [.list ds]) (hz : ds.length ≤ 40000)
    (hw : ∀ (i : Nat) x T H1 Q, H1 T = some (.tup [.int i, x]) → (wipe (st (0 + (i : Int)) x) vs = wipe σ vs → Q (st (0 + (i : Int)) x) H1) → g0 (.ref T) (wipe σ vs) H1 Q) (hst : ∀ i x, wipe (st i x) vs = wipe σ vs)
    (ht : ∀ H1 (i : Nat) v d, Ex H H1 → ds[i]? = some d → Dt H1 v d → EvT t (st (0 + (i : Int)) v) H1 (f (0 + (i : Int)))) (he : ∀ H1 (i : Nat) v d, Ex H H1 → ds[i]? = some d → Dt H1 v d → f (0 + (i : Int)) = true → EvD te (st (0 + (i : Int)) v) H1 (g (0 + (i : Int)))) (hn : ∀ i, noL (g i) = true) :
    EvN (tLc (iEnum K ta) g0 t te vs) σ H (((irng 0 ds.length).filter f).map g) := fun H0 e Q q => h H0 e _ fun ws H1 e1 hv => by
  obtain ⟨v, rfl, hv'⟩ : ∃ v, ws = [v] ∧ Dt H1 v (.list ds) := by
    cases hv with
    | cons h1 h2 =>
      cases h2
      exact ⟨_, rfl, h1⟩
  obtain ⟨a, xs, rfl, ha, hx⟩ := hv'.lst_get
  refine ⟨a, xs, rfl, sq_of ha, fun D hD => lc_enum (xs := xs) (fun i H' => Ex H1 H' ∧ AccL H' D ((((irng 0 ds.length).take i).filter f).map g)) ⟨Ex.new hD, AccL.new⟩ (fun i H' _ p => sq_of (p.1 a _ ha)) (fun i x T H' hi p hT => ?_) (fun H' p => ?_)⟩
  · obtain ⟨d, hd, hxd⟩ := hx.get i hi
    have eT : Ex H' (upd H' T (.tup [.int (i : Nat), x])) := Ex.new hT
    obtain ⟨hil, _⟩ := List.getElem?_eq_some_iff.mp hd
    refine hw i x T _ _ upd_same fun _ => ⟨hst _ _, ?_⟩
    rw [take_flt f g (irng_get (show i < (((ds.length : Nat) : Int) - 0).toNat by omega))]
    have pT : Ex H1 (upd H' T (.tup [.int (i : Nat), x])) ∧ AccL (upd H' T (.tup [.int (i : Nat), x])) D ((((irng 0 ds.length).take i).filter f).map g) := ⟨p.1.trans eT, p.2.up eT⟩
    refine lc_turn pT hD ?_ (ht H1 i x d (e.trans e1) hd hxd) (fun hf => he H1 i x d (e.trans e1) hd hxd hf) (fun _ => hn _)
    have := flt_len f g (irng 0 ds.length) i
    rw [irng_len] at this
    omega
  · rw [hx.len, List.take_of_length_le (by rw [irng_len]; omega)] at p
    exact q D H' (fresh_back e1 hD) (e1.trans p.1) p.2
theorem go_retop {r : R2} {ta tb : TE} {D : Ends} {σ : L2.St} {H : Hp} (h : ta σ H fun x H1 => tb σ H1 fun y H2 => r x y H2 D.rt) : tRet (tOp r ta tb) D σ H := h
theorem go_next {D : Ends} {σ : L2.St} {H : Hp} (h : D.nx σ H) : tNext D σ H := h
theorem inV_ints {x : Int} {ps : List Int} : inV (.int x) (ps.map V.int) = true ↔ x ∈ ps := by
  unfold inV
  rw [List.any_eq_true]
  constructor
  · intro h
    obtain ⟨y, hy, e⟩ := h
    obtain ⟨p, hp, rfl⟩ := List.mem_map.mp hy
    have e : (p == x) = true := e
    rw [← eq_of_beq e]
    exact hp
  · intro h
    exact ⟨.int x, List.mem_map.mpr ⟨x, h, rfl⟩, beq_self_eq_true x⟩
theorem flat_ints (ps : List Int) : (ps.map V.int).all flatV = true := List.all_eq_true.mpr fun y hy => by
  obtain ⟨p, _, rfl⟩ := List.mem_map.mp hy
  rfl
theorem go_op {r : R2} {ta tb : TE} {σ : L2.St} {H : Hp} {Q : VK} (h : ta σ H fun x H1 => tb σ H1 fun y H2 => r x y H2 Q) : tOp r ta tb σ H Q := h
theorem go_sl {r : V → Option Int → Option Int → Hp → VK → Prop} {te : TE} {tl th : TO} {σ : L2.St} {H : Hp} {Q : VK} (h : te σ H fun x H1 => tl σ H1 fun l H2 => th σ H2 fun u H3 => r x l u H3 Q) : tSl r te tl th σ H Q := h
theorem cutTo (xs : List V) (k : Nat) : cutV xs none (some (k : Int)) = xs.take k := by
  unfold cutV
  rw [HT.sIx_none, HT.sIx_nat, List.drop_zero, Nat.sub_zero]
  by_cases h : k ≤ xs.length
  · rw [Nat.min_eq_left h]
  · rw [Nat.min_eq_right (by omega), List.take_of_length_le (Nat.le_refl _), List.take_of_length_le (by omega)]
/-- each but where it stood ahead -/
def iAt (L : List Int) (x : Int) : Int := L.getD x.toNat 0
def ddF (L : List Int) (x : Int) : Bool := !inV (.int (iAt L x)) ((L.take x.toNat).map V.int)
def ddL (L : List Int) : List Int := ((irng 0 L.length).filter (ddF L)).map (iAt L)
theorem iAt_get {L : List Int} {x : Int} (h0 : 0 ≤ x) (h1 : x < L.length) : L[x.toNat]? = some (iAt L x) := by
  have h : x.toNat < L.length := by omega
  unfold iAt
  rw [List.getD_eq_getElem?_getD, List.getElem?_eq_getElem h]
  rfl
theorem ddL_ok (L : List Int) : (ddL L).Nodup ∧ (∀ x ∈ ddL L, x ∈ L) ∧ (ddL L).length ≤ L.length := by
  have up : List.Pairwise (fun a b : Int => a < b) (irng 0 L.length) := by
    unfold irng
    exact List.pairwise_map.mpr (List.pairwise_lt_range.imp fun h => by omega)
  refine ⟨List.pairwise_map.mpr ((up.sublist List.filter_sublist).imp_of_mem fun {a b} ha hb hab => fun e => ?_), fun x hx => ?_, ?_⟩
  · obtain ⟨a1, a2⟩ := irng_mem.mp (List.mem_filter.mp ha).1
    obtain ⟨hb1, hb2⟩ := List.mem_filter.mp hb
    obtain ⟨b1, b2⟩ := irng_mem.mp hb1
    have hm : iAt L b ∈ L.take b.toNat := by
      rw [← e]
      refine List.mem_of_getElem? (i := a.toNat) ?_
      rw [List.getElem?_take_of_lt (by omega)]
      exact iAt_get a1 (by omega)
    unfold ddF at hb2
    rw [inV_ints.mpr hm] at hb2
    cases hb2
  · obtain ⟨i, hi, rfl⟩ := List.mem_map.mp hx
    obtain ⟨a1, a2⟩ := irng_mem.mp (List.mem_filter.mp hi).1
    exact List.mem_of_getElem? (iAt_get a1 a2)
  · unfold ddL
    rw [List.length_map]
    refine Nat.le_trans (List.length_filter_le _ _) ?_
    rw [irng_len]
    omega
/-! ### a generator expression that captures names of its def -/
theorem genZ_cap {qual : Str} {sc scope : Scope} {L f : Addr} {cd : Value} (h : (decide (scope.kind = .function) && (!scope.isCoroutine) && (scope.names.all fun y => decide (y.2 ≠ .cell) && (decide (y.2 ≠ .free) || decide (sc.names.lookup y.1 = some .cell))) && decide (scope.names.lookup (".0" : Str) = some NameKind.local)) = true) : GenZ (envOfC qual sc L f cd) scope := by
  obtain ⟨h, h4⟩ := Bool.and_eq_true_iff.mp h
  obtain ⟨h, h3⟩ := Bool.and_eq_true_iff.mp h
  obtain ⟨h1, h2⟩ := Bool.and_eq_true_iff.mp h
  have h3 := List.all_eq_true.mp h3
  refine ⟨of_decide_eq_true h1, by simpa using h2, fun y hy => ?_, of_decide_eq_true h4, fun y hy e => ?_⟩
  · exact of_decide_eq_true (Bool.and_eq_true_iff.mp (h3 y hy)).1
  · rcases Bool.or_eq_true_iff.mp (Bool.and_eq_true_iff.mp (h3 y hy)).2 with z | z
    · exact absurd e (of_decide_eq_true z)
    · exact cell_has (of_decide_eq_true z)
theorem capsOf {N XN : List Str} {no : Nat} {cap : List Nat} {qual : Str} {sc scope : Scope} {L f : Addr} {cd : Value}
    (h : ((List.range cap.length).all fun j => match cap[j]?, N[no + j]? with | some ci, some y => decide (XN[ci]? = some y) && (decide (scope.names.lookup y = some .free) && decide (sc.names.lookup y = some .cell)) | _, _ => false) = true) :
    ∀ j ci, cap[j]? = some ci → ∃ y, N[no + j]? = some y ∧ XN[ci]? = some y ∧ scope.names.lookup y = some .free ∧ ((envOfC qual sc L f cd).kindOf y = some .cell ∨ (envOfC qual sc L f cd).kindOf y = some .free) := fun j ci hc => by
  obtain ⟨hl, _⟩ := List.getElem?_eq_some_iff.mp hc
  have := List.all_eq_true.mp h j (List.mem_range.mpr hl)
  rw [hc] at this
  cases hy : N[no + j]? with
  | none =>
    rw [hy] at this
    cases this
  | some y =>
    rw [hy] at this
    obtain ⟨a1, a2⟩ := Bool.and_eq_true_iff.mp this
    obtain ⟨a2, a3⟩ := Bool.and_eq_true_iff.mp a2
    exact ⟨y, rfl, of_decide_eq_true a1, of_decide_eq_true a2, .inl (of_decide_eq_true a3)⟩
/-! ### the rows of fractions -/
theorem sel_mem {f : Nat → Bool} {g : Nat → PyData} {x : PyData} : ∀ {j : Nat}, x ∈ sel f g j → ∃ t, t < j ∧ f t = true ∧ x = g t
  | 0, h => nomatch h
  | j + 1, h => by
    have h : x ∈ sel f g j ++ (if f j = true then [g j] else []) := h
    rcases List.mem_append.mp h with z | z
    · obtain ⟨t, h1, h2, h3⟩ := sel_mem z
      exact ⟨t, by omega, h2, h3⟩
    · by_cases hf : f j = true
      · rw [if_pos hf] at z
        rcases List.mem_cons.mp z with rfl | z
        · exact ⟨j, by omega, hf, rfl⟩
        · cases z
      · rw [if_neg hf] at z
        cases z
theorem frows_mem {n : Int} {x : PyData} (n0 : 0 ≤ n) : ∀ {i : Nat}, x ∈ frows n i → ∃ t b, x = .tuple [.int t, .int b] ∧ -n ≤ t ∧ t ≤ n ∧ 1 ≤ b ∧ b ≤ (i : Int) ∧ Int.gcd t b = 1
  | 0, h => nomatch h
  | i + 1, h => by
    have h : x ∈ frows n i ++ frow n (1 + (i : Int)) (2 * n + 1).toNat := h
    rcases List.mem_append.mp h with z | z
    · obtain ⟨t, b, h1, h2, h3, h4, h5, h6⟩ := frows_mem n0 z
      exact ⟨t, b, h1, h2, h3, h4, by omega, h6⟩
    · obtain ⟨t, h1, h2, h3⟩ := sel_mem z
      exact ⟨-n + (t : Int), 1 + (i : Int), h3, by omega, by omega, by omega, by omega, of_decide_eq_true h2⟩
/-! ### what is a rest, a reading, readings: of all data -/
def dRest (p : Int) : PyData → Bool
  | .none => true
  | .int r => decide (0 ≤ r) && decide (r < p)
  | _ => false
theorem Dt.non_iff {H : Hp} {v : V} {d : PyData} (h : Dt H v d) : decide (v = .non) = (match d with | .none => true | _ => false) := by
  cases h <;> first | rfl | exact decide_eq_false (fun z => nomatch z) | exact decide_eq_true rfl
def dReading : PyData → Bool
  | .tuple [d, e] => dPrime d && (match d with | .int p => dRest p e | _ => false)
  | _ => false
theorem dReading_pair {d : PyData} (h : dPair d = false) : dReading d = false := by
  match d, h with
  | .tuple [], _ => simp [dReading]
  | .tuple [_], _ => simp [dReading]
  | .tuple [_, _], h => exact nomatch h
  | .tuple (_ :: _ :: _ :: _), _ => simp [dReading]
  | .none, _ => rfl
  | .bool _, _ => rfl
  | .int _, _ => rfl
  | .str _, _ => rfl
  | .list _, _ => rfl
  | .dict _, _ => rfl
def dFst : PyData → Int
  | .tuple (.int p :: _) => p
  | _ => 0
def fstAt (ds : List PyData) (i : Nat) : Int := dFst (ds.getD i .none)
def dReadings : PyData → Bool
  | .list ds => decide (ds.length ≤ 10) && (ds.all dReading && decide (cntD (fstAt ds) ds.length = ds.length))
  | _ => false
theorem dReading_get {d : PyData} (h : dReading d = true) : ∃ p e, d = .tuple [.int p, e] ∧ primeB p = true ∧ dRest p e = true := by
  cases z : dPair d with
  | false =>
    rw [dReading_pair z] at h
    cases h
  | true =>
    obtain ⟨d1, d2, rfl⟩ := dPair_get z
    have h : (dPrime d1 && _) = true := h
    obtain ⟨h1, h2⟩ := Bool.and_eq_true_iff.mp h
    obtain ⟨p, rfl⟩ : ∃ p, d1 = .int p := by
      cases d1 <;> first | exact ⟨_, rfl⟩ | exact nomatch h1
    exact ⟨p, d2, rfl, h1, h2⟩
theorem range_all {ds : List PyData} (f : PyData → Bool) : opAll (fun i => f (ds.getD i .none)) ds.length = ds.all f := by
  unfold opAll
  rw [Bool.eq_iff_iff, List.all_eq_true, List.all_eq_true]
  constructor
  · intro h d hd
    obtain ⟨i, hi, e⟩ := List.getElem_of_mem hd
    have := h i (List.mem_range.mpr hi)
    rw [List.getD_eq_getElem?_getD, List.getElem?_eq_getElem hi] at this
    rw [← e]
    exact this
  · intro h i hi
    have hi := List.mem_range.mp hi
    rw [List.getD_eq_getElem?_getD, List.getElem?_eq_getElem hi]
    exact h _ (List.getElem_mem hi)
theorem rdN_getD {l : List (Int × Option Int)} {i : Nat} {q : Int × Option Int} (h : l[i]? = some q) : (rdN l).getD i .none = .tuple [.int q.1, oD q.2] := by
  unfold rdN
  rw [List.getD_eq_getElem?_getD, List.getElem?_map, h]
  rfl
theorem RdN.isR {l : List (Int × Option Int)} (h : RdN l) : dReadings (.list (rdN l)) = true := by
  have hlen : (rdN l).length = l.length := List.length_map ..
  show (decide ((rdN l).length ≤ 10) && ((rdN l).all dReading && decide (cntD (fstAt (rdN l)) (rdN l).length = (rdN l).length))) = true
  rw [hlen, decide_eq_true h.len, Bool.true_and, Bool.and_eq_true]
  refine ⟨List.all_eq_true.mpr fun d hd => ?_, decide_eq_true ((cntD_all _ _).mpr fun i j hij hj => ?_)⟩
  · obtain ⟨q, hq, rfl⟩ := List.mem_map.mp hd
    obtain ⟨h1, h2⟩ := h.ok q hq
    show (primeB q.1 && dRest q.1 (oD q.2)) = true
    rw [h1]
    match q.2, h2 with
    | none, _ => rfl
    | some r, h2 =>
      obtain ⟨h2, h3⟩ := h2 r rfl
      show (true && (decide (0 ≤ r) && decide (r < q.1))) = true
      rw [decide_eq_true h2, decide_eq_true h3]
      rfl
  · have hi : i < l.length := by omega
    unfold fstAt
    rw [rdN_getD (List.getElem?_eq_getElem hi), rdN_getD (List.getElem?_eq_getElem hj)]
    have := List.pairwise_iff_getElem.mp h.nd i j (by rw [List.length_map]; exact hi) (by rw [List.length_map]; exact hj) hij
    rw [List.getElem_map, List.getElem_map] at this
    exact this
theorem prime_sieve : ∀ p ∈ irng 2 1000, ((irng 2 32).filter fun d => decide (p % d = 0) && decide (d < p)).isEmpty = primeB p := by decide +kernel
theorem go_tst {te : TE} {σ : L2.St} {H : Hp} {Q : Bool → Hp → Prop} (h : te σ H fun v H1 => ∃ b, v = .bl b ∧ Q b H1) : tTest te σ H Q := h
section
variable {K : PySem.W.Frag} {σ : L2.St} {H : Hp} {ds : List PyData}
/-- a comprehension over a list of whatever data: whether it gives any -/
theorem lcL_any {a : Addr} {xs : List V} {tl : TE} {t : TT} {j : Nat} {vs : List Nat} {Q : VK} (f : PyData → Bool) (h : Ev tl σ H (.ref a)) (ha : H a = some (.lst xs)) (hx : DtAll H xs ds) (hz : ds.length ≤ 40000) (hw : ∀ x, wipe ((wipe σ vs).set j (some x)) vs = wipe σ vs) (hj : ∀ x, ((wipe σ vs).set j (some x))[j]? = some (some x))
    (ht : ∀ H1 v d, Ex H H1 → d ∈ ds → Dt H1 v d → EvT t ((wipe σ vs).set j (some v)) H1 (f d)) (q : ∀ p H2 acc, H p = none → Ex H H2 → H2 p = some (.lst acc) → acc.length = (ds.filter f).length → Q (.ref p) H2) : tLc (iList K tl) (gName j) t (tVar j) vs σ H Q :=
  h H (Ex.refl H) _ fun H1 e1 => ⟨a, rfl, ⟨xs, sq_of (e1 _ _ ha)⟩, fun Dl hD => lc_list (xs := xs) (fun i H' => Ex H1 H' ∧ ∃ acc, H' Dl = some (.lst acc) ∧ acc.length = ((ds.take i).filter f).length) ⟨Ex.new hD, [], upd_same, rfl⟩ (fun i H' _ p => sq_of (p.1 _ _ (e1 _ _ ha))) (fun i x H' hi p => ⟨hw x, by
      obtain ⟨p1, acc, p2, p3⟩ := p
      obtain ⟨d, hd, hxd⟩ := hx.get i hi
      have hm := List.mem_of_getElem? hd
      have hlen : ((ds.take i).filter f).length ≤ ds.length := by
        have h1 := List.length_filter_le f (ds.take i)
        rw [List.length_take] at h1
        omega
      have hstep : ((ds.take (i + 1)).filter f).length = ((ds.take i).filter f).length + (if f d = true then 1 else 0) := by
        rw [List.take_add_one, hd, List.filter_append, List.length_append]
        congr 1
        cases z : f d with
        | true => simp [z]
        | false => simp [z]
      refine ht H1 x d e1 hm (hxd.up e1) H' p1 _ fun H3 e3 => ?_
      cases z : f d with
      | true =>
        refine itT rfl ⟨x, hj x, acc, e3 _ _ p2, sz_lt (by omega), Ex.mut (p1.trans e3) hD, acc ++ [x], upd_same, ?_⟩
        rw [hstep, z, List.length_append, p3]
        rfl
      | false =>
        refine itF rfl ⟨p1.trans e3, acc, e3 _ _ p2, ?_⟩
        rw [hstep, z, p3]
        rfl⟩) (fun H' p => by
      obtain ⟨p1, acc, p2, p3⟩ := p
      rw [hx.len, List.take_length] at p3
      exact q Dl H' acc (fresh_back e1 hD) (e1.trans p1) p2 p3)⟩
end
/-- a comprehension over a list of data, any target -/
theorem en_lcG {K : PySem.W.Frag} {σ : L2.St} {H : Hp} {tl te : TE} {t : TT} {ds : List PyData} {g0 : TG} {vs : List Nat} (S : PyData → L2.St → Prop) (f : PyData → Bool) (g : PyData → PyData) (h : EvD tl σ H (.list ds)) (hz : ds.length ≤ 40000)
    (hw : ∀ x d H1 (Q : L2.St → Hp → Prop), d ∈ ds → Dt H1 x d → (∀ σ2, S d σ2 → Q σ2 H1) → g0 x (wipe σ vs) H1 Q) (hst : ∀ d σ2, d ∈ ds → S d σ2 → wipe σ2 vs = wipe σ vs)
    (ht : ∀ H1 d σ2, Ex H H1 → d ∈ ds → S d σ2 → EvT t σ2 H1 (f d)) (he : ∀ H1 d σ2, Ex H H1 → d ∈ ds → S d σ2 → f d = true → EvD te σ2 H1 (g d)) (hn : ∀ d, d ∈ ds → f d = true → noL (g d) = true) :
    EvN (tLc (iList K tl) g0 t te vs) σ H ((ds.filter f).map g) := fun H0 e Q q => h H0 e _ fun v H1 e1 hv => by
  obtain ⟨a, xs, rfl, ha, hx⟩ := hv.lst_get
  refine ⟨a, rfl, ⟨xs, sq_of ha⟩, fun D hD => lc_list (xs := xs) (fun i H' => Ex H1 H' ∧ AccL H' D (((ds.take i).filter f).map g)) ⟨Ex.new hD, AccL.new⟩ (fun i H' _ p => sq_of (p.1 a _ ha)) (fun i x H' hi p => ?_) (fun H' p => ?_)⟩
  · obtain ⟨d, hd, hxd⟩ := hx.get i hi
    have hm := List.mem_of_getElem? hd
    refine hw x d H' _ hm (hxd.up p.1) fun σ2 hS => ⟨hst d σ2 hm hS, ?_⟩
    rw [take_flt f g hd]
    exact lc_turn p hD (by have := flt_len f g ds i; omega) (ht H1 d σ2 (e.trans e1) hm hS) (fun hf => he H1 d σ2 (e.trans e1) hm hS hf) (hn d hm)
  · rw [hx.len, List.take_length] at p
    exact q D H' (fresh_back e1 hD) (e1.trans p.1) p.2
/-! ### decks of drawn numbers: never empty, each number small -/
def DeckB (H : Hp) (da : Addr) : Prop := ∃ xs : List Int, H da = some (.lst (xs.map V.int)) ∧ 1 ≤ xs.length ∧ xs.length ≤ 1000 ∧ ∀ x ∈ xs, 0 ≤ x ∧ x < 1073741824
theorem DeckB.up {H H' : Hp} {da : Addr} (h : DeckB H da) (e : Ex H H') : DeckB H' da := by
  obtain ⟨xs, h1, h2⟩ := h
  exact ⟨xs, e _ _ h1, h2⟩
theorem DeckB.isL {H : Hp} {da : Addr} (h : DeckB H da) : IsL H da := by
  obtain ⟨xs, h1, _⟩ := h
  exact ⟨_, h1⟩
theorem DeckB.ne {H : Hp} {da p : Addr} (h : DeckB H da) (hp : H p = none) : p ≠ da := fun z => by
  obtain ⟨xs, hx⟩ := h.isL
  rw [z, hx] at hp
  cases hp
theorem DeckB.dr2 {H H' : Hp} {B da : Addr} (h : DeckB H da) (hn : da ≠ B) (e : ExB B H H') : DeckB H' da := by
  obtain ⟨xs, h1, h2⟩ := h
  exact ⟨xs, e _ _ hn h1, h2⟩
theorem go_ret {te : TE} {D : Ends} {σ : L2.St} {H : Hp} (h : te σ H D.rt) : tRet te D σ H := h
theorem AccL.ext {H : Hp} {D D2 : Addr} {ds es : List PyData} (h : AccL H D ds) (h2 : AccL H D2 es) : ∃ a1 a2, H D = some (.lst a1) ∧ H D2 = some (.lst a2) ∧ a1.length = ds.length ∧ a2.length = es.length ∧ AccL (upd H D (.lst (a1 ++ a2))) D (ds ++ es) := by
  obtain ⟨a1, p1, p2, p3⟩ := h
  obtain ⟨a2, q1, q2, q3⟩ := h2
  have hL : IsL H D := ⟨a1, p1⟩
  exact ⟨a1, a2, p1, q1, p2.len, q2.len, a1 ++ a2, upd_same, DtAll.app (DtAll.monoB hL ExB.upd _ _ p3 p2) (DtAll.monoB hL ExB.upd _ _ q3 q2), noLs_app p3 q3⟩
def restO (t b p : Int) : Option Int := if b % p = 0 then none else some (restI t b p)
theorem oD_restO (t b p : Int) : oD (restO t b p) = restD t b p := by
  unfold restO restD
  split <;> rfl
theorem restO_ok {t b p r : Int} (hp : primeB p = true) (h : restO t b p = some r) : 0 ≤ r ∧ r < p := by
  unfold restO at h
  by_cases z : b % p = 0
  · rw [if_pos z] at h
    cases h
  · rw [if_neg z] at h
    obtain ⟨r', e, r0, r1, _⟩ := restD_ok (t := t) hp z
    unfold restD at e
    rw [if_neg z] at e
    cases h
    cases e
    exact ⟨r0, r1⟩
theorem DtAll.set {H : Hp} {v : V} {d : PyData} (h : Dt H v d) : ∀ {vs : List V} {ds : List PyData} (k : Nat), DtAll H vs ds → DtAll H (vs.set k v) (ds.set k d)
  | _, _, _, .nil => .nil
  | _, _, 0, .cons _ b => .cons h b
  | _, _, k + 1, .cons a b => .cons a (DtAll.set h k b)
theorem noLs_set {d : PyData} (h : noL d = true) : ∀ {ds : List PyData} (k : Nat), noLs ds = true → noLs (ds.set k d) = true
  | [], _, _ => rfl
  | x :: ds, 0, hd => by
    have hd : (noL x && noLs ds) = true := hd
    show (noL d && noLs ds) = true
    rw [h, (Bool.and_eq_true_iff.mp hd).2]
    rfl
  | x :: ds, k + 1, hd => by
    have hd : (noL x && noLs ds) = true := hd
    obtain ⟨h1, h2⟩ := Bool.and_eq_true_iff.mp hd
    show (noL x && noLs (ds.set k d)) = true
    rw [h1, noLs_set h k h2]
    rfl
theorem AccL.set {H : Hp} {D : Addr} {ds : List PyData} {acc : List V} {v : V} {d : PyData} {k : Nat} (h : AccL H D ds) (ha : H D = some (.lst acc)) (hv : Dt H v d) (nd : noL d = true) : AccL (upd H D (.lst (acc.set k v))) D (ds.set k d) := by
  obtain ⟨a1, p1, p2, p3⟩ := h
  have e : a1 = acc := by
    rw [p1] at ha
    cases ha
    rfl
  subst e
  have hL : IsL H D := ⟨a1, p1⟩
  have p4 := DtAll.set hv k p2
  have p5 := noLs_set nd k p3
  exact ⟨a1.set k v, upd_same, DtAll.monoB hL ExB.upd _ _ p5 p4, p5⟩
theorem fst_set {l : List (Int × Option Int)} {k : Nat} {p : Int} {e : Option Int} (h : (l.map (·.1))[k]? = some p) : (l.set k (p, e)).map (·.1) = l.map (·.1) := by
  rw [List.map_set]
  obtain ⟨hl, hp⟩ := List.getElem?_eq_some_iff.mp h
  show (l.map (·.1)).set k p = _
  rw [← hp, List.set_getElem_self]
theorem RdN.set {l : List (Int × Option Int)} {k : Nat} {p : Int} {e : Option Int} (h : RdN l) (hk : (l.map (·.1))[k]? = some p) (hp : primeB p = true) (he : ∀ r, e = some r → 0 ≤ r ∧ r < p) : RdN (l.set k (p, e)) := by
  refine ⟨by rw [List.length_set]; exact h.len, fun q hq => ?_, by rw [fst_set hk]; exact h.nd⟩
  rcases List.mem_or_eq_of_mem_set hq with z | rfl
  · exact h.ok q z
  · exact ⟨hp, he⟩
theorem rd_ps {t b : Int} (ps : List Int) : ((ps.map PyData.int).filter fun _ => true).map (fun d => .tuple [d, restD t b (dI0 d)]) = rdN (ps.map fun p => (p, restO t b p)) := by
  rw [List.filter_eq_self.mpr fun _ _ => rfl]
  unfold rdN
  rw [List.map_map, List.map_map]
  refine List.map_congr_left fun p _ => ?_
  show PyData.tuple [.int p, restD t b p] = .tuple [.int p, oD (restO t b p)]
  rw [oD_restO]
theorem fst_ps {t b : Int} (ps : List Int) : (ps.map fun p => (p, restO t b p)).map (·.1) = ps := by
  rw [List.map_map]
  exact List.map_id ps
theorem RdN.ps {t b : Int} {ps : List Int} (h1 : ps.Nodup) (h2 : ∀ x ∈ ps, x ∈ primesL) (h3 : ps.length ≤ 10) : RdN (ps.map fun p => (p, restO t b p)) := by
  refine ⟨by rw [List.length_map]; exact h3, fun q hq => ?_, by rw [fst_ps]; exact h1⟩
  obtain ⟨p, hp, rfl⟩ := List.mem_map.mp hq
  have pP := primesL_prime p (h2 p hp)
  exact ⟨pP, fun r hr => restO_ok pP hr⟩
theorem ip_mulW {X : Cx} : PIp X .Mult (rI CMulW fun i j => .int (i * j)) := opI fun _ _ _ _ _ _ _ hc q => imul_int q hc.ok
theorem cutFrom (xs : List V) (k : Nat) : cutV xs (some (k : Int)) none = xs.drop k := by
  unfold cutV
  rw [HT.sIx_none, HT.sIx_nat]
  by_cases h : k ≤ xs.length
  · rw [Nat.min_eq_left h, List.take_of_length_le (by rw [List.length_drop]; exact Nat.le_refl _)]
  · rw [Nat.min_eq_right (by omega), List.drop_of_length_le (Nat.le_refl _), List.drop_of_length_le (by omega), List.take_nil]
theorem cutFromI (cs : List Int) {k : Int} (h : 0 ≤ k) : cutV (cs.map V.int) (some k) none = (cs.drop k.toNat).map V.int := by
  have := cutFrom (cs.map V.int) k.toNat
  rw [Int.toNat_of_nonneg h, ← List.map_drop] at this
  exact this
theorem go_lst {ta : TA} {σ : L2.St} {H : Hp} {Q : VK} (h : ta σ H fun vs H1 => vs.length ≤ sizeLine ∧ ∀ p, H1 p = none → Q (.ref p) (upd H1 p (.lst vs))) : tLst ta σ H Q := h
theorem go_tup {ta : TA} {σ : L2.St} {H : Hp} {Q : VK} (h : ta σ H fun vs H1 => vs.length ≤ sizeLine ∧ ∀ p, H1 p = none → Q (.ref p) (upd H1 p (.tup vs))) : tTup ta σ H Q := h
/-! ### comprehensions over readings -/
section
variable {K : PySem.W.Frag} {σ : L2.St} {H : Hp} {tl te : TE} {t : TT} {vs : List Nat}
theorem flt_lenR {α β : Type} (f : α → Bool) (g : α → β) (l : List α) (i : Nat) : (((l.take i).filter f).map g).length ≤ l.length := flt_len f g l i
/-- [te for p, rest in readings if t] -/
theorem en_lcP {i j : Nat} {l : List (Int × Option Int)} (f : Int × Option Int → Bool) (g : Int × Option Int → PyData) (h : EvD tl σ H (.list (rdN l))) (hz : l.length ≤ 40000)
    (hw : ∀ x y, wipe (((wipe σ vs).set i (some x)).set j (some y)) vs = wipe σ vs)
    (ht : ∀ H1 q, Ex H H1 → q ∈ l → EvT t (((wipe σ vs).set i (some (.int q.1))).set j (some (oV q.2))) H1 (f q)) (he : ∀ H1 q, Ex H H1 → q ∈ l → f q = true → EvD te (((wipe σ vs).set i (some (.int q.1))).set j (some (oV q.2))) H1 (g q)) (hn : ∀ q, q ∈ l → f q = true → noL (g q) = true) :
    EvN (tLc (iList K tl) (gTup K 2 (gCons (gName i) (gCons (gName j) gNil))) t te vs) σ H ((l.filter f).map g) := fun H0 e Q q => h H0 e _ fun v H1 e1 hv => by
  obtain ⟨a, xs, rfl, ha, hx⟩ := hv.lst_get
  refine ⟨a, rfl, ⟨xs, sq_of ha⟩, fun D hD => lc_list (xs := xs) (fun i H' => Ex H1 H' ∧ AccL H' D (((l.take i).filter f).map g)) ⟨Ex.new hD, AccL.new⟩ (fun i H' _ p => sq_of (p.1 a _ ha)) (fun k x H' hi p => ?_) (fun H' p => ?_)⟩
  · obtain ⟨c, b, hc, rfl, hb⟩ := rdN_get hx hi
    have hm := List.mem_of_getElem? hc
    refine ⟨b, _, rfl, st_of (p.1 _ _ hb), rfl, _, _, rfl, _, _, rfl, rfl, hw _ _, ?_⟩
    rw [take_flt f g hc]
    exact lc_turn p hD (by have := flt_len f g l k; omega) (ht H1 c (e.trans e1) hm) (fun hf => he H1 c (e.trans e1) hm hf) (hn c hm)
  · rw [hx.len, show (rdN l).length = l.length from List.length_map .., List.take_length] at p
    exact q D H' (fresh_back e1 hD) (e1.trans p.1) p.2
/-- [te for reading in readings if t] -/
theorem en_lcQ {j : Nat} {l : List (Int × Option Int)} (f : Int × Option Int → Bool) (g : Int × Option Int → PyData) (h : EvD tl σ H (.list (rdN l))) (hz : l.length ≤ 40000)
    (hw : ∀ x, wipe ((wipe σ vs).set j (some x)) vs = wipe σ vs)
    (ht : ∀ H1 b q, Ex H H1 → q ∈ l → H1 b = some (.tup [.int q.1, oV q.2]) → EvT t ((wipe σ vs).set j (some (.ref b))) H1 (f q)) (he : ∀ H1 b q, Ex H H1 → q ∈ l → H1 b = some (.tup [.int q.1, oV q.2]) → f q = true → EvD te ((wipe σ vs).set j (some (.ref b))) H1 (g q)) (hn : ∀ q, q ∈ l → f q = true → noL (g q) = true) :
    EvN (tLc (iList K tl) (gName j) t te vs) σ H ((l.filter f).map g) := fun H0 e Q q => h H0 e _ fun v H1 e1 hv => by
  obtain ⟨a, xs, rfl, ha, hx⟩ := hv.lst_get
  refine ⟨a, rfl, ⟨xs, sq_of ha⟩, fun D hD => lc_list (xs := xs) (fun i H' => Ex H1 H' ∧ AccL H' D (((l.take i).filter f).map g)) ⟨Ex.new hD, AccL.new⟩ (fun i H' _ p => sq_of (p.1 a _ ha)) (fun k x H' hi p => ?_) (fun H' p => ?_)⟩
  · obtain ⟨c, b, hc, rfl, hb⟩ := rdN_get hx hi
    have hm := List.mem_of_getElem? hc
    refine ⟨hw _, ?_⟩
    rw [take_flt f g hc]
    exact lc_turn p hD (by have := flt_len f g l k; omega) (ht H1 b c (e.trans e1) hm hb) (fun hf => he H1 b c (e.trans e1) hm hb hf) (hn c hm)
  · rw [hx.len, show (rdN l).length = l.length from List.length_map .., List.take_length] at p
    exact q D H' (fresh_back e1 hD) (e1.trans p.1) p.2
end
theorem dec_non (e : Option Int) : decide (oV e = V.non) = decide (e = none) := by
  cases e with
  | none => exact (decide_eq_true rfl).trans (decide_eq_true rfl).symm
  | some r => exact (decide_eq_false (fun z => nomatch z)).trans (decide_eq_false (fun z => nomatch z)).symm
theorem exUp {H H1 : Hp} {a : Addr} {o : HO} (e : Ex H H1) (h : H a = some o) : H1 a = some o := e _ _ h
theorem dtUp {H H1 : Hp} {v : V} {d : PyData} (e : Ex H H1) (h : Dt H v d) : Dt H1 v d := h.up e
/-! ### what are readings, whole readings -/
def dSnd : PyData → Option Int
  | .tuple [_, .int r] => some r
  | _ => none
theorem dReading_two {d : PyData} (h : dReading d = true) : d = .tuple [.int (dFst d), oD (dSnd d)] ∧ primeB (dFst d) = true ∧ ∀ r, dSnd d = some r → 0 ≤ r ∧ r < dFst d := by
  obtain ⟨p, e, rfl, hp, he⟩ := dReading_get h
  cases e with
  | none => exact ⟨rfl, hp, fun r hr => nomatch hr⟩
  | int r =>
    have he : (decide (0 ≤ r) && decide (r < p)) = true := he
    rw [Bool.and_eq_true, decide_eq_true_iff, decide_eq_true_iff] at he
    exact ⟨rfl, hp, fun r' hr => by cases hr; exact he⟩
  | bool b => exact nomatch he
  | str x => exact nomatch he
  | list x => exact nomatch he
  | tuple x => exact nomatch he
  | dict x => exact nomatch he
theorem readings_get {d : PyData} (h : dReadings d = true) : ∃ l, d = .list (rdN l) ∧ RdN l := by
  cases d with
  | list ds =>
    have h : (decide (ds.length ≤ 10) && (ds.all dReading && decide (cntD (fstAt ds) ds.length = ds.length))) = true := h
    rw [Bool.and_eq_true, Bool.and_eq_true, decide_eq_true_iff, decide_eq_true_iff] at h
    obtain ⟨h1, h2, h3⟩ := h
    have h2 := List.all_eq_true.mp h2
    have e : ds = rdN (ds.map fun d => (dFst d, dSnd d)) := by
      unfold rdN
      rw [List.map_map]
      refine (List.map_id ds).symm.trans (List.map_congr_left fun d hd => ?_)
      exact (dReading_two (h2 d hd)).1
    refine ⟨ds.map fun d => (dFst d, dSnd d), by rw [← e], by rw [List.length_map]; exact h1, fun q hq => ?_, ?_⟩
    · obtain ⟨d, hd, rfl⟩ := List.mem_map.mp hq
      exact (dReading_two (h2 d hd)).2
    · rw [List.map_map]
      refine List.pairwise_iff_getElem.mpr fun i j hi hj hij => ?_
      rw [List.length_map] at hi hj
      rw [List.getElem_map, List.getElem_map]
      have := (cntD_all _ _).mp h3 i j hij hj
      unfold fstAt at this
      rw [List.getD_eq_getElem?_getD, List.getD_eq_getElem?_getD, List.getElem?_eq_getElem hi, List.getElem?_eq_getElem hj] at this
      exact this
  | none => exact nomatch h
  | bool b => exact nomatch h
  | int i => exact nomatch h
  | str x => exact nomatch h
  | tuple x => exact nomatch h
  | dict x => exact nomatch h
/-- readings, none of them without a rest -/
def dWholeR : PyData → Bool
  | .list ds => dReadings (.list ds) && ds.all fun d => (dSnd d).isSome
  | _ => false
theorem snd_at (q : Int × Option Int) : dSnd (.tuple [.int q.1, oD q.2]) = q.2 := by
  obtain ⟨p, e⟩ := q
  cases e <;> rfl
def noNone (l : List (Int × Option Int)) : Bool := l.all fun q => q.2.isSome
theorem whole_rdN {l : List (Int × Option Int)} (h : RdN l) : dWholeR (.list (rdN l)) = noNone l := by
  show (dReadings (.list (rdN l)) && (rdN l).all fun d => (dSnd d).isSome) = _
  rw [h.isR, Bool.true_and]
  unfold rdN noNone
  rw [List.all_map]
  congr 1
  funext q
  show (dSnd (.tuple [.int q.1, oD q.2])).isSome = _
  rw [snd_at]
def stripO (l : List (Int × Option Int)) : List (Int × Int) := l.map fun q => (q.1, q.2.getD 0)
theorem strip_rdD {l : List (Int × Option Int)} (h : noNone l = true) : rdD (stripO l) = rdN l := by
  unfold rdD stripO rdN
  rw [List.map_map]
  refine List.map_congr_left fun q hq => ?_
  have := List.all_eq_true.mp h q hq
  obtain ⟨p, e⟩ := q
  cases e with
  | none => exact nomatch this
  | some r => rfl
theorem strip_ok {l : List (Int × Option Int)} (h : RdN l) (hn : noNone l = true) : RdOk (stripO l) := by
  refine ⟨by unfold stripO; rw [List.length_map]; exact h.len, fun q hq => ?_, by unfold stripO; rw [List.map_map]; exact h.nd⟩
  obtain ⟨q2, hq2, e2⟩ := List.mem_map.mp hq
  subst e2
  have := List.all_eq_true.mp hn q2 hq2
  obtain ⟨h1, h2⟩ := h.ok q2 hq2
  obtain ⟨p, e⟩ := q2
  cases e with
  | none => exact nomatch this
  | some r => exact ⟨h1, (h2 r rfl).1, (h2 r rfl).2⟩
theorem any_none (l : List (Int × Option Int)) : opAny (fun i => decide ((l.getD i (0, none)).2 = none)) l.length = !noNone l := by
  unfold opAny noNone
  rw [Bool.eq_iff_iff, List.any_eq_true, Bool.not_eq_true', ← Bool.not_eq_true, List.all_eq_true]
  constructor
  · rintro ⟨i, hi, h⟩ z
    rw [List.mem_range] at hi
    have h : (l.getD i (0, none)).2 = none := of_decide_eq_true h
    rw [List.getD_eq_getElem?_getD, List.getElem?_eq_getElem hi] at h
    have := z l[i] (List.getElem_mem hi)
    have h : l[i].2 = none := h
    rw [h] at this
    cases this
  · intro h
    apply Classical.byContradiction
    intro n
    refine h fun q hq => ?_
    obtain ⟨i, hi, e⟩ := List.getElem_of_mem hq
    cases z : q.2 with
    | some r => rfl
    | none =>
      exfalso
      refine n ⟨i, List.mem_range.mpr hi, decide_eq_true ?_⟩
      rw [List.getD_eq_getElem?_getD, List.getElem?_eq_getElem hi]
      show l[i].2 = none
      rw [e, z]
/-! ### zip of three lists of one length -/
def Itz3 (K : PySem.W.Frag) (a b c : Addr) : It :=
  ⟨fun i H => ∃ (xs ys us : List V) (x y u : V), SqL K H a xs ∧ SqL K H b ys ∧ SqL K H c us ∧ xs[i]? = some x ∧ ys[i]? = some y ∧ us[i]? = some u,
    fun i H v H' => ∃ T x y u, v = .ref T ∧ H T = none ∧ H' = upd H T (.tup [x, y, u]) ∧ (∀ xs, SqL K H a xs → xs[i]? = some x) ∧ (∀ ys, SqL K H b ys → ys[i]? = some y) ∧ ∀ us, SqL K H c us → us[i]? = some u,
    fun i H => ∃ xs ys us : List V, SqL K H a xs ∧ SqL K H b ys ∧ SqL K H c us ∧ xs.length = i ∧ ys.length = i ∧ us.length = i⟩
def T3 (z TI TO i1 i2 i3 a b c : Addr) (i : Nat) (h : Heap) : Prop := IsZip h z TI TO .none ∧ IsTupOf3 h TI (.ref i1) (.ref i2) (.ref i3) ∧ (∃ x y u, IsTupOf3 h TO x y u) ∧ h.IsListIter i1 a i ∧ h.IsListIter i2 b i ∧ h.IsListIter i3 c i
theorem six_cases {c z TI TO i1 i2 i3 : Addr} {P : Addr → Prop} (hc : c ∈ [z, TI, TO, i1, i2, i3]) (h1 : P z) (h2 : P TI) (h3 : P TO) (h4 : P i1) (h5 : P i2) (h6 : P i3) : P c := by
  simp only [List.mem_cons, List.not_mem_nil, or_false] at hc
  rcases hc with rfl | rfl | rfl | rfl | rfl | rfl
  all_goals assumption
theorem turn_zip3 {P : Program} {w : World} {K : PySem.W.Frag} {elts : List Expr} {kk : Nat} {tpos : Pos} {a b c z TI TO i1 i2 i3 : Addr} (S : ZipSep3 z TI TO i1 i2 i3 [i1, a] [i2, b] [i3, c]) (na : a ≠ i1) (nb : b ≠ i2) (nc : c ≠ i3) :
    Turn P w K (.Tuple elts kk tpos) (Itz3 K a b c) [z, TI, TO, i1, i2, i3] z (T3 z TI TO i1 i2 i3 a b c) where
  mem := by simp
  obj := fun i h st d hd => by
    obtain ⟨hz, hTI, ⟨x, y, u, hTO⟩, ⟨o1, e1, _, d1⟩, ⟨o2, e2, _, d2⟩, ⟨o3, e3, _, d3⟩⟩ := st
    refine six_cases (P := fun d => ∃ o, h.get? d = some o ∧ ∀ v, o.data ≠ .cell v) hd ⟨_, hz, fun v q => nomatch q⟩ ⟨_, hTI, fun v q => nomatch q⟩ ⟨_, hTO, fun v q => nomatch q⟩ ⟨o1, e1, fun v q => by rw [d1] at q; cases q⟩ ⟨o2, e2, fun v q => by rw [d2] at q; cases q⟩ ⟨o3, e3, fun v q => by rw [d3] at q; cases q⟩
  keep := fun i h h' st k => by
    obtain ⟨hz, hTI, ⟨x, y, u, hTO⟩, h1, h2, h3⟩ := st
    exact ⟨k z (by simp) _ hz, k TI (by simp) _ hTI, ⟨x, y, u, k TO (by simp) _ hTO⟩, h1.at fun o q => k i1 (by simp) o q, h2.at fun o q => k i2 (by simp) o q, h3.at fun o q => k i3 (by simp) o q⟩
  item := by
    intro X hP hw hK hc i pins s σ H E I hf st hg
    subst hP hw hK
    obtain ⟨hz, hTI, ⟨x0, y0, u0, hTO⟩, h1, h2, h3⟩ := st
    obtain ⟨xs, ys, us, x, y, u, hq1, hq2, hq3, hx, hy, hu⟩ := hg
    obtain ⟨t1, rv1, p1, _⟩ := I.list hq1
    obtain ⟨t2, rv2, p2, _⟩ := I.list hq2
    obtain ⟨t3, rv3, p3, _⟩ := I.list hq3
    obtain ⟨u1, hu1, ru1⟩ := rv1.get hx
    obtain ⟨u2, hu2, ru2⟩ := rv2.get hy
    obtain ⟨u3, hu3, ru3⟩ := rv3.get hu
    have hh : X.A.in1.handled = none := I.ok.hd hc
    have hzl : z < s.heap.objs.size := Heap.lt_size hz
    have gl : ∀ {ts : List Value} {v : Value}, ts[i]? = some v → i < ts.toArray.size := fun {ts v} e => by
      rw [List.size_toArray]
      exact (List.getElem?_eq_some_iff.mp e).1
    refine wpAny_pyNext_zipD3_item S (Draws.list hh i1 a na t1.toArray) (Draws.list hh i2 b nb t2.toArray) (Draws.list hh i3 c nc t3.toArray) hz hTI hTO ⟨h1, p1.isList⟩ ⟨h2, p2.isList⟩ ⟨h3, p3.isList⟩ (gl hu1) (gl hu2) (gl hu3) fun v1 v2 v3 h' tk y1 y2 y3 z' TO' d1 d2 d3 hT hsz hk => ?_
    have e1 : v1 = u1 := Option.some.inj (y1.symm.trans (by simpa using hu1))
    have e2 : v2 = u2 := Option.some.inj (y2.symm.trans (by simpa using hu2))
    have e3 : v3 = u3 := Option.some.inj (y3.symm.trans (by simpa using hu3))
    subst e1 e2 e3
    refine ⟨_, rfl, wpAny_letOwnedTupleGo_zip (s := { s with heap := h', toks := tk }) z' fun h'' z'' sb => ?_⟩
    have hT2 : h''.get? s.heap.objs.size = some { cls := .type "tuple", data := .seq #[v1, v2, v3] } := (sb.2 _ (Nat.ne_of_gt hzl)).trans hT
    have keep : ∀ d o, d ∉ [z, TI, TO, i1, i2, i3] → s.heap.get? d = some o → h''.get? d = some o := fun d o hb e => by
      simp only [List.mem_cons, List.not_mem_nil, or_false, not_or] at hb
      obtain ⟨b1, b2, b3, b4, b5, b6⟩ := hb
      exact (sb.2 d b1).trans (hk d o b1 b3 b4 b5 b6 e)
    have new : ObjOk X.prog X.w (upd H s.heap.objs.size (.tup [x, y, u])) h'' s.heap.objs.size (.tup [x, y, u]) :=
      ⟨Nat.le_of_ble_eq_true rfl, [v1, v2, v3], .cons ru1 (.cons ru2 (.cons ru3 .nil)), ⟨_, hT2, rfl, _, rfl⟩⟩
    have I1 := I.turnedNew (t' := tk) (ch := [z, TI, TO, i1, i2, i3]) keep hf (Nat.le_refl _) new
    refine ⟨.ref s.heap.objs.size, _, I1, rfl, ⟨_, x, y, u, rfl, I.hok.fresh (Nat.le_refl _), rfl, fun l hl => by rw [I.list_inj hl hq1]; exact hx, fun l hl => by rw [I.list_inj hl hq2]; exact hy, fun l hl => by rw [I.list_inj hl hq3]; exact hu⟩,
      ⟨z'', (sb.2 _ S.TIz).trans (hk _ _ S.TIz S.TITO S.TIi1 S.TIi2 S.TIi3 hTI), ⟨_, _, _, (sb.2 _ S.TOz).trans TO'⟩, d1.1.at fun o q => (sb.2 _ (Ne.symm S.zi1)).trans q, d2.1.at fun o q => (sb.2 _ (Ne.symm S.zi2)).trans q, d3.1.at fun o q => (sb.2 _ (Ne.symm S.zi3)).trans q⟩, fun d hd => ?_⟩
    have hlt : d < s.heap.objs.size := by
      refine six_cases (P := fun d => d < s.heap.objs.size) hd hzl (Heap.lt_size hTI) (Heap.lt_size hTO) ?_ ?_ ?_
      · obtain ⟨_, e, _⟩ := h1
        exact Heap.lt_size e
      · obtain ⟨_, e, _⟩ := h2
        exact Heap.lt_size e
      · obtain ⟨_, e, _⟩ := h3
        exact Heap.lt_size e
    rw [upd_ne (Nat.ne_of_lt hlt)]
    exact (hf d hd).1
  done := by
    intro X hP hw hK hc i pins s σ H E I hf st hg
    subst hP hw hK
    obtain ⟨hz, hTI, ⟨x0, y0, u0, hTO⟩, h1, h2, h3⟩ := st
    obtain ⟨xs, ys, us, hq1, hq2, hq3, l1, l2, l3⟩ := hg
    obtain ⟨t1, rv1, p1, _⟩ := I.list hq1
    obtain ⟨t2, rv2, p2, _⟩ := I.list hq2
    obtain ⟨t3, rv3, p3, _⟩ := I.list hq3
    have hh : X.A.in1.handled = none := I.ok.hd hc
    have s1 : i = t1.toArray.size := by rw [List.size_toArray, ← rv1.length]; exact l1.symm
    have s2 : i = t2.toArray.size := by rw [List.size_toArray, ← rv2.length]; exact l2.symm
    have s3 : i = t3.toArray.size := by rw [List.size_toArray, ← rv3.length]; exact l3.symm
    exact wpAny_pyNext_zipD3_end S (Draws.list hh i1 a na t1.toArray) (Draws.list hh i2 b nb t2.toArray) (Draws.list hh i3 c nc t3.toArray) hz hTI hTO ⟨h1, p1.isList⟩ ⟨h2, p2.isList⟩ ⟨h3, p3.isList⟩ (Nat.le_of_eq s1) (Nat.le_of_eq s2) (Nat.le_of_eq s3) (.inl s1) fun h' tk hk => ⟨rfl, I.turnedL (t' := tk) (ch := [z, TI, TO, i1, i2, i3]) (fun d o hb q => by
      simp only [List.mem_cons, List.not_mem_nil, or_false, not_or] at hb
      obtain ⟨b1, b2, b3, b4, b5, b6⟩ := hb
      exact hk d o b1 b3 b4 b5 b6 q) hf⟩
  self := fun A i s Q E st h => wpAny_pyIter_zip st.1 h
def iZip3 (K : PySem.W.Frag) (ta : TA) : TI := fun σ H R => ta σ H fun vs H1 => ∃ a b c xs ys us, vs = [.ref a, .ref b, .ref c] ∧ SqL K H1 a xs ∧ SqL K H1 b ys ∧ SqL K H1 c us ∧ R (Itz3 K a b c) H1
theorem pi_zip3 {X : Cx} {e e2 e3 : Expr} {ta : TA} {p pos tpos : Pos} {elts : List Expr} {kk : Nat} (hg : Gl X "zip") (hm : X.mg "zip" = none) (ha : PA X [e, e2, e3] ta)
    (hs : starEach [e, e2, e3] X.env = (false, eval e X.env) :: starEach [e2, e3] X.env := by rfl) (hpl : (backTo pos (starEach [e2, e3] X.env)).any (·.1) = false := by rfl) :
    PI X (.Tuple elts kk tpos) (.Call (.Name "zip" p) [e, e2, e3] [] pos) (iZip3 X.K ta) := by
  refine ⟨fun pins s σ H R I h => ?_⟩
  refine Call_ (ld_blt I hg hm PyProof.Rows.boot_zip (PyProof.Rows.callWith_type1 (thn (ha.run pos pins s σ H _ I h) fun us s1 ⟨vs, H1, I1, r1, q1⟩ => ?_) hs hpl))
  obtain ⟨a, b, c, xs, ys, zs, ex, hq1, hq2, hq3, q⟩ := q1
  subst ex
  obtain ⟨w1, w2, w3, rfl, k1, k2, k3⟩ : ∃ w1 w2 w3, us = [w1, w2, w3] ∧ RelV (.ref a) w1 ∧ RelV (.ref b) w2 ∧ RelV (.ref c) w3 := by
    cases r1 with
    | cons r rr => cases rr with
      | cons r' rr => cases rr with
        | cons r'' rr =>
          cases rr
          exact ⟨_, _, _, rfl, r, r', r''⟩
  cases k1
  cases k2
  cases k3
  obtain ⟨t1, rv1, p1, _⟩ := I1.list hq1
  obtain ⟨t2, rv2, p2, _⟩ := I1.list hq2
  obtain ⟨t3, rv3, p3, _⟩ := I1.list hq3
  have la : a < s1.heap.objs.size := p1.lt
  have lb : b < s1.heap.objs.size := p2.lt
  have lc : c < s1.heap.objs.size := p3.lt
  have one : ∀ {d e : Addr}, d < s1.heap.objs.size → e ∈ [d] → e < s1.heap.objs.size := fun h m => by rw [List.mem_singleton.mp m]; exact h
  refine zip_begins3 (begins_list a t1.toArray) (begins_list b t2.toArray) (begins_list c t3.toArray) p1.isList p2.isList p3.isList fun h' hz hTI hTO g1 g2 g3 hsz hk => wpAny_pyIter_zip hz ?_
  have I2 : Inv X pins σ H1 { s1 with heap := h' } := I1.kept (t' := s1.toks) hk
  refine ⟨s1.heap.objs.size + 5, [s1.heap.objs.size + 5, s1.heap.objs.size + 3, s1.heap.objs.size + 4, s1.heap.objs.size, s1.heap.objs.size + 1, s1.heap.objs.size + 2], _, _, H1, rfl, I2,
    turn_zip3 (zip_sep3 (fun d h => one la h) (fun d h => one lb h) (fun d h => one lc h)) (Nat.ne_of_lt la) (Nat.ne_of_lt (Nat.lt_of_lt_of_le lb (Nat.le_add_right _ _))) (Nat.ne_of_lt (Nat.lt_of_lt_of_le lc (Nat.le_add_right _ _))), ⟨hz, hTI, ⟨_, _, _, hTO⟩, ⟨_, g1, rfl, rfl⟩, ⟨_, g2, rfl, rfl⟩, ⟨_, g3, rfl, rfl⟩⟩, fun d hd => ?_, q⟩
  have hle : s1.heap.objs.size ≤ d := six_cases (P := fun d => s1.heap.objs.size ≤ d) hd (Nat.le_add_right _ _) (Nat.le_add_right _ _) (Nat.le_add_right _ _) (Nat.le_refl _) (Nat.le_add_right _ _) (Nat.le_add_right _ _)
  exact I1.fpOk hle (I1.hok.fresh hle)
/-- a walk over it -/
def YTrip (xs ys us : Nat → Option V) : Nat → Hp → V → Hp → Prop := fun i H v H' => ∃ T x y u, v = .ref T ∧ H T = none ∧ H' = upd H T (.tup [x, y, u]) ∧ xs i = some x ∧ ys i = some y ∧ us i = some u
theorem walk_zip3 {K : PySem.W.Frag} {a b c : Addr} {xs ys us : List V} (l1 : ys.length = xs.length) (l2 : us.length = xs.length) : Walk (Itz3 K a b c) xs.length (fun H => SqL K H a xs ∧ SqL K H b ys ∧ SqL K H c us) (YTrip (fun i => xs[i]?) (fun i => ys[i]?) (fun i => us[i]?)) := by
  refine ⟨fun i _ hi q => ?_, fun _ q => ⟨xs, ys, us, q.1, q.2.1, q.2.2, rfl, l1, l2⟩, fun i H v H' _ q y => ?_⟩
  · exact ⟨xs, ys, us, xs[i], ys[i]'(by omega), us[i]'(by omega), q.1, q.2.1, q.2.2, List.getElem?_eq_getElem hi, List.getElem?_eq_getElem (by omega), List.getElem?_eq_getElem (by omega)⟩
  · obtain ⟨T, x, y, u, h1, h2, h3, h4, h5, h6⟩ := y
    exact ⟨T, x, y, u, h1, h2, h3, h4 xs q.1, h5 ys q.2.1, h6 us q.2.2⟩
theorem mul_sz {a b : Int} {m n : Nat} (ha : a.natAbs < 2 ^ m) (hb : b.natAbs < 2 ^ n) : (a * b).natAbs < 2 ^ (m + n) := by
  rw [Int.natAbs_mul, Nat.pow_add]
  exact Nat.mul_lt_mul'' ha hb
theorem add_sz {a b : Int} {m : Nat} (ha : a.natAbs < 2 ^ m) (hb : b.natAbs < 2 ^ m) : (a + b).natAbs < 2 ^ (m + 1) := by
  have := Int.natAbs_add_le a b
  rw [Nat.pow_succ]
  omega
theorem fac_sz {t a k : Int} (h : t = a * k) (hk : k ≠ 0) : a.natAbs ≤ t.natAbs := by
  rw [h, Int.natAbs_mul]
  exact Nat.le_mul_of_pos_right _ (by omega)
theorem dO (a b : Option Int) : decide (oV a = oV b) = decide (a = b) := by
  cases a <;> cases b
  · exact (decide_eq_true rfl).trans (decide_eq_true rfl).symm
  · exact (decide_eq_false (fun z => nomatch z)).trans (decide_eq_false (fun z => nomatch z)).symm
  · exact (decide_eq_false (fun z => nomatch z)).trans (decide_eq_false (fun z => nomatch z)).symm
  · rename_i x y
    exact decide_eq_decide.mpr ⟨fun e => congrArg some (V.int.inj e), fun e => congrArg V.int (Option.some.inj e)⟩
theorem oD_inj {a b : Option Int} (h : oD a = oD b) : a = b := by
  cases a <;> cases b
  · rfl
  · cases h
  · cases h
  · cases h
    rfl
theorem flat_oV (a b : Option Int) : scal (oV a) (oV b) = true := by cases a <;> cases b <;> rfl
theorem noL_oD (n : Int) (e : Option Int) : noL (.tuple [.int n, oD e]) = true := by cases e <;> rfl
theorem os_eq {H : Hp} : ∀ {vs : List V} (es : List (Option Int)), DtAll H vs (es.map oD) → vs = es.map oV
  | _, [], h => by cases h; rfl
  | _, e :: es, h => by
    cases h with
    | cons a b =>
      rw [a.o_get, os_eq es b]
      rfl
theorem p_split {a b p : Int} (hp : primeB p = true) (h : p ∣ a * b) (hb : b % p ≠ 0) : p ∣ a := dvd_left_of h (by rw [Int.gcd_comm]; exact primeB_gcd hp hb)
theorem no_both {t b p : Int} (hp : primeB p = true) (g : Int.gcd t b = 1) (h1 : p ∣ t) (h2 : p ∣ b) : False := by
  have d := Int.dvd_coe_gcd h1 h2
  rw [g] at d
  have lo := primeB_lo hp
  have := Int.le_of_dvd (show (0 : Int) < 1 by decide) d
  omega
/-- the same rest just where the prime divides the one across the other -/
theorem rest_same {t b u c p : Int} (hp : primeB p = true) (g1 : Int.gcd t b = 1) (g2 : Int.gcd u c = 1) : restO t b p = restO u c p ↔ (t * c - u * b) % p = 0 := by
  have lo := primeB_lo hp
  have key : restO t b p = restO u c p ↔ restD t b p = restD u c p := ⟨fun h => by rw [← oD_restO, ← oD_restO, h], fun h => oD_inj (by rw [oD_restO, oD_restO, h])⟩
  rw [key]
  by_cases zb : b % p = 0
  · have db := Int.dvd_of_emod_eq_zero zb
    rw [restD_none zb]
    by_cases zc : c % p = 0
    · have dc := Int.dvd_of_emod_eq_zero zc
      rw [restD_none zc]
      exact ⟨fun _ => Int.emod_eq_zero_of_dvd (Int.dvd_sub (Int.dvd_mul_of_dvd_right dc) (Int.dvd_mul_of_dvd_right db)), fun _ => rfl⟩
    · obtain ⟨r, e, _⟩ := restD_ok (t := u) hp zc
      rw [e]
      refine ⟨fun h => (nomatch h), fun h => ?_⟩
      exfalso
      have d1 := Int.dvd_of_emod_eq_zero h
      have d2 : p ∣ t * c := by
        have := Int.dvd_add d1 (Int.dvd_mul_of_dvd_right (b := u) db)
        rw [Int.sub_add_cancel] at this
        exact this
      exact no_both hp g1 (p_split hp d2 zc) db
  · obtain ⟨r, e, r0, r1, r2⟩ := restD_ok (t := t) hp zb
    rw [e]
    by_cases zc : c % p = 0
    · have dc := Int.dvd_of_emod_eq_zero zc
      rw [restD_none zc]
      refine ⟨fun h => (nomatch h), fun h => ?_⟩
      exfalso
      have d1 := Int.dvd_of_emod_eq_zero h
      have d2 : p ∣ u * b := by
        have := Int.dvd_sub (Int.dvd_mul_of_dvd_right (b := t) dc) d1
        rw [show t * c - (t * c - u * b) = u * b by omega] at this
        exact this
      exact no_both hp g2 (p_split hp d2 zb) dc
    · obtain ⟨s, e2, s0, s1, s2⟩ := restD_ok (t := u) hp zc
      rw [e2]
      have d1 := Int.dvd_of_emod_eq_zero r2
      have d2 := Int.dvd_of_emod_eq_zero s2
      have eq : t * c - u * b = (r - s) * b * c - (r * b - t) * c + (s * c - u) * b := by grind
      refine ⟨fun h => ?_, fun h => ?_⟩
      · cases h
        rw [eq, Int.sub_self, Int.zero_mul, Int.zero_mul]
        exact Int.emod_eq_zero_of_dvd (Int.dvd_add (Int.dvd_sub (Int.dvd_zero _) (Int.dvd_mul_of_dvd_left d1)) (Int.dvd_mul_of_dvd_left d2))
      · have d3 := Int.dvd_of_emod_eq_zero h
        have d4 : p ∣ (r - s) * b * c := by
          have := Int.dvd_sub (Int.dvd_add d3 (Int.dvd_mul_of_dvd_left (c := c) d1)) (Int.dvd_mul_of_dvd_left (c := b) d2)
          rw [show t * c - u * b + (r * b - t) * c - (s * c - u) * b = (r - s) * b * c by rw [eq]; omega] at this
          exact this
        obtain ⟨y, hy⟩ := p_split hp (p_split hp d4 zc) zb
        have : r = s := by
          rcases Int.lt_trichotomy y 0 with z | z | z
          · have : p * y ≤ p * (-1) := Int.mul_le_mul_of_nonneg_left (by omega) (by omega)
            omega
          · rw [z] at hy
            omega
          · have : p * 1 ≤ p * y := Int.mul_le_mul_of_nonneg_left (by omega) (by omega)
            omega
        rw [this]
theorem restO_some {t b p x : Int} (hp : primeB p = true) (hb : b % p ≠ 0) (x0 : 0 ≤ x) (x1 : x < p) (h : (x * b - t) % p = 0) : restO t b p = some x := by
  unfold restO
  rw [if_neg hb, restI_eq (primeB_gcd hp hb) x0 x1 h]
theorem restO_none {t b p : Int} (hb : b % p = 0) : restO t b p = none := by
  unfold restO
  rw [if_pos hb]
theorem restO_is {t b p : Int} (hp : primeB p = true) (hb : b % p ≠ 0) : ∃ r, restO t b p = some r ∧ 0 ≤ r ∧ r < p ∧ (r * b - t) % p = 0 := by
  obtain ⟨r, e, r0, r1, r2⟩ := restD_ok (t := t) hp hb
  exact ⟨r, restO_some hp hb r0 r1 r2, r0, r1, r2⟩
theorem mod_dvd {x p : Int} : p ∣ x % p - x := ⟨-(x / p), by
  have := Int.emod_add_mul_ediv x p
  rw [Int.mul_neg]
  omega⟩
theorem rest_neg {t b p r : Int} (hp : primeB p = true) (hb : b % p ≠ 0) (h : (r * b - t) % p = 0) : restO (0 - t) b p = some ((0 - r) % p) := by
  have lo := primeB_lo hp
  refine restO_some hp hb (Int.emod_nonneg _ (by omega)) (Int.emod_lt_of_pos _ (by omega)) (Int.emod_eq_zero_of_dvd ?_)
  have d1 := Int.dvd_of_emod_eq_zero h
  have d2 : p ∣ (0 - r) % p - (0 - r) := mod_dvd
  have e : (0 - r) % p * b - (0 - t) = ((0 - r) % p - (0 - r)) * b - (r * b - t) := by
    generalize (0 - r) % p = y
    grind
  rw [e]
  exact Int.dvd_sub (Int.dvd_mul_of_dvd_left d2) d1
theorem rest_more {t b p r m : Int} (hp : primeB p = true) (hb : b % p ≠ 0) (h : (r * b - t) % p = 0) : restO (t + m * b) b p = some ((r + m) % p) := by
  have lo := primeB_lo hp
  refine restO_some hp hb (Int.emod_nonneg _ (by omega)) (Int.emod_lt_of_pos _ (by omega)) (Int.emod_eq_zero_of_dvd ?_)
  have d1 := Int.dvd_of_emod_eq_zero h
  have d2 : p ∣ (r + m) % p - (r + m) := mod_dvd
  have e : (r + m) % p * b - (t + m * b) = ((r + m) % p - (r + m)) * b + (r * b - t) := by
    generalize (r + m) % p = y
    grind
  rw [e]
  exact Int.dvd_add (Int.dvd_mul_of_dvd_left d2) d1
theorem gcd_neg0 {t b : Int} (g : Int.gcd t b = 1) : Int.gcd (0 - t) b = 1 := by
  rw [Int.zero_sub, Int.neg_gcd]
  exact g
theorem gcd_more {t b m : Int} (g : Int.gcd t b = 1) : Int.gcd (t + m * b) b = 1 := by
  have d1 := Int.gcd_dvd_left (t + m * b) b
  have d2 := Int.gcd_dvd_right (t + m * b) b
  have d3 : ((Int.gcd (t + m * b) b : Nat) : Int) ∣ t := by
    have := Int.dvd_sub d1 (Int.dvd_mul_of_dvd_right (b := m) d2)
    rw [Int.add_sub_cancel] at this
    exact this
  have d4 := Int.dvd_coe_gcd d3 d2
  rw [g] at d4
  have h1 := Int.le_of_dvd (show (0 : Int) < 1 by decide) d4
  have h2 : Int.gcd (t + m * b) b ≠ 0 := fun e => by
    rw [e] at d4
    have := Int.zero_dvd.mp d4
    omega
  omega
/-- turned about -/
theorem about_ok {t b t' b' k p : Int} (hp : primeB p = true) (g : Int.gcd t b = 1) (h1 : b = t' * k) (h2 : t = b' * k) :
    (restO t b p = none → restO t' b' p = some 0) ∧ (restO t' b' p = none → restO t b p = some 0) ∧ ∀ r a, restO t b p = some r → restO t' b' p = some a → r * a % p = 1 := by
  have lo := primeB_lo hp
  have z0 : ∀ {x : Int}, p ∣ x → x % p = 0 := fun h => Int.emod_eq_zero_of_dvd h
  have zd : ∀ {x : Int}, x % p = 0 → p ∣ x := fun h => Int.dvd_of_emod_eq_zero h
  refine ⟨fun h => ?_, fun h => ?_, fun r a hr ha => ?_⟩
  · have zb : b % p = 0 := by
      by_cases y : b % p = 0
      · exact y
      · obtain ⟨r, e, _⟩ := restO_is (t := t) hp y
        rw [e] at h
        cases h
    have nt : ¬ p ∣ t := fun y => no_both hp g y (zd zb)
    have nb : b' % p ≠ 0 := fun y => nt (by rw [h2]; exact Int.dvd_mul_of_dvd_left (zd y))
    have nk : k % p ≠ 0 := fun y => nt (by rw [h2]; exact Int.dvd_mul_of_dvd_right (zd y))
    have dt : p ∣ t' := p_split hp (by rw [← h1]; exact zd zb) nk
    refine restO_some hp nb (by decide) (by omega) (z0 ?_)
    rw [Int.zero_mul]
    exact Int.dvd_sub (Int.dvd_zero _) dt
  · have zb : b' % p = 0 := by
      by_cases y : b' % p = 0
      · exact y
      · obtain ⟨r, e, _⟩ := restO_is (t := t') hp y
        rw [e] at h
        cases h
    have dt : p ∣ t := by rw [h2]; exact Int.dvd_mul_of_dvd_left (zd zb)
    have nb : b % p ≠ 0 := fun y => no_both hp g dt (zd y)
    refine restO_some hp nb (by decide) (by omega) (z0 ?_)
    rw [Int.zero_mul]
    exact Int.dvd_sub (Int.dvd_zero _) dt
  · have nb : b % p ≠ 0 := fun y => by
      rw [restO_none y] at hr
      cases hr
    have nb' : b' % p ≠ 0 := fun y => by
      rw [restO_none y] at ha
      cases ha
    obtain ⟨r', e, _, _, r2⟩ := restO_is (t := t) hp nb
    rw [hr] at e
    cases e
    obtain ⟨a', e, _, _, a2⟩ := restO_is (t := t') hp nb'
    rw [ha] at e
    cases e
    have nt : t % p ≠ 0 := fun y => by
      have := zd y
      rw [h2] at this
      rw [Int.mul_comm] at this
      have dk := p_split hp this nb'
      exact nb (z0 (by rw [h1]; exact Int.dvd_mul_of_dvd_right dk))
    have d1 := zd r2
    have d2 := zd a2
    have d3 : p ∣ (r * a - 1) * t := by
      have e : (r * a - 1) * t = r * k * (a * b' - t') + (r * b - t) := by
        rw [h1, h2]
        grind
      rw [e]
      exact Int.dvd_add (Int.dvd_mul_of_dvd_right d2) d1
    obtain ⟨y, hy⟩ := p_split hp d3 nt
    rw [show r * a = 1 + p * y by omega, Int.add_mul_emod_self_left]
    exact Int.emod_eq_of_lt (by decide) (by omega)
/-- a list gone through by its places -/
theorem by_places {α β : Type} (L : List α) (d : α) (F : α → β) : (irng 0 L.length).map (fun x => F (L.getD x.toNat d)) = L.map F := by
  refine List.ext_getElem? fun i => ?_
  rw [List.getElem?_map, List.getElem?_map]
  by_cases h : i < L.length
  · rw [irng_get (by omega), List.getElem?_eq_getElem h]
    show some (F (L.getD (0 + (i : Int)).toNat d)) = some (F L[i])
    rw [show (0 + (i : Int)).toNat = i by omega, List.getD_eq_getElem?_getD, List.getElem?_eq_getElem h]
    rfl
  · rw [List.getElem?_eq_none (by rw [irng_len]; omega), List.getElem?_eq_none (by omega)]
    rfl
local macro_rules | `(tactic| trivial) => `(tactic| first
  | assumption
  | rfl
  | exact upd_same
  | exact sq_of (by trivial)
  | exact st_of (by trivial)
  | exact .inl (by trivial)
  | exact .inr (by trivial)
  | exact sz_of (Nat.le_of_ble_eq_true rfl)
  | exact sz_lt (by omega)
  | exact sz_of (by omega)
  | (refine exUp (by assumption) ?_; trivial)
  | (refine exUp (Ex.new (by assumption)) ?_; trivial)
  | exact Dt.int _
  | exact Dt.bl _
  | exact Dt.non
  | (refine dtUp (by assumption) ?_; trivial)
  | (refine dtUp (Ex.new (by assumption)) ?_; trivial)
  | omega
  | decide)
local macro_rules | `(tactic| and_intros) => `(tactic| first
  | refine And.intro (by first | rfl | trivial) ?_
  | (apply Exists.intro; and_intros))
local macro_rules | `(tactic| subst_eqs) => `(tactic| repeat first
  | and_intros
  | refine itT rfl ?_
  | refine itF rfl ?_)
section
variable {P : Program} {w : World} {K : PySem.W.Frag} {mg : Str → Option Value} {base : Heap} {z : Ad}
def sp_is_whole : Sp := fun vs H Q _ => ∃ v d, vs = [v] ∧ Dt H v d ∧ Q (.bl (dWhole d)) H
theorem ok_is_whole (T : Txt K mg base z) : FnOk P w K mg base CX0 1 z.a_is_whole z.d_is_whole ["thing"] (sp_is_whole) := by
  refine T.F_is_whole.ok sc_is_whole (fun vs H Q E h => ?_) (fun cdv A outer s H vs Q E hr h => ?_)
  · obtain ⟨v, d, rfl, _⟩ := h
    rfl
  · obtain ⟨v, d, rfl, hd, q⟩ := h
    refine ⟨_, (PSs.nox (pss_one (ps_ret (pe_and (pe_callB (r := rIsi K) call_isi (by rfl) T.m_isinstance (by decide +kernel) (pa_cons (pv 0) (pa_cons (pe_bltn (v := .ty "int") (by rfl) T.m_int (by decide +kernel) rfl) pa_nil))) (pe_one (pe_not (pe_callB (r := rIsi K) call_isi (by rfl) T.m_isinstance (by decide +kernel) (pa_cons (pv 0) (pa_cons (pe_bltn (v := .ty "bool") (by rfl) T.m_bool (by decide +kernel) rfl) pa_nil))))))))), ?_⟩
    refine ⟨v, rfl, _, _, _, _, _, rfl, .ty _, (hd).ty, kit_ty ( kit_int d), dInt d, rfl, ?_⟩
    cases d with
    | int i => exact itT rfl ⟨v, rfl, _, _, _, _, _, rfl, .ty _, (hd).ty, kit_ty ( kit_bool _), _, rfl, q⟩
    | bool b => exact itT rfl ⟨v, rfl, _, _, _, _, _, rfl, .ty _, (hd).ty, kit_ty ( kit_bool _), _, rfl, q⟩
    | none => exact itF rfl q
    | str x => exact itF rfl q
    | list x => exact itF rfl q
    | tuple x => exact itF rfl q
    | dict x => exact itF rfl q
def sp_is_whole_below : Sp := fun vs H Q _ => ∃ v d m, vs = [v, .int m] ∧ Dt H v d ∧ Q (.bl (dBelow m d)) H
theorem ok_is_whole_below (T : Txt K mg base z) : FnOk P w K mg base CX0 2 z.a_is_whole_below z.d_is_whole_below ["thing", "limit"] (sp_is_whole_below) := by
  refine T.F_is_whole_below.ok sc_is_whole_below (fun vs H Q E h => ?_) (fun cdv A outer s H vs Q E hr h => ?_)
  · obtain ⟨v, d, m, rfl, _⟩ := h
    rfl
  · obtain ⟨v, d, m, rfl, hd, q⟩ := h
    refine ⟨_, (PSs.nox (pss_one (ps_ret (pe_and (pe_call (ok_is_whole T) hr (by rfl) T.g_is_whole T.F_is_whole.kp T.b_is_whole .nil pass0 (pa_cons (pv 0) pa_nil)) (pe_one (pe_chain op_le op_lt pe_int (pv 0) (pv 1))))))), ?_⟩
    refine ⟨v, rfl, v, d, rfl, hd, _, rfl, ?_⟩
    cases d with
    | int r =>
      cases hd
      refine itT rfl ⟨.int r, rfl, 0, r, rfl, rfl, _, rfl, it2 (fun e => ?_) (fun e => ?_)⟩
      · refine ⟨.int m, rfl, r, m, rfl, rfl, ?_⟩
        have z : dBelow m (.int r) = decide (r < m) := by
          show (decide (0 ≤ r) && decide (r < m)) = _
          rw [e]
          rfl
        rw [z] at q
        exact q
      · have z : dBelow m (.int r) = false := by
          show (decide (0 ≤ r) && decide (r < m)) = _
          rw [e]
          rfl
        rw [z] at q
        exact q
    | none => exact itF rfl q
    | bool b => exact itF rfl q
    | str x => exact itF rfl q
    | list x => exact itF rfl q
    | tuple x => exact itF rfl q
    | dict x => exact itF rfl q
def sp_common_divisor : Sp := fun vs H Q _ => ∃ a b : Int, vs = [.int a, .int b] ∧ 0 < b ∧ Q (.int (Int.gcd a b)) H
theorem ok_common_divisor (T : Txt K mg base z) : FnOk P w K mg base CX0 1 z.a_common_divisor z.d_common_divisor ["one", "other"] (sp_common_divisor) := by
  refine T.F_common_divisor.ok sc_common_divisor (fun vs H Q E h => ?_) (fun cdv A outer s H vs Q E hr h => ?_)
  · obtain ⟨a, b, rfl, _⟩ := h
    rfl
  · obtain ⟨a, b, rfl, hb, q⟩ := h
    refine ⟨_, (PSs.nox (pss_cons (ps_while PassesOwn.never (pt_cmpR op_ne (pv 1) pe_int (nomark _)) (pss_one (ps_par (i := 0) (j := 1) (by rfl) sc_common_divisor.nd rfl rfl (by decide) rfl rfl (pa_cons (pv 1) (pa_cons (pe_op op_mod (pv 0) (pv 1)) pa_nil)) (by rfl))))
      (pss_one (ps_ret (pv 0))))), ?_⟩
    refine ⟨fun m σ H' => ∃ x y : Int, σ = [some (.int x), some (.int y)] ∧ H' = H ∧ 0 ≤ y ∧ (y = 0 → 0 ≤ x) ∧ Int.gcd x y = Int.gcd a b ∧ m = y.toNat, ⟨b.toNat, a, b, rfl, rfl, by omega, by omega, rfl, rfl⟩, fun m σ H' hW => ?_⟩
    obtain ⟨x, y, rfl, rfl, hy, hx, hg, rfl⟩ := hW
    refine ⟨.int y, rfl, rfl, _, rfl, it2 (fun e => ?_) (fun e => ?_)⟩
    · rw [dI] at e
      have e : y ≠ 0 := by simpa using e
      refine ⟨fun σ2 H2 => σ2 = [some (.int y), some (.int (x % y))] ∧ H2 = H', fun σ2 H2 hn => ?_, ?_⟩
      · obtain ⟨rfl, rfl⟩ := hn
        have h1 : 0 ≤ x % y := Int.emod_nonneg x e
        have h2 : x % y < y := Int.emod_lt_of_pos x (by omega)
        exact ⟨(x % y).toNat, by omega, y, x % y, rfl, rfl, h1, by omega, by rw [gcd_step, hg], rfl⟩
      · refine ⟨.int y, rfl, .int x, rfl, .int y, rfl, x, y, rfl, rfl, (show (0 : Int) < y by omega), _, _, rfl, rfl, rfl⟩
    · rw [dI] at e
      have e : y = 0 := by simpa using e
      subst e
      have h0 := hx rfl
      refine ⟨.int x, rfl, ?_⟩
      rw [← hg, Int.gcd_zero_right] at q
      rw [show x = ((x.natAbs : Nat) : Int) by omega]
      exact q
def sp_short_row : Sp := fun vs H Q _ => ∃ m n k : Int, vs = [.int m, .int n, .int k] ∧ 0 ≤ n ∧ n < m ∧ 0 ≤ k ∧ m.natAbs < 2 ^ 250 ∧ ∀ l f p H', Row m n k l f → Ex H H' → H p = none → H' p = some (.tup [.int l, .int f]) → Q (.ref p) H'
theorem ok_short_row (T : Txt K mg base z) : FnOk P w K mg base CX0 1 z.a_short_row z.d_short_row ["modulus", "number", "most"] (sp_short_row) := by
  refine T.F_short_row.ok sc_short_row (fun vs H Q E h => ?_) (fun cdv A outer s H vs Q E hr h => ?_)
  · obtain ⟨m, n, k, rfl, _⟩ := h
    rfl
  · obtain ⟨m, n, k, rfl, n0, n1, k0, hm, q⟩ := h
    refine ⟨_, (PSs.nox (pss_cons (ps_par (i := 3) (j := 4) (by rfl) sc_short_row.nd rfl rfl (by decide) rfl rfl (pa_cons (pv 0) (pa_cons (pv 1) pa_nil)) (by rfl))
      (pss_cons (ps_asg (pe_tup (pa_cons pe_int (pa_cons pe_int pa_nil))) (pg_tup (by rfl) (pgs_cons (pg_name (i := 5) sc_short_row.nd rfl (.inl rfl)) (pgs_cons (pg_name (i := 6) sc_short_row.nd rfl (.inl rfl)) pgs_nil))))
      (pss_cons (ps_while PassesOwn.never (pt_cmpR op_gt (pv 4) (pv 2) (nomark _)) (pss_cons (ps_set (i := 7) sc_short_row.nd rfl (.inl rfl) (pe_op op_fdivW (pv 3) (pv 4)))
      (pss_cons (ps_par (i := 3) (j := 4) (by rfl) sc_short_row.nd rfl rfl (by decide) rfl rfl (pa_cons (pv 4) (pa_cons (pe_op op_sub (pv 3) (pe_op op_mulW (pv 7) (pv 4))) pa_nil)) (by rfl))
      (pss_one (ps_par (i := 5) (j := 6) (by rfl) sc_short_row.nd rfl rfl (by decide) rfl rfl (pa_cons (pv 6) (pa_cons (pe_op op_sub (pv 5) (pe_op op_mulW (pv 7) (pv 6))) pa_nil)) (by rfl))))))
      (pss_one (ps_ret (pe_tup (pa_cons (pv 4) (pa_cons (pv 6) pa_nil))))))))), ?_⟩
    refine ⟨.int m, rfl, .int n, rfl, _, _, rfl, sz_of (Nat.le_of_ble_eq_true rfl), fun p0 hp0 => ?_⟩
    refine ⟨p0, _, rfl, .inl (.inl upd_same), rfl, .int 0, [.int 1], rfl, .int 1, [], rfl, rfl, ?_⟩
    have e0 : Ex H (upd H p0 (.tup [.int 0, .int 1])) := Ex.new hp0
    show tSeq _ _ _ _ (upd H p0 (.tup [.int 0, .int 1]))
    generalize upd H p0 (.tup [.int 0, .int 1]) = H0 at e0
    refine ⟨fun c σ H' => ∃ ab l fa f t ta s y7, σ = [some (.int m), some (.int n), some (.int k), some (.int ab), some (.int l), some (.int fa), some (.int f), y7] ∧ H' = H0 ∧ EInv m n ab l fa f t ta s ∧ (k < ab ∨ (f = 1 ∧ fa = 0 ∧ ab = m)) ∧ c = l.toNat,
      ⟨n.toNat, m, n, 0, 1, 0, 1, 1, none, rfl, rfl, ⟨by omega, by omega, by decide, .inl rfl, n0, n1, Int.le_refl _, by decide, by decide⟩, .inr ⟨rfl, rfl, rfl⟩, rfl⟩, fun c σ H' hW => ?_⟩
    obtain ⟨ab, l, fa, f, t, ta, s, y7, rfl, rfl, I, hx, rfl⟩ := hW
    refine ⟨.int l, rfl, .int k, rfl, l, k, rfl, rfl, _, rfl, it2 (fun e => ?_) (fun e => ?_)⟩
    · have e : k < l := of_decide_eq_true e
      have hl : 0 < l := by omega
      obtain ⟨z1, z2⟩ := I.size
      have z2 := z2 hl
      have la := I.la
      have am := I.am
      have w1 : l.natAbs < 2 ^ 250 := by omega
      have d0 : 0 ≤ ab / l := Int.ediv_nonneg (by omega) (by omega)
      have d1 : ab / l ≤ ab := Int.ediv_le_self l (show 0 ≤ ab by omega)
      have w2 : (ab / l).natAbs < 2 ^ 250 := by omega
      have w3 : f.natAbs < 2 ^ 250 := by omega
      refine ⟨fun σ2 H2 => σ2 = [some (.int m), some (.int n), some (.int k), some (.int l), some (.int (ab - ab / l * l)), some (.int f), some (.int (fa - ab / l * f)), some (.int (ab / l))] ∧ H2 = H', fun σ2 H2 hn => ?_, ?_⟩
      · obtain ⟨rfl, rfl⟩ := hn
        have I2 := I.step hl
        have l2 := I2.la
        have l3 := I2.l0
        exact ⟨(ab - ab / l * l).toNat, by omega, l, _, f, _, _, _, _, _, rfl, rfl, I2, .inl e, rfl⟩
      · refine ⟨.int ab, rfl, .int l, rfl, ab, l, rfl, rfl, wide_div (b := 250) hl w1 (by decide) (by decide), ?_⟩
        refine ⟨.int l, rfl, .int ab, rfl, .int (ab / l), rfl, .int l, rfl, _, _, rfl, rfl, wide_mul w2 w1 (by decide) (by decide) (by decide), _, _, rfl, rfl, _, _, rfl, ?_⟩
        exact ⟨.int f, rfl, .int fa, rfl, .int (ab / l), rfl, .int f, rfl, _, _, rfl, rfl, wide_mul w2 w3 (by decide) (by decide) (by decide), _, _, rfl, rfl, _, _, rfl, rfl, rfl⟩
    · have e : ¬ k < l := of_decide_eq_false e
      refine ⟨.int l, rfl, .int f, rfl, sz_of (Nat.le_of_ble_eq_true rfl), fun p hp => ?_⟩
      exact q l f p _ ⟨ab, fa, t, ta, s, I, by omega, hx⟩ (e0.trans (Ex.new hp)) (fresh_back e0 hp) upd_same
def sp_inverse : Sp := fun vs H Q _ => ∃ a p : Int, vs = [.int a, .int p] ∧ 1 < p ∧ p.natAbs < 2 ^ 250 ∧ Int.gcd a p = 1 ∧ ∀ r H', 0 ≤ r → r < p → r * a % p = 1 → Ex H H' → Q (.int r) H'
theorem ok_inverse (T : Txt K mg base z) : FnOk P w K mg base CX0 2 z.a_inverse z.d_inverse ["number", "prime"] (sp_inverse) := by
  refine T.F_inverse.ok sc_inverse (fun vs H Q E h => ?_) (fun cdv A outer s H vs Q E hr h => ?_)
  · obtain ⟨a, p, rfl, _⟩ := h
    rfl
  · obtain ⟨a, p, rfl, hp, hz, hg, q⟩ := h
    refine ⟨_, (PSs.nox (pss_one (ps_ret (pe_op op_mod (pe_ix (r := rIxT K) ix_tup (pe_call (ok_short_row T) hr (by rfl) T.g_short_row T.F_short_row.kp T.b_short_row .nil pass0 (pa_cons (pv 1) (pa_cons (pe_op op_mod (pv 0) (pv 1)) (pa_cons pe_int pa_nil)))) pe_int (fun _ _ => rfl)) (pv 1))))), ?_⟩
    have m0 := Int.emod_nonneg a (show p ≠ 0 by omega)
    have m1 := Int.emod_lt_of_pos a (show 0 < p by omega)
    refine ⟨.int p, rfl, .int a, rfl, .int p, rfl, a, p, rfl, rfl, (show 0 < p by omega), p, a % p, 1, rfl, m0, m1, by decide, hz, fun l f t H1 hR e1 _ h1 => ?_⟩
    obtain ⟨_, hi⟩ := row_inv hR hp hg
    refine ⟨t, _, 1, .int f, rfl, rfl, .inl (.inl h1), rfl, .int p, rfl, f, p, rfl, rfl, (show 0 < p by omega), ?_⟩
    exact q _ H1 (Int.emod_nonneg f (by omega)) (Int.emod_lt_of_pos f (by omega)) hi e1
def sp_is_pair : Sp := fun vs H Q _ => ∃ v d, vs = [v] ∧ Dt H v d ∧ Q (.bl (dPair d)) H
theorem ok_is_pair (T : Txt K mg base z) : FnOk P w K mg base CX0 1 z.a_is_pair z.d_is_pair ["thing"] (sp_is_pair) := by
  refine T.F_is_pair.ok sc_is_pair (fun vs H Q E h => ?_) (fun cdv A outer s H vs Q E hr h => ?_)
  · obtain ⟨v, d, rfl, _⟩ := h
    rfl
  · obtain ⟨v, d, rfl, hd, q⟩ := h
    refine ⟨_, (PSs.nox (pss_one (ps_ret (pe_and (pe_callB (r := rIsi K) call_isi (by rfl) T.m_isinstance (by decide +kernel) (pa_cons (pv 0) (pa_cons (pe_bltn (v := .ty "tuple") (by rfl) T.m_tuple (by decide +kernel) rfl) pa_nil))) (pe_one (pe_cmpR op_eq (pe_callB (r := rLenS K) call_len_seq (by rfl) T.m_len (by decide +kernel) (pa_cons (pv 0) pa_nil)) pe_int (nomark _))))))), ?_⟩
    refine ⟨v, rfl, _, _, _, _, _, rfl, .ty _, (hd).ty, kit_ty ( kit_tup d), dTup d, rfl, ?_⟩
    cases d with
    | tuple ds =>
      obtain ⟨a, xs, rfl, ha, hx⟩ := hd.tup_get
      refine itT rfl ⟨_, rfl, a, xs, rfl, .inr (.inl (.inl ha)), rfl, ?_⟩
      rw [dI, hx.len]
      have e : dPair (.tuple ds) = decide ((ds.length : Int) = 2) := by
        show decide (ds.length = 2) = _
        by_cases z : ds.length = 2
        · rw [decide_eq_true z, decide_eq_true (by omega)]
        · rw [decide_eq_false z, decide_eq_false (by omega)]
      rw [← e]
      exact q
    | int i => exact itF rfl q
    | bool b => exact itF rfl q
    | none => exact itF rfl q
    | str x => exact itF rfl q
    | list x => exact itF rfl q
    | dict x => exact itF rfl q
def sp_is_fraction : Sp := fun vs H Q _ => ∃ v d, vs = [v] ∧ Dt H v d ∧ Q (.bl (dFrac d)) H
theorem ok_is_fraction (T : Txt K mg base z) : FnOk P w K mg base CX0 2 z.a_is_fraction z.d_is_fraction ["thing"] (sp_is_fraction) := by
  refine T.F_is_fraction.ok sc_is_fraction (fun vs H Q E h => ?_) (fun cdv A outer s H vs Q E hr h => ?_)
  · obtain ⟨v, d, rfl, _⟩ := h
    rfl
  · obtain ⟨v, d, rfl, hd, q⟩ := h
    refine ⟨_, (PSs.nox (pss_cons (ps_if (pt_not (pt_val (pe_call (ok_is_pair T) hr (by rfl) T.g_is_pair T.F_is_pair.kp T.b_is_pair .nil pass0 (pa_cons (pv 0) pa_nil)))) (pss_one (ps_ret pe_bl)) pss_nil)
      (pss_cons (ps_asg (pv 0) (pg_tup (by rfl) (pgs_cons (pg_name (i := 1) sc_is_fraction.nd rfl (.inl rfl)) (pgs_cons (pg_name (i := 2) sc_is_fraction.nd rfl (.inl rfl)) pgs_nil))))
      (pss_cons (ps_if (PW.pt (pw_or (pt_not (pt_val (pe_call (ok_is_whole T) hr (by rfl) T.g_is_whole T.F_is_whole.kp T.b_is_whole .nil pass0 (pa_cons (pv 1) pa_nil)))) (pw_or (pt_not (pt_val (pe_call (ok_is_whole T) hr (by rfl) T.g_is_whole T.F_is_whole.kp T.b_is_whole .nil pass0 (pa_cons (pv 2) pa_nil)))) (pw_or1 (pt_cmpR op_lt (pv 2) pe_int (nomark _)))))) (pss_one (ps_ret pe_bl)) pss_nil)
      (pss_one (ps_ret (pe_cmpR op_eq (pe_call (ok_common_divisor T) hr (by rfl) T.g_common_divisor T.F_common_divisor.kp T.b_common_divisor .nil pass0 (pa_cons (pv 1) (pa_cons (pv 2) pa_nil))) pe_int (nomark _)))))))), ?_⟩
    refine ⟨v, rfl, v, d, rfl, hd, _, rfl, it2 (fun e => ?_) (fun e => ?_)⟩
    · have e : dPair d = false := by simpa using e
      rw [dFrac_pair e] at q
      exact q
    · have e : dPair d = true := by simpa using e
      obtain ⟨d1, d2, rfl⟩ := dPair_get e
      obtain ⟨a, xs, rfl, ha, hx⟩ := hd.tup_get
      cases hx with
      | @cons x1 _ _ _ h1 hx => cases hx with
        | @cons x2 _ _ _ h2 hx =>
          cases hx
          refine ⟨.ref a, rfl, a, [x1, x2], rfl, .inl (.inl ha), rfl, x1, [x2], rfl, x2, [], rfl, rfl, ?_⟩
          refine ⟨x1, rfl, x1, d1, rfl, h1, _, rfl, it2 (fun e1 => ?_) (fun e1 => ?_)⟩
          · have z : dFrac (.tuple [d1, d2]) = false := by
              cases d1 <;> first | rfl | exact nomatch e1
            rw [z] at q
            exact itT rfl q
          · have e1 : dWhole d1 = true := by simpa using e1
            obtain ⟨n, rfl⟩ := dWhole_get e1
            cases h1
            refine ⟨x2, rfl, x2, d2, rfl, h2, _, rfl, it2 (fun e2 => ?_) (fun e2 => ?_)⟩
            · have z : dFrac (.tuple [.int n, d2]) = false := by
                cases d2 <;> first | rfl | exact nomatch e2
              rw [z] at q
              exact itT rfl q
            · have e2 : dWhole d2 = true := by simpa using e2
              obtain ⟨m, rfl⟩ := dWhole_get e2
              cases h2
              refine ⟨_, rfl, m, 1, rfl, rfl, _, rfl, it2 (fun e3 => ?_) (fun e3 => ?_)⟩
              · have e3 : m < 1 := of_decide_eq_true e3
                have z : dFrac (.tuple [.int n, .int m]) = false := by
                  show (decide (1 ≤ m) && decide (Int.gcd n m = 1)) = false
                  rw [decide_eq_false (by omega)]
                  rfl
                rw [z] at q
                exact q
              · have e3 : ¬ m < 1 := of_decide_eq_false e3
                refine ⟨_, rfl, _, rfl, n, m, rfl, by omega, rfl, ?_⟩
                have z : dFrac (.tuple [.int n, .int m]) = decide (V.int ((Int.gcd n m : Nat) : Int) = V.int 1) := by
                  show (decide (1 ≤ m) && decide (Int.gcd n m = 1)) = _
                  rw [decide_eq_true (by omega), Bool.true_and, dI]
                  by_cases y : Int.gcd n m = 1
                  · rw [decide_eq_true y, decide_eq_true (by omega)]
                  · rw [decide_eq_false y, decide_eq_false (by omega)]
                rw [z] at q
                exact q
def sp_is_prime : Sp := fun vs H Q _ => ∃ v d, vs = [v] ∧ Dt H v d ∧ Q (.bl (dPrime d)) H
theorem primeB_out {n : Int} (h : n < 2 ∨ 1000 ≤ n) : primeB n = false := by
  cases e : primeB n with
  | false => rfl
  | true =>
    have := primeB_lo e
    omega
theorem ok_is_prime (T : Txt K mg base z) : FnOk P w K mg base CX0 2 z.a_is_prime z.d_is_prime ["thing"] (sp_is_prime) := by
  refine T.F_is_prime.ok sc_is_prime (fun vs H Q E h => ?_) (fun cdv A outer s H vs Q E hr h => ?_)
  · obtain ⟨v, d, rfl, _⟩ := h
    rfl
  · obtain ⟨v, d, rfl, hd, q⟩ := h
    refine ⟨_, (PSs.nox (pss_cons (ps_if (PW.pt (pw_or (pt_not (pt_val (pe_call (ok_is_whole T) hr (by rfl) T.g_is_whole T.F_is_whole.kp T.b_is_whole .nil pass0 (pa_cons (pv 0) pa_nil)))) (pw_or (pt_cmpR op_lt (pv 0) pe_int (nomark _)) (pw_or1 (pt_cmpR op_ge (pv 0) (pe_glob (v := .int 1000) (by rfl) T.c_PRIME_LIMIT ⟨_, rfl⟩) (nomark _)))))) (pss_one (ps_ret pe_bl)) pss_nil)
      (pss_cons (ps_set (i := 1) sc_is_prime.nd rfl (.inl rfl) pe_int)
      (pss_cons (ps_while PassesOwn.never (pt_cmpR op_le (pe_op op_mulW (pv 1) (pv 1)) (pv 0) (nomark _)) (pss_cons (ps_if (pt_cmpR op_eq (pe_op op_mod (pv 0) (pv 1)) pe_int (nomark _)) (pss_one (ps_ret pe_bl)) pss_nil)
      (pss_one (ps_aug (i := 1) sc_is_prime.nd rfl (.inl rfl) pe_int ip_add))))
      (pss_one (ps_ret pe_bl)))))), ?_⟩
    refine ⟨v, rfl, v, d, rfl, hd, _, rfl, it2 (fun e => ?_) (fun e => ?_)⟩
    · have z : dPrime d = false := by
        cases d <;> first | rfl | exact nomatch e
      rw [z] at q
      exact itT rfl q
    · have e : dWhole d = true := by simpa using e
      obtain ⟨n, rfl⟩ := dWhole_get e
      cases hd
      refine ⟨.int n, rfl, n, 2, rfl, rfl, _, rfl, it2 (fun e1 => ?_) (fun e1 => ?_)⟩
      · rw [show dPrime (.int n) = false from primeB_out (.inl (of_decide_eq_true e1))] at q
        exact itT rfl q
      · have e1 : ¬ n < 2 := of_decide_eq_false e1
        refine ⟨.int n, rfl, n, 1000, rfl, rfl, _, rfl, it2 (fun e2 => ?_) (fun e2 => ?_)⟩
        · rw [show dPrime (.int n) = false from primeB_out (.inr (of_decide_eq_true e2))] at q
          exact q
        · have e2 : ¬ (1000 : Int) ≤ n := of_decide_eq_false e2
          refine ⟨fun c σ H' => ∃ k : Int, σ = [some (.int n), some (.int k)] ∧ H' = H ∧ 2 ≤ k ∧ k ≤ 1000 ∧ (∀ j : Int, 2 ≤ j → j < k → n % j ≠ 0) ∧ c = (1000 - k).toNat, ⟨998, 2, rfl, rfl, by decide, by decide, fun j h1 h2 => by omega, rfl⟩, fun c σ H' hW => ?_⟩
          obtain ⟨k, rfl, rfl, k0, k1, hk, rfl⟩ := hW
          refine ⟨.int k, rfl, .int k, rfl, k, k, rfl, rfl, wide_mul (a := 20) (b := 20) (by omega) (by omega) (by decide) (by decide) (by decide), .int n, rfl, k * k, n, rfl, rfl, _, rfl, it2 (fun e3 => ?_) (fun e3 => ?_)⟩
          · have e3 : k * k ≤ n := of_decide_eq_true e3
            have hk2 : k < 1000 := by
              have : k * 2 ≤ k * k := Int.mul_le_mul_of_nonneg_left k0 (by omega)
              omega
            refine ⟨fun σ2 H2 => σ2 = [some (.int n), some (.int (k + 1))] ∧ H2 = H' ∧ n % k ≠ 0, fun σ2 H2 hn => ?_, ?_⟩
            · obtain ⟨rfl, rfl, hnk⟩ := hn
              refine ⟨(1000 - (k + 1)).toNat, by omega, k + 1, rfl, rfl, by omega, by omega, fun j h1 h2 => ?_, rfl⟩
              by_cases z : j = k
              · rw [z]
                exact hnk
              · exact hk j h1 (by omega)
            · refine ⟨.int n, rfl, .int k, rfl, n, k, rfl, rfl, (show 0 < k by omega), rfl, _, rfl, it2 (fun e4 => ?_) (fun e4 => ?_)⟩
              · rw [dI] at e4
                rw [show dPrime (.int n) = false from primeB_no k0 e3 (of_decide_eq_true e4)] at q
                exact q
              · rw [dI] at e4
                exact ⟨.int k, rfl, k, 1, rfl, rfl, rfl, rfl, of_decide_eq_false e4⟩
          · have e3 : ¬ k * k ≤ n := of_decide_eq_false e3
            rw [show dPrime (.int n) = true from primeB_yes (by omega) (by omega) k0 (by omega) hk] at q
            exact q
def sp_need_fraction : Sp := fun vs H Q _ => ∃ v d, vs = [v] ∧ Dt H v d ∧ dFrac d = true ∧ Q .non H
theorem ok_need_fraction (T : Txt K mg base z) : FnOk P w K mg base CX0 3 z.a_need_fraction z.d_need_fraction ["thing"] (sp_need_fraction) := by
  refine T.F_need_fraction.ok sc_need_fraction (fun vs H Q E h => ?_) (fun cdv A outer s H vs Q E hr h => ?_)
  · obtain ⟨v, d, rfl, _⟩ := h
    rfl
  · obtain ⟨v, d, rfl, hd, e, q⟩ := h
    refine ⟨_, (PSs.nox (pss_one (ps_if (pt_not (pt_val (pe_call (ok_is_fraction T) hr (by rfl) T.g_is_fraction T.F_is_fraction.kp T.b_is_fraction .nil pass0 (pa_cons (pv 0) pa_nil)))) (pss_one (ps_never)) pss_nil))), ?_⟩
    refine ⟨v, rfl, v, d, rfl, hd, _, rfl, ?_⟩
    rw [e]
    exact itF rfl q
def sp_need_prime : Sp := fun vs H Q _ => ∃ v d, vs = [v] ∧ Dt H v d ∧ dPrime d = true ∧ Q .non H
theorem ok_need_prime (T : Txt K mg base z) : FnOk P w K mg base CX0 3 z.a_need_prime z.d_need_prime ["thing"] (sp_need_prime) := by
  refine T.F_need_prime.ok sc_need_prime (fun vs H Q E h => ?_) (fun cdv A outer s H vs Q E hr h => ?_)
  · obtain ⟨v, d, rfl, _⟩ := h
    rfl
  · obtain ⟨v, d, rfl, hd, e, q⟩ := h
    refine ⟨_, (PSs.nox (pss_one (ps_if (pt_not (pt_val (pe_call (ok_is_prime T) hr (by rfl) T.g_is_prime T.F_is_prime.kp T.b_is_prime .nil pass0 (pa_cons (pv 0) pa_nil)))) (pss_one (ps_never)) pss_nil))), ?_⟩
    refine ⟨v, rfl, v, d, rfl, hd, _, rfl, ?_⟩
    rw [e]
    exact itF rfl q
def sp_rest_by : Sp := fun vs H Q _ => ∃ (v : V) (t b p : Int), vs = [v, .int p] ∧ Dt H v (.tuple [.int t, .int b]) ∧ t.natAbs < 2 ^ 250 ∧ primeB p = true ∧ ∀ v' H', Ex H H' → Dt H' v' (restD t b p) → Q v' H'
theorem ok_rest_by (T : Txt K mg base z) : FnOk P w K mg base CX0 3 z.a_rest_by z.d_rest_by ["f", "p"] (sp_rest_by) := by
  refine T.F_rest_by.ok sc_rest_by (fun vs H Q E h => ?_) (fun cdv A outer s H vs Q E hr h => ?_)
  · obtain ⟨v, t, b, p, rfl, _⟩ := h
    rfl
  · obtain ⟨v, t, b, p, rfl, hd, ht, hp, q⟩ := h
    obtain ⟨a, xs, rfl, ha, hx⟩ := hd.tup_get
    have ex := DtAll.ints_eq [t, b] hx
    subst ex
    have lo := primeB_lo hp
    refine ⟨_, (PSs.nox (pss_cons (ps_asg (pv 0) (pg_tup (by rfl) (pgs_cons (pg_name (i := 2) sc_rest_by.nd rfl (.inl rfl)) (pgs_cons (pg_name (i := 3) sc_rest_by.nd rfl (.inl rfl)) pgs_nil))))
      (pss_cons (ps_if (pt_cmpR op_eq (pe_op op_mod (pv 3) (pv 1)) pe_int (nomark _)) (pss_one (ps_ret pe_non)) pss_nil)
      (pss_one (ps_ret (pe_op op_mod (pe_op op_mulW (pv 2) (pe_call (ok_inverse T) hr (by rfl) T.g_inverse T.F_inverse.kp T.b_inverse .nil pass0 (pa_cons (pv 3) (pa_cons (pv 1) pa_nil)))) (pv 1))))))), ?_⟩
    refine ⟨.ref a, rfl, a, _, rfl, .inl (.inl ha), rfl, .int t, [.int b], rfl, .int b, [], rfl, rfl, ?_⟩
    refine ⟨.int b, rfl, .int p, rfl, b, p, rfl, rfl, (show 0 < p by omega), rfl, _, rfl, it2 (fun e => ?_) (fun e => ?_)⟩
    · rw [dI] at e
      have e : b % p = 0 := of_decide_eq_true e
      refine q _ H (Ex.refl H) ?_
      unfold restD
      rw [if_pos e]
      exact .non
    · rw [dI] at e
      have e : b % p ≠ 0 := of_decide_eq_false e
      refine ⟨.int t, rfl, .int b, rfl, .int p, rfl, b, p, rfl, by omega, Nat.lt_of_lt_of_le (show p.natAbs < 2 ^ 20 by omega) (by decide), primeB_gcd hp e, fun r H1 r0 r1 hr e1 => ?_⟩
      obtain ⟨h1, h2, h3, h4⟩ := rest_ok (t := t) hp e hr
      refine ⟨t, r, rfl, rfl, wide_mul (a := 250) (b := 20) ht (by omega) (by decide) (by decide) (by decide), .int p, rfl, t * r, p, rfl, rfl, (show 0 < p by omega), q _ H1 e1 ?_⟩
      rw [h1]
      exact .int _
def sp_rest_of : Sp := fun vs H Q _ => ∃ (v : V) (t b p : Int), vs = [v, .int p] ∧ Dt H v (.tuple [.int t, .int b]) ∧ 1 ≤ b ∧ Int.gcd t b = 1 ∧ t.natAbs < 2 ^ 250 ∧ primeB p = true ∧ ∀ v' H', Ex H H' → Dt H' v' (restD t b p) → Q v' H'
theorem ok_rest_of (T : Txt K mg base z) : FnOk P w K mg base CX0 4 z.a_rest_of z.d_rest_of ["f", "p"] (sp_rest_of) := by
  refine T.F_rest_of.ok sc_rest_of (fun vs H Q E h => ?_) (fun cdv A outer s H vs Q E hr h => ?_)
  · obtain ⟨v, t, b, p, rfl, _⟩ := h
    rfl
  · obtain ⟨v, t, b, p, rfl, hd, hb, hg, ht, hp, q⟩ := h
    refine ⟨_, (PSs.nox (pss_cons (ps_expr (pe_call (ok_need_fraction T) hr (by rfl) T.g_need_fraction T.F_need_fraction.kp T.b_need_fraction .nil pass0 (pa_cons (pv 0) pa_nil)))
      (pss_cons (ps_expr (pe_call (ok_need_prime T) hr (by rfl) T.g_need_prime T.F_need_prime.kp T.b_need_prime .nil pass0 (pa_cons (pv 1) pa_nil)))
      (pss_one (ps_ret (pe_call (ok_rest_by T) hr (by rfl) T.g_rest_by T.F_rest_by.kp T.b_rest_by .nil pass0 (pa_cons (pv 0) (pa_cons (pv 1) pa_nil)))))))), ?_⟩
    refine ⟨v, rfl, v, _, rfl, hd, dFrac_of hb hg, ?_⟩
    refine ⟨.int p, rfl, .int p, .int p, rfl, .int p, hp, ?_⟩
    exact ⟨v, rfl, .int p, rfl, v, t, b, p, rfl, hd, ht, hp, q⟩
theorem restD_noL (t b p : Int) : noL (restD t b p) = true := by
  unfold restD
  split <;> rfl
def sp_rests_of : Sp := fun vs H Q _ => ∃ (v : V) (a : Addr) (t b : Int) (ps : List Int), vs = [v, .ref a] ∧ Dt H v (.tuple [.int t, .int b]) ∧ 1 ≤ b ∧ Int.gcd t b = 1 ∧ t.natAbs < 2 ^ 250 ∧
  H a = some (.lst (ps.map V.int)) ∧ ps.length ≤ 10000 ∧ (∀ p ∈ ps, primeB p = true) ∧ ∀ p H', H p = none → Ex H H' → AccL H' p (ps.map fun p => restD t b p) → Q (.ref p) H'
theorem ok_rests_of (T : Txt K mg base z) : FnOk P w K mg base CX0 4 z.a_rests_of z.d_rests_of ["f", "primes"] (sp_rests_of) := by
  refine T.F_rests_of.ok sc_rests_of (fun vs H Q E h => ?_) (fun cdv A outer s H vs Q E hr h => ?_)
  · obtain ⟨v, a, t, b, ps, rfl, _⟩ := h
    rfl
  · obtain ⟨v, a, t, b, ps, rfl, hd, hb, hg, ht, ha, hl, hp, q⟩ := h
    refine ⟨_, (PSs.nox (pss_cons (ps_expr (pe_call (ok_need_fraction T) hr (by rfl) T.g_need_fraction T.F_need_fraction.kp T.b_need_fraction .nil pass0 (pa_cons (pv 0) pa_nil)))
      (pss_cons (ps_if (pt_not (pt_val (pe_callB (r := rIsi K) call_isi (by rfl) T.m_isinstance (by decide +kernel) (pa_cons (pv 1) (pa_cons (pe_bltn (v := .ty "list") (by rfl) T.m_list (by decide +kernel) rfl) pa_nil))))) (pss_one (ps_never)) pss_nil)
      (pss_cons (ps_for PassesOwn.never rfl (pi_listK K (pv 1)) (pg_name (i := 2) sc_rests_of.nd rfl (.inl rfl)) (pss_one (ps_expr (pe_call (ok_need_prime T) hr (by rfl) T.g_need_prime T.F_need_prime.kp T.b_need_prime .nil pass0 (pa_cons (pv 2) pa_nil)))))
      (pss_one (ps_ret (pe_lc (own := [("p", 2)]) (by rfl) sc_rests_of.nd (pi_listK K (pv 1)) (blkOk_by (own := [("p", 2)]) (N := N_rests_of) (sc := (defScope s_rests_of)) (by decide +kernel)) (fun _ _ _ _ _ => (pg_name (i := 2) sc_rests_of.nd rfl (.inl rfl))) (fun _ _ _ _ _ => pts_nil) (fun _ _ _ _ _ => (pe_call (ok_rest_by T) hr (by rfl) T.g_rest_by T.F_rest_by.kp T.b_rest_by .nil pass0 (pa_cons (pv 0) (pa_cons (pv 2) pa_nil))))))))))), ?_⟩
    refine ⟨v, rfl, v, _, rfl, hd, dFrac_of hb hg, ?_⟩
    have hda : Dt H (.ref a) (.list (ps.map PyData.int)) := .lst ha (DtAll.ints ps)
    refine ⟨.ref a, rfl, _, _, _, _, _, rfl, .ty _, (hda).ty, kit_ty ( kit_lst _), true, rfl, itF rfl ?_⟩
    refine ⟨.ref a, rfl, a, rfl, ⟨_, .inl (.inl ha)⟩, for_list (xs := ps.map V.int) (fun i σ H' => (∃ y2, σ = [some v, some (.ref a), y2]) ∧ H' = H) ⟨⟨none, rfl⟩, rfl⟩ (fun i σ H' _ hP => by rw [hP.2]; exact .inl (.inl ha)) (fun i x σ H' hi hP => ?_) (fun σ H' hP => ?_)⟩
    · obtain ⟨⟨y2, rfl⟩, rfl⟩ := hP
      have hm := List.mem_of_getElem? hi
      obtain ⟨p, hpm, rfl⟩ := List.mem_map.mp hm
      exact ⟨.int p, rfl, .int p, .int p, rfl, .int p, hp p hpm, ⟨_, rfl⟩, rfl⟩
    · obtain ⟨⟨y2, rfl⟩, rfl⟩ := hP
      have e : ps.map (fun p => restD t b p) = ((ps.map PyData.int).filter fun _ => true).map fun x => restD t b (dI0 x) := by
        rw [List.filter_eq_self.mpr (fun _ _ => rfl), List.map_map]
        rfl
      rw [e] at q
      dsimp only
      refine s_retN (en_lcD (H := H') (ds := ps.map PyData.int) (fun _ => true) (fun x => restD t b (dI0 x)) ?hs ?hz ?hw ?ht ?he ?hn) ?hq
      case hq => exact q
      case hs => exact ed_var rfl hda
      case hz =>
        rw [List.length_map]
        omega
      case hw => exact fun _ => rfl
      case ht => exact fun H1 v d _ _ _ H2 _ Q' q' => q' H2 (Ex.refl H2)
      case hn => exact fun d _ _ => restD_noL t b (dI0 d)
      case he =>
        intro H1 v1 d e1 hm hv _ H2 e2 Q' q'
        obtain ⟨p, hpm, rfl⟩ := List.mem_map.mp hm
        cases hv
        exact ⟨v, rfl, .int p, rfl, v, t, b, p, rfl, hd.up (e1.trans e2), ht, hp p hpm, q'⟩
def sp_is_rest : Sp := fun vs H Q _ => ∃ v d p, vs = [v, .int p] ∧ Dt H v d ∧ Q (.bl (dRest p d)) H
theorem ok_is_rest (T : Txt K mg base z) : FnOk P w K mg base CX0 3 z.a_is_rest z.d_is_rest ["thing", "p"] (sp_is_rest) := by
  refine T.F_is_rest.ok sc_is_rest (fun vs H Q E h => ?_) (fun cdv A outer s H vs Q E hr h => ?_)
  · obtain ⟨v, d, p, rfl, _⟩ := h
    rfl
  · obtain ⟨v, d, p, rfl, hd, q⟩ := h
    refine ⟨_, (PSs.nox (pss_one (ps_ret (pe_or (pe_cmpR op_isN (pv 0) pe_non (nomark _)) (pe_one (pe_call (ok_is_whole_below T) hr (by rfl) T.g_is_whole_below T.F_is_whole_below.kp T.b_is_whole_below .nil pass0 (pa_cons (pv 0) (pa_cons (pv 1) pa_nil)))))))), ?_⟩
    refine ⟨v, rfl, rfl, _, rfl, ?_⟩
    rw [hd.non_iff]
    cases d with
    | none => exact itT rfl q
    | int r => exact itF rfl ⟨v, rfl, .int p, rfl, v, _, p, rfl, hd, q⟩
    | bool b => exact itF rfl ⟨v, rfl, .int p, rfl, v, _, p, rfl, hd, q⟩
    | str x => exact itF rfl ⟨v, rfl, .int p, rfl, v, _, p, rfl, hd, q⟩
    | list x => exact itF rfl ⟨v, rfl, .int p, rfl, v, _, p, rfl, hd, q⟩
    | tuple x => exact itF rfl ⟨v, rfl, .int p, rfl, v, _, p, rfl, hd, q⟩
    | dict x => exact itF rfl ⟨v, rfl, .int p, rfl, v, _, p, rfl, hd, q⟩
def sp_is_reading : Sp := fun vs H Q _ => ∃ v d, vs = [v] ∧ Dt H v d ∧ Q (.bl (dReading d)) H
theorem ok_is_reading (T : Txt K mg base z) : FnOk P w K mg base CX0 4 z.a_is_reading z.d_is_reading ["thing"] (sp_is_reading) := by
  refine T.F_is_reading.ok sc_is_reading (fun vs H Q E h => ?_) (fun cdv A outer s H vs Q E hr h => ?_)
  · obtain ⟨v, d, rfl, _⟩ := h
    rfl
  · obtain ⟨v, d, rfl, hd, q⟩ := h
    refine ⟨_, (PSs.nox (pss_one (ps_ret (pe_and (pe_call (ok_is_pair T) (hr.mono (by decide)) (by rfl) T.g_is_pair T.F_is_pair.kp T.b_is_pair .nil pass0 (pa_cons (pv 0) pa_nil)) (pe_and (pe_call (ok_is_prime T) (hr.mono (by decide)) (by rfl) T.g_is_prime T.F_is_prime.kp T.b_is_prime .nil pass0 (pa_cons (pe_ix (r := rIxT K) ix_tup (pv 0) pe_int (fun _ _ => rfl)) pa_nil)) (pe_one (pe_call (ok_is_rest T) hr (by rfl) T.g_is_rest T.F_is_rest.kp T.b_is_rest .nil pass0 (pa_cons (pe_ix (r := rIxT K) ix_tup (pv 0) pe_int (fun _ _ => rfl)) (pa_cons (pe_ix (r := rIxT K) ix_tup (pv 0) pe_int (fun _ _ => rfl)) pa_nil))))))))), ?_⟩
    refine ⟨v, rfl, v, d, rfl, hd, _, rfl, it2 (fun e => ?_) (fun e => ?_)⟩
    · obtain ⟨d1, d2, rfl⟩ := dPair_get e
      obtain ⟨a, xs, rfl, ha, hx⟩ := hd.tup_get
      cases hx with
      | @cons x1 _ _ _ h1 hx => cases hx with
        | @cons x2 _ _ _ h2 hx =>
          cases hx
          refine ⟨.ref a, rfl, a, _, 0, x1, rfl, rfl, st_of ha, rfl, x1, d1, rfl, h1, _, rfl, it2 (fun e1 => ?_) (fun e1 => ?_)⟩
          · obtain ⟨p, rfl⟩ : ∃ p, d1 = .int p := by
              cases d1 <;> first | exact ⟨_, rfl⟩ | exact nomatch e1
            cases h1
            refine ⟨.ref a, rfl, a, _, 1, x2, rfl, rfl, st_of ha, rfl, .ref a, rfl, a, _, 0, .int p, rfl, rfl, st_of ha, rfl, x2, d2, p, rfl, h2, ?_⟩
            have z : dReading (.tuple [.int p, d2]) = dRest p d2 := by
              show (dPrime (.int p) && dRest p d2) = _
              rw [e1]
              rfl
            rw [z] at q
            exact q
          · have z : dReading (.tuple [d1, d2]) = false := by
              show (dPrime d1 && _) = _
              rw [e1]
              rfl
            rw [z] at q
            exact q
    · rw [dReading_pair e] at q
      exact q
def sp_is_readings (P : Addr) : Sp := fun vs H Q _ => ∃ v d, vs = [v] ∧ Dt H v d ∧ H P = some (TabX P) ∧ ∀ H', Ex H H' → Q (.bl (dReadings d)) H'
theorem ok_is_readings (T : Txt K mg base z) : FnOk P w K mg base CX0 8 z.a_is_readings z.d_is_readings ["thing"] (sp_is_readings z.p_is_readings) := by
  refine okT T.F_is_readings T.cd_is_readings sc_is_readings (fun vs H Q E h => ?_) (fun A outer s H vs Q E hr h => ?_)
  · obtain ⟨v, d, rfl, _⟩ := h
    rfl
  · obtain ⟨v, d, rfl, hd, hP, q⟩ := h
    refine ⟨_, (PSs.nox (pss_cons (ps_if (PW.pt (pw_or (pt_not (pt_val (pe_callB (r := rIsi K) call_isi (by rfl) T.m_isinstance (by decide +kernel) (pa_cons (pv 0) (pa_cons (pe_bltn (v := .ty "list") (by rfl) T.m_list (by decide +kernel) rfl) pa_nil))))) (pw_or1 (pt_cmpR op_gt (pe_callB (r := rLenS K) call_len_seq (by rfl) T.m_len (by decide +kernel) (pa_cons (pv 0) pa_nil)) (pe_glob (v := .int 10) (by rfl) T.c_MOST_READINGS ⟨_, rfl⟩) (nomark _))))) (pss_one (ps_ret pe_bl)) pss_nil)
      (pss_cons (ps_if (pt_not (pt_val (pe_allZ (N := ["reading"]) (no := 1) (cap := []) (k := 4) hr (by rfl) T.m_all T.tb_is_readings rfl (genZ_of (by decide +kernel)) (pi_listK K (pv 0)) (by rfl) cap0 (fun _ _ _ _ _ hr => (pgz (i := 0) (by decide +kernel) (by rfl) (by rfl))) (fun _ _ _ _ _ hr => (pe_call (ok_is_reading T) hr (by rfl) T.g_is_reading T.F_is_reading.kp T.b_is_reading .nil pass0 (pa_cons (pv 0) pa_nil)))))) (pss_one (ps_ret pe_bl)) pss_nil)
      (pss_one (ps_ret (pe_cmpR op_eq (pe_callB (r := rLenO w) call_lenO (by rfl) T.m_len (by decide +kernel) (pa_cons (pe_scI (own := [("reading", 1)]) (by rfl) sc_is_readings.nd (pi_listK K (pv 0)) (blkOk_by (own := [("reading", 1)]) (N := N_is_readings) (sc := (defScope s_is_readings)) (by decide +kernel)) (fun _ _ _ _ _ => (pg_name (i := 1) sc_is_readings.nd rfl (.inl rfl))) (fun _ _ _ _ _ => (pe_ix (r := rIxT K) ix_tup (pv 1) pe_int (fun _ _ => rfl)))) pa_nil)) (pe_callB (r := rLenS K) call_len_seq (by rfl) T.m_len (by decide +kernel) (pa_cons (pv 0) pa_nil)) (nomark _))))))), ?_⟩
    have noL : dLst d = false → dReadings d = false := fun e => by
      cases d <;> first | rfl | exact nomatch e
    refine ⟨v, rfl, _, _, _, _, _, rfl, .ty _, (hd).ty, kit_ty ( kit_lst d), dLst d, rfl, ?_⟩
    cases hl : dLst d with
    | false =>
      rw [noL hl] at q
      exact itT rfl (itT rfl (q H (Ex.refl H)))
    | true =>
      obtain ⟨ds, rfl⟩ : ∃ ds, d = .list ds := by
        cases d <;> first | exact ⟨_, rfl⟩ | exact nomatch hl
      obtain ⟨a, xs, rfl, ha, hx⟩ := hd.lst_get
      have hlen := hx.len
      refine itF rfl ⟨.ref a, rfl, a, xs, rfl, .inl (sq_of ha), _, 10, rfl, rfl, _, rfl, it2 (fun e => ?_) (fun e => ?_)⟩
      · have e : (10 : Int) < xs.length := of_decide_eq_true e
        have z : dReadings (.list ds) = false := by
          show (decide (ds.length ≤ 10) && _) = false
          rw [decide_eq_false (by omega)]
          rfl
        rw [z] at q
        exact q H (Ex.refl H)
      · have e : ¬ (10 : Int) < xs.length := of_decide_eq_false e
        -- all(is_reading(reading) for reading in thing)
        have at_ : ∀ {i : Nat} {x : V}, xs[i]? = some x → Dt H x (ds.getD i .none) ∧ ds.getD i .none ∈ ds := fun {i x} hi => by
          obtain ⟨d, hd1, hd2⟩ := hx.get i hi
          rw [List.getD_eq_getElem?_getD, hd1]
          exact ⟨hd2, List.mem_of_getElem? hd1⟩
        refine ⟨.ref a, rfl, a, rfl, ⟨_, sq_of ha⟩, ds.length, (fun i => dReading (ds.getD i .none)), (fun σ => σ.length = 1), hP, rfl, fun i hi => ⟨xs, xs[i], sq_of ha, List.getElem?_eq_getElem (by omega)⟩, ⟨xs, sq_of ha, by omega⟩, fun i σ x H' hi hs hy => ?_, _, rfl, ?_⟩
        · obtain ⟨rfl, hy⟩ := hy
          have hxi := hy xs (sq_of ha)
          refine ⟨x, ?_, x, _, rfl, (at_ hxi).1, rfl, rfl, ?_⟩
          · match σ, hs with
            | [_], _ => rfl
          · show (σ.set 0 (some x)).length = 1
            rw [List.length_set]
            exact hs
        · rw [range_all]
          cases hal : ds.all dReading with
          | false =>
            have z : dReadings (.list ds) = false := by
              show (decide (ds.length ≤ 10) && (ds.all dReading && _)) = false
              rw [hal, Bool.false_and, Bool.and_false]
            rw [z] at q
            exact itT rfl (q H (Ex.refl H))
          | true =>
            refine itF rfl ?_
            have hall := List.all_eq_true.mp hal
            -- len({reading[0] for reading in thing}) == len(thing)
            refine ⟨.ref a, rfl, a, rfl, ⟨_, sq_of ha⟩, ds.length, fstAt ds, by omega, fun D hD => ⟨fun k hk => ?_, ?_⟩⟩
            · have eD : Ex H (upd H D (SetO w D (memD (fstAt ds) k) (cntD (fstAt ds) k))) := Ex.new hD
              refine ⟨⟨xs, sq_of (eD _ _ ha), by omega⟩, fun i hi => ⟨⟨xs, xs[i], sq_of (eD _ _ ha), List.getElem?_eq_getElem (by omega)⟩, fun x H2 hy => ?_⟩⟩
              obtain ⟨rfl, hy⟩ := hy
              have hxi := hy xs (sq_of (eD _ _ ha))
              obtain ⟨hdx, hmem⟩ := at_ hxi
              obtain ⟨p, e2, he2, _, _⟩ := dReading_get (hall _ hmem)
              have hfs : fstAt ds i = p := by
                unfold fstAt
                rw [he2]
                rfl
              rw [he2] at hdx
              obtain ⟨b, ys, rfl, hb, hys⟩ := hdx.tup_get
              obtain ⟨y1, y3, rfl⟩ : ∃ y1 y3, ys = [y1, y3] := by
                have hl2 := hys.len
                match ys, hl2 with
                | [y1, y3], _ => exact ⟨y1, y3, rfl⟩
              obtain rfl : y1 = .int p := by
                cases hys with
                | cons h1 _ => exact h1.int_eq
              refine ⟨rfl, .ref b, rfl, b, _, 0, .int p, rfl, rfl, st_of (eD _ _ hb), rfl, ?_, rfl⟩
              rw [hfs]
            · refine ⟨D, _, _, rfl, upd_same, ?_⟩
              have eD : Ex H (upd H D (SetO w D (memD (fstAt ds) ds.length) (cntD (fstAt ds) ds.length))) := Ex.new hD
              refine ⟨.ref a, rfl, a, xs, rfl, .inl (sq_of (eD _ _ ha)), rfl, ?_⟩
              have z : dReadings (.list ds) = decide (V.int (cntD (fstAt ds) ds.length : Int) = V.int (xs.length : Int)) := by
                show (decide (ds.length ≤ 10) && (ds.all dReading && decide (cntD (fstAt ds) ds.length = ds.length))) = _
                rw [hal, decide_eq_true (show ds.length ≤ 10 by omega), Bool.true_and, Bool.true_and, dI, Bool.eq_iff_iff, decide_eq_true_iff, decide_eq_true_iff]
                omega
              rw [z] at q
              exact q _ eD
def sp_need_readings (P : Addr) : Sp := fun vs H Q _ => ∃ v d, vs = [v] ∧ Dt H v d ∧ H P = some (TabX P) ∧ dReadings d = true ∧ ∀ H', Ex H H' → Q .non H'
theorem ok_need_readings (T : Txt K mg base z) : FnOk P w K mg base CX0 9 z.a_need_readings z.d_need_readings ["thing"] (sp_need_readings z.p_is_readings) := by
  refine T.F_need_readings.ok sc_need_readings (fun vs H Q E h => ?_) (fun cdv A outer s H vs Q E hr h => ?_)
  · obtain ⟨v, d, rfl, _⟩ := h
    rfl
  · obtain ⟨v, d, rfl, hd, hP, e, q⟩ := h
    refine ⟨_, (PSs.nox (pss_one (ps_if (pt_not (pt_val (pe_call (ok_is_readings T) hr (by rfl) T.g_is_readings T.F_is_readings.kp T.b_is_readings .nil pass0 (pa_cons (pv 0) pa_nil)))) (pss_one (ps_never)) pss_nil))), ?_⟩
    refine ⟨v, rfl, v, d, rfl, hd, hP, fun H' e' => ⟨_, rfl, ?_⟩⟩
    rw [e]
    exact itF rfl (q H' e')
def sp_keeps : Sp := fun vs H Q _ => ∃ (v w : V) (t b p : Int) (e : Option Int), vs = [v, w] ∧ Dt H v (.tuple [.int t, .int b]) ∧ Dt H w (.tuple [.int p, oD e]) ∧ b.natAbs < 2 ^ 250 ∧ primeB p = true ∧ (∀ r, e = some r → 0 ≤ r ∧ r < p) ∧ Q (.bl (keepsB t b p e)) H
theorem ok_keeps (T : Txt K mg base z) : FnOk P w K mg base CX0 1 z.a_keeps z.d_keeps ["f", "reading"] (sp_keeps) := by
  refine T.F_keeps.ok sc_keeps (fun vs H Q E h => ?_) (fun cdv A outer s H vs Q E hr h => ?_)
  · obtain ⟨v, w, t, b, p, e, rfl, _⟩ := h
    rfl
  · obtain ⟨v, w, t, b, p, e, rfl, hv, hw, hbs, hp, he, q⟩ := h
    obtain ⟨a, xs, rfl, ha, hx⟩ := hv.tup_get
    have ex := DtAll.ints_eq [t, b] hx
    subst ex
    have lo := primeB_lo hp
    obtain ⟨c, ys, rfl, hc, hys⟩ := hw.tup_get
    obtain rfl : ys = [.int p, oV e] := by
      cases hys with
      | cons h1 hys => cases hys with
        | cons h2 hys =>
          cases hys
          cases h1
          rw [h2.o_get]
    refine ⟨_, (PSs.nox (pss_cons (ps_asg (pv 0) (pg_tup (by rfl) (pgs_cons (pg_name (i := 2) sc_keeps.nd rfl (.inl rfl)) (pgs_cons (pg_name (i := 3) sc_keeps.nd rfl (.inl rfl)) pgs_nil))))
      (pss_cons (ps_asg (pv 1) (pg_tup (by rfl) (pgs_cons (pg_name (i := 4) sc_keeps.nd rfl (.inl rfl)) (pgs_cons (pg_name (i := 5) sc_keeps.nd rfl (.inl rfl)) pgs_nil))))
      (pss_cons (ps_if (pt_cmpR op_isN (pv 5) pe_non (nomark _)) (pss_one (ps_ret (pe_cmpR op_eq (pe_op op_mod (pv 3) (pv 4)) pe_int (nomark _)))) pss_nil)
      (pss_one (ps_ret (pe_cmpR op_eq (pe_op op_mod (pe_op op_sub (pe_op op_mulW (pv 5) (pv 3)) (pv 2)) (pv 4)) pe_int (nomark _)))))))), ?_⟩
    refine ⟨.ref a, rfl, a, _, rfl, .inl (.inl ha), rfl, .int t, [.int b], rfl, .int b, [], rfl, rfl, ?_⟩
    refine ⟨.ref c, rfl, c, _, rfl, .inl (.inl hc), rfl, .int p, [oV e], rfl, oV e, [], rfl, rfl, ?_⟩
    refine ⟨oV e, rfl, rfl, _, rfl, ?_⟩
    cases e with
    | none =>
      refine itT rfl ⟨.int b, rfl, .int p, rfl, b, p, rfl, rfl, (show 0 < p by omega), rfl, ?_⟩
      rw [dI]
      exact q
    | some r =>
      obtain ⟨r0, r1⟩ := he r rfl
      refine itF rfl ⟨.int r, rfl, .int b, rfl, r, b, rfl, rfl, wide_mul (a := 20) (b := 250) (by omega) hbs (by decide) (by decide) (by decide), .int t, rfl, _, _, rfl, rfl, .int p, rfl, _, _, rfl, rfl, (show 0 < p by omega), rfl, ?_⟩
      rw [dI]
      exact q
def sp_not_kept (P : Addr) : Sp := fun vs H Q _ => ∃ (v w : V) (t b : Int) (l : List (Int × Option Int)), vs = [v, w] ∧ Dt H v (.tuple [.int t, .int b]) ∧ 1 ≤ b ∧ Int.gcd t b = 1 ∧ b.natAbs < 2 ^ 250 ∧ Dt H w (.list (rdN l)) ∧ RdN l ∧ H P = some (TabX P) ∧ ∀ D H', H D = none → Ex H H' → AccL H' D (nkD t b l) → Q (.ref D) H'
theorem ok_not_kept (T : Txt K mg base z) : FnOk P w K mg base CX0 10 z.a_not_kept z.d_not_kept ["f", "readings"] (sp_not_kept z.p_is_readings) := by
  refine T.F_not_kept.ok sc_not_kept (fun vs H Q E h => ?_) (fun cdv A outer s H vs Q E hr h => ?_)
  · obtain ⟨v, w, t, b, l, rfl, _⟩ := h
    rfl
  · obtain ⟨v, w, t, b, l, rfl, hv, hb, hg, hbs, hw, hR, hP, q⟩ := h
    refine ⟨_, (PSs.nox (pss_cons (ps_expr (pe_call (ok_need_fraction T) (hr.mono (by decide)) (by rfl) T.g_need_fraction T.F_need_fraction.kp T.b_need_fraction .nil pass0 (pa_cons (pv 0) pa_nil)))
      (pss_cons (ps_expr (pe_call (ok_need_readings T) hr (by rfl) T.g_need_readings T.F_need_readings.kp T.b_need_readings .nil pass0 (pa_cons (pv 1) pa_nil)))
      (pss_one (ps_ret (pe_lc (own := [("place", 2), ("reading", 3)]) (by rfl) sc_not_kept.nd (pi_enum (by rfl) T.m_enumerate (pa_cons (pv 1) pa_nil)) (blkOk_by (own := [("place", 2), ("reading", 3)]) (N := N_not_kept) (sc := (defScope s_not_kept)) (by decide +kernel)) (fun _ _ _ _ _ => (pg_tupK (n := 2) K (by rfl) (pgs_cons (pg_name (i := 2) sc_not_kept.nd rfl (.inl rfl)) (pgs_cons (pg_name (i := 3) sc_not_kept.nd rfl (.inl rfl)) pgs_nil)))) (fun _ _ _ _ _ => (pts_one (pt_not (pt_val (pe_call (ok_keeps T) (hr.mono (by decide)) (by rfl) T.g_keeps T.F_keeps.kp T.b_keeps .nil pass0 (pa_cons (pv 0) (pa_cons (pv 3) pa_nil))))))) (fun _ _ _ _ _ => (pv 2)))))))), ?_⟩
    refine ⟨v, rfl, v, _, rfl, hv, dFrac_of hb hg, ?_⟩
    refine ⟨w, rfl, w, _, rfl, hw, hP, hR.isR, fun H1 e1 => ?_⟩
    show tRet (tLc (iEnum K (tCons (tVar 1) tNil)) (gTup K 2 (gCons (gName 2) (gCons (gName 3) gNil))) (tNot (tB (tCall sp_keeps [] E0 (tCons (tVar 0) (tCons (tVar 3) tNil))))) (tVar 2) [2, 3]) { nx := fun x H' => Q V.non H', rt := Q } [some v, some w, none, none] H1
    refine s_retN (ds := nkD t b l) ?_ (fun p H2 hp e2 a => q p H2 (fresh_back e1 hp) (e1.trans e2) a)
    have hl : (rdN l).length = l.length := List.length_map ..
    have hlen := hR.len
    unfold nkD
    rw [← hl]
    refine en_lcE (fun i x => [some v, some w, some (.int i), some x]) _ PyData.int (eda_cons (ed_var rfl (hw.up e1)) eda_nil) (by omega) (fun i x T H3 Q hT k => ?_) (fun i x => rfl) (fun H3 i x d e3 hd hx => ?_) (fun H3 i x d e3 hd hx _ => ed_int (ev_var rfl)) (fun _ => rfl)
    · have k := k rfl
      rw [show (0 : Int) + (i : Int) = i by omega] at k
      exact ⟨T, _, rfl, .inl (.inl hT), rfl, .int i, [x], rfl, x, [], rfl, rfl, k⟩
    · unfold rdN at hd
      rw [List.getElem?_map] at hd
      cases hq : l[i]? with
      | none =>
        rw [hq] at hd
        cases hd
      | some c =>
        rw [hq] at hd
        have e : PyData.tuple [.int c.1, oD c.2] = d := Option.some.inj hd
        subst e
        rw [atN_get hq]
        obtain ⟨hp, he⟩ := hR.ok c (List.mem_of_getElem? hq)
        exact fun H4 e4 Q k => ⟨v, rfl, x, rfl, v, x, t, b, c.1, c.2, rfl, ((hv.up e1).up e3).up e4, hx.up e4, hbs, hp, he, _, rfl, k H4 (Ex.refl _)⟩
def sp__law_pool (K : PySem.W.Frag) : Sp := fun vs H Q _ => ∃ (sa : Addr) (ns : List Int) (k : Int), vs = [.ref sa, .int k] ∧ SqL K H sa (ns.map V.int) ∧ 0 ≤ k ∧ k < 100 ∧
  ∀ p H', H p = none → Ex H H' → PoolB H' p 1000000000 → Q (.ref p) H'
theorem ok__law_pool (T : Txt K mg base z) : FnOk P w K mg base CX0 1 z.a__law_pool z.d__law_pool ["script", "k"] (sp__law_pool K) := by
  refine T.F__law_pool.ok sc__law_pool (fun vs H Q E h => ?_) (fun cdv A outer s H vs Q E hr h => ?_)
  · obtain ⟨sa, ns, k, rfl, _⟩ := h
    rfl
  · obtain ⟨sa, ns, k, rfl, hS, hk, hk2, q⟩ := h
    refine ⟨_, (PSs.nox (pss_cons (ps_set (i := 2) sc__law_pool.nd rfl (.inl rfl) pe_int)
      (pss_cons (ps_if (pt_cmpR op_lt (pv 1) (pe_callB (r := rLenS K) call_len_seq (by rfl) T.m_len (by decide +kernel) (pa_cons (pv 0) pa_nil)) (nomark _)) (pss_one (ps_set (i := 2) sc__law_pool.nd rfl (.inl rfl) (pe_ix (r := rIxL K) ix_list (pv 0) (pv 1) (fun _ _ => rfl)))) pss_nil)
      (pss_cons (ps_if (pt_cmpR op_ge (pv 2) (pe_op op_pow pe_int pe_int) (nomark _)) (pss_one (ps_ret (pe_lst (pa_cons (pe_op op_sub (pv 2) (pe_op op_pow pe_int pe_int)) (pa_cons pe_int (pa_cons pe_int pa_nil)))))) pss_nil)
      (pss_one (ps_ret (pe_lst (pa_cons (pv 2) (pa_cons pe_int (pa_cons (pe_op op_mul pe_int (pv 1)) pa_nil)))))))))), ?_⟩
    have fin : ∀ cell : Int, (tSeq (tIfS (tTest (tOp (rI0 fun i j => .bl (decide (j ≤ i))) (tVar 2) (tOp (rI CPow fun i j => .int (i ^ j.toNat)) (tC (.int 10)) (tC (.int 18))))) (tRet (tLst (tCons (tOp (rI0 fun i j => .int (i - j)) (tVar 2) (tOp (rI CPow fun i j => .int (i ^ j.toNat)) (tC (.int 10)) (tC (.int 18)))) (tCons (tC (.int 1)) (tCons (tC (.int 0)) tNil))))) tNext) (tRet (tLst (tCons (tVar 2) (tCons (tC (.int 0)) (tCons (tOp (rI CMul fun i j => .int (i * j)) (tC (.int 61)) (tVar 1)) tNil)))))) { nx := fun _ H' => Q .non H', rt := Q } [some (.ref sa), some (.int k), some (.int cell)] H := by
      intro cell
      refine ⟨.int cell, rfl, 10, 18, rfl, rfl, ⟨by decide, by decide, by decide⟩, cell, _, rfl, rfl, _, rfl, it2 (fun e => ?_) (fun e => ?_)⟩
      · refine ⟨.int cell, rfl, 10, 18, rfl, rfl, ⟨by decide, by decide, by decide⟩, cell, _, rfl, rfl, sz_of (Nat.le_of_ble_eq_true rfl), fun p hp => ?_⟩
        exact q p _ hp (Ex.new hp) ⟨_, _, _, upd_same, by decide, by decide⟩
      · refine ⟨.int cell, rfl, .int k, rfl, 61, k, rfl, rfl, .inl ⟨by decide, by decide⟩, sz_of (Nat.le_of_ble_eq_true rfl), fun p hp => ?_⟩
        exact q p _ hp (Ex.new hp) ⟨_, _, _, upd_same, by omega, by omega⟩
    refine ⟨.int k, rfl, .ref sa, rfl, sa, _, rfl, .inl hS, k, _, rfl, rfl, _, rfl, it2 (fun e => ?_) (fun e => ?_)⟩
    · have e : k < ((ns.map V.int).length : Int) := of_decide_eq_true e
      rw [List.length_map] at e
      obtain ⟨cell, g⟩ : ∃ cell, (ns.map V.int)[k.toNat]? = some (.int cell) := by
        refine ⟨ns[k.toNat]'(by omega), ?_⟩
        rw [List.getElem?_map, List.getElem?_eq_getElem (by omega)]
        rfl
      refine ⟨.ref sa, rfl, .int k, rfl, sa, _, k, .int cell, rfl, rfl, hS, ?_, fin cell⟩
      have z : k = ((k.toNat : Nat) : Int) := by omega
      rw [z]
      exact atI_nat (j := k.toNat) g
    · exact fin 0
def sp__law_take : Sp := fun vs H Q _ => ∃ (pa : Addr) (m : Int) (n : Nat), vs = [.ref pa, .int m] ∧ 0 < m ∧ m < 1099511627776 ∧ PoolB H pa (n + 1) ∧
  ∀ v H', 0 ≤ v → v < m → PoolB H' pa n → ExB pa H H' → Q (.int v) H'
theorem ok__law_take (T : Txt K mg base z) : FnOk P w K mg base CX0 1 z.a__law_take z.d__law_take ["pool", "many"] (sp__law_take) := by
  refine T.F__law_take.ok sc__law_take (fun vs H Q E h => ?_) (fun cdv A outer s H vs Q E hr h => ?_)
  · obtain ⟨pa, m, n, rfl, _⟩ := h
    rfl
  · obtain ⟨pa, m, n, rfl, hm, hm2, ⟨a, b, c, hp, hc, hn⟩, q⟩ := h
    have hS : SqL K H pa [.int a, .int b, .int c] := .inl (.inl hp)
    refine ⟨_, (PSs.nox (pss_cons (ps_if (pt_cmpR op_eq (pe_ix (r := rIxL K) ix_list (pv 0) pe_int (fun _ _ => rfl)) pe_int (nomark _)) (pss_cons (ps_set (i := 2) sc__law_take.nd rfl (.inl rfl) (pe_op op_mod (pe_ix (r := rIxL K) ix_list (pv 0) pe_int (fun _ _ => rfl)) (pv 1)))
      (pss_cons (ps_asg (pe_op op_fdivW (pe_ix (r := rIxL K) ix_list (pv 0) pe_int (fun _ _ => rfl)) (pv 1)) (pg_sub (pv 0) pe_int set_list))
      (pss_one (ps_ret (pv 2))))) pss_nil)
      (pss_cons (ps_asg (pe_op op_add (pe_ix (r := rIxL K) ix_list (pv 0) pe_int (fun _ _ => rfl)) pe_int) (pg_sub (pv 0) pe_int set_list))
      (pss_cons (ps_set (i := 3) sc__law_take.nd rfl (.inl rfl) (pe_ix (r := rIxL K) ix_list (pv 0) pe_int (fun _ _ => rfl)))
      (pss_cons (ps_set (i := 4) sc__law_take.nd rfl (.inl rfl) (pe_op op_mulW (pe_op op_add (pe_op op_mod (pe_ix (r := rIxL K) ix_list (pv 0) pe_int (fun _ _ => rfl)) pe_int) pe_int) (pe_op op_add (pe_op op_mul pe_int (pv 3)) pe_int)))
      (pss_cons (ps_set (i := 4) sc__law_take.nd rfl (.inl rfl) (pe_op op_add (pv 4) (pe_op op_mulW (pe_op op_mul pe_int (pv 3)) (pv 3))))
      (pss_cons (ps_set (i := 4) sc__law_take.nd rfl (.inl rfl) (pe_op op_mod (pe_op op_mulW (pv 4) (pv 4)) pe_int))
      (pss_one (ps_ret (pe_op op_mod (pe_op op_fdivW (pe_op op_mod (pe_op op_mulW (pv 4) (pe_op op_add (pv 4) pe_int)) pe_int) pe_int) (pv 1))))))))))), ?_⟩
    refine ⟨.ref pa, rfl, pa, _, 1, .int b, rfl, rfl, hS, rfl, rfl, _, rfl, it2 (fun e => ?_) (fun e => ?_)⟩
    · refine ⟨.ref pa, rfl, pa, _, 0, .int a, rfl, rfl, hS, rfl, .int m, rfl, a, m, rfl, rfl, hm, ?_⟩
      refine ⟨.ref pa, rfl, pa, _, 0, .int a, rfl, rfl, hS, rfl, .int m, rfl, a, m, rfl, rfl, wide_div (b := 40) hm (by omega) (by decide) (by decide), ?_⟩
      refine ⟨.ref pa, rfl, pa, _, 0, 0, rfl, rfl, hp, rfl, ?_⟩
      exact ⟨_, rfl, q _ _ (Int.emod_nonneg a (by omega)) (Int.emod_lt_of_pos a hm) ⟨a / m, b, c, upd_same, hc, by omega⟩ ExB.upd⟩
    · refine ⟨.ref pa, rfl, pa, _, 2, .int c, rfl, rfl, hS, rfl, c, 1, rfl, rfl, ?_⟩
      refine ⟨.ref pa, rfl, pa, _, 2, 2, rfl, rfl, hp, rfl, ?_⟩
      generalize hH2 : upd H pa _ = H2
      have hp2 : H2 pa = some (.lst [.int a, .int b, .int (c + 1)]) := by
        rw [← hH2]
        exact upd_same
      have e2 : ExB pa H H2 := by
        rw [← hH2]
        exact ExB.upd
      have hS2 : SqL K H2 pa [.int a, .int b, .int (c + 1)] := .inl (.inl hp2)
      refine ⟨.ref pa, rfl, pa, _, 2, .int (c + 1), rfl, rfl, hS2, rfl, ?_⟩
      have m1 := Int.emod_nonneg a (show (9999999517 : Int) ≠ 0 by decide)
      have m2 := Int.emod_lt_of_pos a (show (0 : Int) < 9999999517 by decide)
      have w1 : (a % 9999999517 + 1031).natAbs < 2 ^ 40 := by omega
      have w2 : (53 * (c + 1) + 83).natAbs < 2 ^ 60 := by omega
      have w3 : (3607 * (c + 1)).natAbs < 2 ^ 60 := by omega
      have w4 : (c + 1).natAbs < 2 ^ 60 := by omega
      refine ⟨.ref pa, rfl, pa, _, 0, .int a, rfl, rfl, hS2, rfl, a, _, rfl, rfl, (show (0 : Int) < 9999999517 by decide), _, _, rfl, rfl, .int (c + 1), rfl, _, _, rfl, rfl, .inl ⟨by decide, by decide⟩, _, _, rfl, rfl, _, _, rfl, rfl, wide_mul w1 w2 (by decide) (by decide) (by decide), ?_⟩
      have w5 := wide_lt w1 w2
      try dsimp only
      generalize (a % 9999999517 + 1031) * (53 * (c + 1) + 83) = k1 at w5 ⊢
      refine ⟨.int k1, rfl, .int (c + 1), rfl, _, _, rfl, rfl, .inl ⟨by decide, by decide⟩, .int (c + 1), rfl, _, _, rfl, rfl, wide_mul w3 w4 (by decide) (by decide) (by decide), _, _, rfl, rfl, ?_⟩
      have w6 := wide_lt w3 w4
      try dsimp only
      generalize 3607 * (c + 1) * (c + 1) = k2 at w6 ⊢
      have w7 : (k1 + k2).natAbs < 2 ^ 130 := by omega
      try dsimp only
      generalize k1 + k2 = k3 at w7 ⊢
      refine ⟨.int k3, rfl, .int k3, rfl, _, _, rfl, rfl, wide_mul w7 w7 (by decide) (by decide) (by decide), _, _, rfl, rfl, (show (0 : Int) < 99999999563 by decide), ?_⟩
      have m3 := Int.emod_nonneg (k3 * k3) (show (99999999563 : Int) ≠ 0 by decide)
      have m4 := Int.emod_lt_of_pos (k3 * k3) (show (0 : Int) < 99999999563 by decide)
      try dsimp only
      generalize k3 * k3 % 99999999563 = k4 at m3 m4 ⊢
      have w8 : k4.natAbs < 2 ^ 40 := by omega
      have w9 : (k4 + 67).natAbs < 2 ^ 40 := by omega
      refine ⟨.int k4, rfl, .int k4, rfl, _, _, rfl, rfl, _, _, rfl, rfl, wide_mul w8 w9 (by decide) (by decide) (by decide), _, _, rfl, rfl, (show (0 : Int) < 99999999853 by decide), _, _, rfl, rfl, wide_div (b := 40) (by decide) (by decide) (by decide) (by decide), .int m, rfl, _, _, rfl, rfl, hm, ?_⟩
      exact q _ _ (Int.emod_nonneg _ (by omega)) (Int.emod_lt_of_pos _ hm) ⟨a, b, c + 1, hp2, by omega, by omega⟩ e2
def sp__law_far : Sp := fun vs H Q _ => ∃ (pa : Addr) (m n : Nat), vs = [.ref pa, .int (m : Int)] ∧ m ≤ 5 ∧ PoolB H pa (n + m) ∧ ∀ v H', 0 ≤ v → v < big m → PoolB H' pa n → ExB pa H H' → Q (.int v) H'
theorem ok__law_far (T : Txt K mg base z) : FnOk P w K mg base CX0 2 z.a__law_far z.d__law_far ["pool", "turns"] (sp__law_far) := by
  refine T.F__law_far.ok sc__law_far (fun vs H Q E h => ?_) (fun cdv A outer s H vs Q E hr h => ?_)
  · obtain ⟨pa, m, n, rfl, _⟩ := h
    rfl
  · obtain ⟨pa, m, n, rfl, hm, pb, q⟩ := h
    refine ⟨_, (PSs.nox (pss_cons (ps_set (i := 2) sc__law_far.nd rfl (.inl rfl) pe_int)
      (pss_cons (ps_for PassesOwn.never rfl (pi_range1 (by rfl) T.m_range (pa_cons (pv 1) pa_nil)) (pg_name (i := 3) sc__law_far.nd rfl (.inl rfl)) (pss_one (ps_set (i := 2) sc__law_far.nd rfl (.inl rfl) (pe_op op_add (pe_op op_mulW (pv 2) (pe_op op_pow pe_int pe_int)) (pe_call (ok__law_take T) hr (by rfl) T.g__law_take T.F__law_take.kp T.b__law_take .nil pass0 (pa_cons (pv 0) (pa_cons (pe_op op_pow pe_int pe_int) pa_nil)))))))
      (pss_one (ps_ret (pv 2)))))), ?_⟩
    refine ⟨.int (m : Int), rfl, (m : Int), rfl, by omega, by omega, for_range (lo := 0) (n := (m : Int).toNat) (fun i σ H' => (∃ v y3, σ = [some (.ref pa), some (.int (m : Int)), some (.int v), y3] ∧ 0 ≤ v ∧ v < big i) ∧ i ≤ m ∧ PoolB H' pa (n + (m - i)) ∧ ExB pa H H') ⟨⟨0, none, rfl, by decide, by decide⟩, Nat.zero_le _, pb, ExB.refl _ _⟩ (fun i σ H1 hi hP => ?_) (fun σ H1 hP => ?_)⟩
    · obtain ⟨⟨v, y3, rfl, v0, v1⟩, hi2, pb1, e1⟩ := hP
      have hi3 : i < m := by omega
      have hb := big_le i (by omega)
      refine ⟨.int v, rfl, 10, 6, rfl, rfl, ⟨by decide, by decide, by decide⟩, v, 10 ^ (6 : Int).toNat, rfl, rfl, wide_mul (a := 100) (b := 20) (by omega) (by decide) (by decide) (by decide) (by decide), ?_⟩
      refine ⟨.ref pa, rfl, 10, 6, rfl, rfl, ⟨by decide, by decide, by decide⟩, pa, 10 ^ (6 : Int).toNat, n + (m - (i + 1)), rfl, by decide, by decide, ?_, fun w H2 w0 w1 pb2 e2 => ?_⟩
      · rw [show n + (m - (i + 1)) + 1 = n + (m - i) by omega]
        exact pb1
      · have w1 : w < 1000000 := w1
        obtain ⟨g0, g1⟩ := big_far v0 v1 w0 w1
        exact ⟨_, _, rfl, rfl, ⟨v * 1000000 + w, _, rfl, g0, g1⟩, hi3, pb2, e1.trans e2⟩
    · obtain ⟨⟨v, y3, rfl, v0, v1⟩, hi2, pb1, e1⟩ := hP
      rw [show (m : Int).toNat = m by omega] at v1 pb1
      rw [show n + (m - m) = n by omega] at pb1
      exact ⟨.int v, rfl, q v H1 v0 v1 pb1 e1⟩
def sp__law_all_primes : Sp := fun vs H Q _ => vs = [] ∧ ∀ p H', H p = none → Ex H H' → AccL H' p (primesL.map PyData.int) → Q (.ref p) H'
theorem ok__law_all_primes (T : Txt K mg base z) : FnOk P w K mg base CX0 1 z.a__law_all_primes z.d__law_all_primes [] (sp__law_all_primes) := by
  refine T.F__law_all_primes.ok sc__law_all_primes (fun vs H Q E h => ?_) (fun cdv A outer s H vs Q E hr h => ?_)
  · obtain ⟨rfl, _⟩ := h
    rfl
  · obtain ⟨rfl, q⟩ := h
    refine ⟨_, (PSs.nox (pss_one (ps_ret (pe_lc (own := [("p", 0)]) (by rfl) sc__law_all_primes.nd (pi_range2 (by rfl) T.m_range (pa_cons pe_int (pa_cons pe_int pa_nil))) (blkOk_by (own := [("p", 0)]) (N := N__law_all_primes) (sc := (defScope s__law_all_primes)) (by decide +kernel)) (fun _ _ _ _ _ => (pg_name (i := 0) sc__law_all_primes.nd rfl (.inr rfl))) (fun _ _ _ _ _ => (pts_one (pt_cmpR (r := rEqD K) (op_eqD hr.units) (pe_lc (own := [("d", 1)]) (by rfl) sc__law_all_primes.nd (pi_range2 (by rfl) T.m_range (pa_cons pe_int (pa_cons pe_int pa_nil))) (blkOk_by (own := [("d", 1)]) (N := N__law_all_primes) (sc := (relS ({ kind := .function, names := [(".0", .local), ("p", .cell), ("range", .globalImplicit)], isGenerator := false, isCoroutine := false, more := [] } : Scope) (defScope s__law_all_primes))) (by decide +kernel)) (fun _ _ _ _ _ => (pg_name (i := 1) sc__law_all_primes.nd rfl (.inl rfl))) (fun _ _ _ _ _ => (pts_one (PW.pt (pw_and (pt_cmpR op_eq (pe_op op_mod (pv 0) (pv 1)) pe_int (nomark _)) (pw_and1 (pt_cmpR op_lt (pv 1) (pv 0) (nomark _))))))) (fun _ _ _ _ _ => (pv 1))) (pe_lst pa_nil) (nomark _)))) (fun _ _ _ _ _ => (pv 0)))))), ?_⟩
    refine s_retN (ds := primesL.map PyData.int) ?_ q
    refine en_lcR2 (lo := 2) (hi := 1000) (fun p => ((irng 2 32).filter fun d => decide (p % d = 0) && decide (d < p)).isEmpty) PyData.int (ea_cons ev_c (ea_cons ev_c ea_nil)) ⟨by decide, by decide, by decide, by decide, by decide⟩ ?hw ?ht ?he ?hn
    case hw => exact fun _ => rfl
    case he => exact fun x _ _ _ => ed_int (ev_var rfl)
    case hn => exact fun _ _ _ _ => rfl
    case ht =>
      intro p p0 p1
      have hN := en_lcR2 (ta := tCons (tC (.int 2)) (tCons (tC (.int 32)) tNil)) (j := 1) (vs := [1]) (σ := [some (.int p), none]) (H := H) (t := tAnd (tTest (tOp rEq (tOp (rI (fun _ j => 0 < j) fun i j => .int (i % j)) (tVar 0) (tVar 1)) (tC (.int 0)))) (tTest (tOp (rI0 fun i j => .bl (decide (i < j))) (tVar 1) (tVar 0)))) (te := tVar 1) (lo := 2) (hi := 32)
        (fun d => decide (p % d = 0) && decide (d < p)) PyData.int (ea_cons ev_c (ea_cons ev_c ea_nil)) ⟨by decide, by decide, by decide, by decide, by decide⟩ (fun _ => rfl) (fun d d0 d1 => ?_) (fun d _ _ _ => ed_int (ev_var rfl)) (fun _ _ _ _ => rfl)
      · have h := ev_eqNil (K := K) hN (shaped_ints _)
        rw [show (((irng 2 32).filter fun d => decide (p % d = 0) && decide (d < p)).map PyData.int).isEmpty = ((irng 2 32).filter fun d => decide (p % d = 0) && decide (d < p)).isEmpty from by cases ((irng 2 32).filter fun d => decide (p % d = 0) && decide (d < p)) <;> rfl] at h
        exact et_test h
      · have h := rv_eq (H := H) (x := .int (p % d)) (y := .int 0) rfl
        rw [dI] at h
        exact et_and (et_test (ev_op (ev_op (ev_var (v := .int p) rfl) (ev_var (v := .int d) rfl) (rv_I (C := fun _ j => 0 < j) (show (0 : Int) < d by omega))) ev_c h)) fun _ => et_test (ev_op (ev_var (v := .int d) rfl) (ev_var (v := .int p) rfl) rv_I0)
def sp__law_prime : Sp := fun vs H Q _ => ∃ (pa la : Addr) (n : Nat), vs = [.ref pa, .ref la] ∧ H la = some (.lst (primesL.map V.int)) ∧ la ≠ pa ∧ PoolB H pa (n + 2) ∧ ∀ p H', p ∈ primesL → PoolB H' pa n → ExB pa H H' → Q (.int p) H'
theorem ok__law_prime (T : Txt K mg base z) : FnOk P w K mg base CX0 2 z.a__law_prime z.d__law_prime ["pool", "primes"] (sp__law_prime) := by
  refine T.F__law_prime.ok sc__law_prime (fun vs H Q E h => ?_) (fun cdv A outer s H vs Q E hr h => ?_)
  · obtain ⟨pa, la, n, rfl, _⟩ := h
    rfl
  · obtain ⟨pa, la, n, rfl, hl, hne, pb, q⟩ := h
    refine ⟨_, (PSs.nox (pss_cons (ps_set (i := 2) sc__law_prime.nd rfl (.inl rfl) (pe_call (ok__law_take T) hr (by rfl) T.g__law_take T.F__law_take.kp T.b__law_take .nil pass0 (pa_cons (pv 0) (pa_cons pe_int pa_nil))))
      (pss_cons (ps_if (pt_cmpR op_eq (pv 2) pe_int (nomark _)) (pss_one (ps_ret (pe_ix (r := rIxL K) ix_list (pv 1) (pe_call (ok__law_take T) hr (by rfl) T.g__law_take T.F__law_take.kp T.b__law_take .nil pass0 (pa_cons (pv 0) (pa_cons pe_int pa_nil))) (fun _ _ => rfl)))) pss_nil)
      (pss_cons (ps_if (pt_cmpR op_eq (pv 2) pe_int (nomark _)) (pss_one (ps_ret (pe_ix (r := rIxL K) ix_list (pv 1) (pe_call (ok__law_take T) hr (by rfl) T.g__law_take T.F__law_take.kp T.b__law_take .nil pass0 (pa_cons (pv 0) (pa_cons pe_int pa_nil))) (fun _ _ => rfl)))) pss_nil)
      (pss_one (ps_ret (pe_ix (r := rIxL K) ix_list (pv 1) (pe_op op_sub pe_int (pe_call (ok__law_take T) hr (by rfl) T.g__law_take T.F__law_take.kp T.b__law_take .nil pass0 (pa_cons (pv 0) (pa_cons pe_int pa_nil)))) (fun _ _ => rfl)))))))), ?_⟩
    refine ⟨.ref pa, rfl, pa, 3, n + 1, rfl, by decide, by decide, pb, fun way H1 l1 u1 pb1 e1 => ?_⟩
    have hl1 := e1 _ _ hne hl
    have fin : ∀ (v : Int) (H2 : Hp), 0 ≤ v → v < 168 → PoolB H2 pa n → ExB pa H1 H2 → rIxL K (.ref la) (.int v) H2 Q := fun v H2 v0 v1 pb2 e2 => by
      obtain ⟨p, h1, h2⟩ := primesL_get (i := v.toNat) (by omega)
      refine ⟨la, _, v, .int p, rfl, rfl, .inl (.inl (e2 _ _ hne hl1)), ?_, q p H2 h2 pb2 (e1.trans e2)⟩
      rw [show v = ((v.toNat : Nat) : Int) by omega]
      exact atI_nat (j := v.toNat) h1
    refine ⟨.int way, rfl, rfl, _, rfl, it2 (fun _ => ?_) (fun c1 => ?_)⟩
    · exact ⟨.ref la, rfl, .ref pa, rfl, pa, 8, n, rfl, by decide, by decide, pb1, fun v H2 l2 u2 pb2 e2 => fin v H2 l2 (by omega) pb2 e2⟩
    refine ⟨.int way, rfl, rfl, _, rfl, it2 (fun _ => ?_) (fun c2 => ?_)⟩
    · exact ⟨.ref la, rfl, .ref pa, rfl, pa, 168, n, rfl, by decide, by decide, pb1, fun v H2 l2 u2 pb2 e2 => fin v H2 l2 (by omega) pb2 e2⟩
    · exact ⟨.ref la, rfl, .ref pa, rfl, pa, 12, n, rfl, by decide, by decide, pb1, fun v H2 l2 u2 pb2 e2 => ⟨167, v, rfl, rfl, fin (167 - v) H2 (by omega) (by omega) pb2 e2⟩⟩
/-- [_law_prime(pool, primes) for turn in range(m)] -/
theorem lc_primes {ta : TA} {j ip il : Nat} {σ : L2.St} {H : Hp} {pa la : Addr} {m : Int} {n : Nat} {Q : VK} (hA : EvA ta σ H [.int m]) (hm : 0 ≤ m ∧ m ≤ 1000) (hw : ∀ x, wipe ((wipe σ [j]).set j (some x)) [j] = wipe σ [j])
    (hi : ∀ x, ((wipe σ [j]).set j (some x))[ip]? = some (some (.ref pa))) (hil : ∀ x, ((wipe σ [j]).set j (some x))[il]? = some (some (.ref la))) (hl : H la = some (.lst (primesL.map V.int))) (hne : la ≠ pa) (pb : PoolB H pa (n + 2 * m.toNat))
    (q : ∀ (D : Addr) (qs : List Int) (H' : Hp), H D = none → qs.length = m.toNat → (∀ x ∈ qs, x ∈ primesL) → H' D = some (.lst (qs.map V.int)) → PoolB H' pa n → ExB pa H H' → Q (.ref D) H') :
    tLc (iRng1 ta) (gName j) tYes (tCall sp__law_prime [] E0 (tCons (tVar ip) (tCons (tVar il) tNil))) [j] σ H Q := hA H (Ex.refl H) _ fun H1 e1 => by
  refine ⟨m, rfl, by omega, by omega, fun D hD => lc_range (lo := 0) (n := m.toNat) (fun i H' => ∃ qs : List Int, qs.length = i ∧ (∀ x ∈ qs, x ∈ primesL) ∧ H' D = some (.lst (qs.map V.int)) ∧ i ≤ m.toNat ∧ PoolB H' pa (n + 2 * (m.toNat - i)) ∧ ExB pa H H')
    ⟨[], rfl, (fun x hx => nomatch hx), upd_same, Nat.zero_le _, (pb.up e1).dr hD, ExB.of (e1.trans (Ex.new hD))⟩ (fun i H2 hi2 hP => ?_) (fun H2 hP => ?_)⟩
  · obtain ⟨qs, h1, h2, h3, h4, pb2, e2⟩ := hP
    refine ⟨hw _, ?_⟩
    have hDp : D ≠ pa := (pb.up e1).ne hD
    refine ⟨.ref pa, hi _, .ref la, hil _, pa, la, n + 2 * (m.toNat - (i + 1)), rfl, e2 _ _ hne hl, hne, ?_, fun p H4 hp pb4 e4 => ?_⟩
    · rw [show n + 2 * (m.toNat - (i + 1)) + 2 = n + 2 * (m.toNat - i) by omega]
      exact pb2
    · refine ⟨_, e4 _ _ hDp h3, sz_lt ?_, qs ++ [p], ?_, ?_, ?_, by omega, ?_, ?_⟩
      · rw [List.length_map]
        omega
      · rw [List.length_append, h1]
        rfl
      · intro x hx
        rcases List.mem_append.mp hx with z | z
        · exact h2 x z
        · rcases List.mem_cons.mp z with z | z
          · rw [z]
            exact hp
          · cases z
      · rw [upd_same, List.map_append]
        rfl
      · obtain ⟨a, b, c, h, k⟩ := pb4
        exact ⟨a, b, c, by rw [upd_ne (Ne.symm hDp)]; exact h, k⟩
      · intro x o hx hox
        have hxD : x ≠ D := ne_of_none hox (fresh_back e1 hD)
        rw [upd_ne hxD]
        exact e4 _ _ hx (e2 _ _ hx hox)
  · obtain ⟨qs, h1, h2, h3, h4, pb2, e2⟩ := hP
    rw [show n + 2 * (m.toNat - m.toNat) = n by omega] at pb2
    exact q D qs H2 (fresh_back e1 hD) h1 h2 h3 pb2 e2
def sp__law_shared : Sp := fun vs H Q _ => ∃ a b : Int, vs = [.int a, .int b] ∧ Q (.int (Int.gcd a b)) H
theorem gcd_abs (a b : Int) : Int.gcd (if a < 0 then -a else a) (if b < 0 then -b else b) = Int.gcd a b := by
  rw [Int.gcd_eq_natAbs_gcd_natAbs, Int.gcd_eq_natAbs_gcd_natAbs]
  congr 1
  · split <;> omega
  · split <;> omega
theorem ok__law_shared (T : Txt K mg base z) : FnOk P w K mg base CX0 1 z.a__law_shared z.d__law_shared ["one", "other"] (sp__law_shared) := by
  refine T.F__law_shared.ok sc__law_shared (fun vs H Q E h => ?_) (fun cdv A outer s H vs Q E hr h => ?_)
  · obtain ⟨a, b, rfl, _⟩ := h
    rfl
  · obtain ⟨a, b, rfl, q⟩ := h
    refine ⟨_, (PSs.nox (pss_cons (ps_set (i := 0) sc__law_shared.nd rfl (.inl rfl) (pe_callB call_abs (by rfl) T.m_abs (by decide +kernel) (pa_cons (pv 0) pa_nil)))
      (pss_cons (ps_set (i := 1) sc__law_shared.nd rfl (.inl rfl) (pe_callB call_abs (by rfl) T.m_abs (by decide +kernel) (pa_cons (pv 1) pa_nil)))
      (pss_cons (ps_while PassesOwn.never (pt_cmpR op_gt (pv 1) pe_int (nomark _)) (pss_one (ps_par (i := 0) (j := 1) (by rfl) sc__law_shared.nd rfl rfl (by decide) rfl rfl (pa_cons (pv 1) (pa_cons (pe_op op_mod (pv 0) (pv 1)) pa_nil)) (by rfl))))
      (pss_one (ps_ret (pv 0))))))), ?_⟩
    refine ⟨.int a, rfl, a, rfl, .int b, rfl, b, rfl, ?_⟩
    rw [← gcd_abs] at q
    have ha : 0 ≤ (if a < 0 then -a else a) := by split <;> omega
    have hb : 0 ≤ (if b < 0 then -b else b) := by split <;> omega
    show tSeq _ _ _ [some (.int (if a < 0 then -a else a)), some (.int (if b < 0 then -b else b))] H
    generalize (if a < 0 then -a else a) = a' at ha q
    generalize (if b < 0 then -b else b) = b' at hb q
    refine ⟨fun m σ H' => ∃ x y : Int, σ = [some (.int x), some (.int y)] ∧ H' = H ∧ 0 ≤ y ∧ 0 ≤ x ∧ Int.gcd x y = Int.gcd a' b' ∧ m = y.toNat, ⟨b'.toNat, a', b', rfl, rfl, hb, ha, rfl, rfl⟩, fun m σ H' hW => ?_⟩
    obtain ⟨x, y, rfl, rfl, hy, hx, hg, rfl⟩ := hW
    refine ⟨.int y, rfl, y, 0, rfl, rfl, _, rfl, it2 (fun e => ?_) (fun e => ?_)⟩
    · have e : (0 : Int) < y := of_decide_eq_true e
      refine ⟨fun σ2 H2 => σ2 = [some (.int y), some (.int (x % y))] ∧ H2 = H', fun σ2 H2 hn => ?_, ?_⟩
      · obtain ⟨rfl, rfl⟩ := hn
        have h1 : 0 ≤ x % y := Int.emod_nonneg x (by omega)
        have h2 : x % y < y := Int.emod_lt_of_pos x e
        exact ⟨(x % y).toNat, by omega, y, x % y, rfl, rfl, h1, hy, by rw [gcd_step, hg], rfl⟩
      · exact ⟨.int y, rfl, .int x, rfl, .int y, rfl, x, y, rfl, rfl, e, _, _, rfl, rfl, rfl⟩
    · have e : ¬ (0 : Int) < y := of_decide_eq_false e
      have e : y = 0 := by omega
      subst e
      refine ⟨.int x, rfl, ?_⟩
      rw [← hg, Int.gcd_zero_right] at q
      rw [show x = ((x.natAbs : Nat) : Int) by omega]
      exact q
def sp__law_low : Sp := fun vs H Q _ => ∃ t b : Int, vs = [.int t, .int b] ∧ b ≠ 0 ∧ b.natAbs < 2 ^ 200 ∧ ∀ (t' b' k : Int) p H', 1 ≤ b' → Int.gcd t' b' = 1 → t = t' * k → b = b' * k → k ≠ 0 → H p = none → Ex H H' → H' p = some (.tup [.int t', .int b']) → Q (.ref p) H'
theorem ok__law_low (T : Txt K mg base z) : FnOk P w K mg base CX0 2 z.a__law_low z.d__law_low ["top", "bottom"] (sp__law_low) := by
  refine T.F__law_low.ok sc__law_low (fun vs H Q E h => ?_) (fun cdv A outer s H vs Q E hr h => ?_)
  · obtain ⟨t, b, rfl, _⟩ := h
    rfl
  · obtain ⟨t, b, rfl, hb, hz, q⟩ := h
    refine ⟨_, (PSs.nox (pss_cut (ps_if (pt_cmpR op_lt (pv 1) pe_int (nomark _)) (pss_cons (ps_set (i := 0) sc__law_low.nd rfl (.inl rfl) (pe_op op_sub pe_int (pv 0)))
      (pss_one (ps_set (i := 1) sc__law_low.nd rfl (.inl rfl) (pe_op op_sub pe_int (pv 1))))) pss_nil)
      (pss_cons (ps_set (i := 2) sc__law_low.nd rfl (.inl rfl) (pe_call (ok__law_shared T) hr (by rfl) T.g__law_shared T.F__law_shared.kp T.b__law_shared .nil pass0 (pa_cons (pv 0) (pa_cons (pv 1) pa_nil))))
      (pss_one (ps_ret (pe_tup (pa_cons (pe_op op_fdivW (pv 0) (pv 2)) (pa_cons (pe_op op_fdivW (pv 1) (pv 2)) pa_nil)))))))), ?_⟩
    refine ⟨fun σ H' => H' = H ∧ ∃ (t1 b1 s : Int), σ = [some (.int t1), some (.int b1), none] ∧ 0 < b1 ∧ (s = 1 ∨ s = -1) ∧ t = s * t1 ∧ b = s * b1, ?_, fun σ H1 hM => ?_⟩
    · refine ⟨.int b, rfl, b, 0, rfl, rfl, _, rfl, it2 (fun e => ?_) (fun e => ?_)⟩
      · have e : b < 0 := of_decide_eq_true e
        exact ⟨.int t, rfl, 0, t, rfl, rfl, .int b, rfl, 0, b, rfl, rfl, rfl, 0 - t, 0 - b, -1, rfl, by omega, .inr rfl, by omega, by omega⟩
      · have e : ¬ b < 0 := of_decide_eq_false e
        exact ⟨rfl, t, b, 1, rfl, by omega, .inl rfl, by omega, by omega⟩
    obtain ⟨rfl, t1, b1, s, rfl, h0, hs, e1, e2⟩ := hM
    have d1 := Int.gcd_dvd_left t1 b1
    have d2 := Int.gcd_dvd_right t1 b1
    have g0 : Int.gcd t1 b1 ≠ 0 := fun e => by
      rw [e] at d2
      have := Int.zero_dvd.mp d2
      omega
    have gle : (Int.gcd t1 b1 : Int) ≤ b1 := Int.le_of_dvd h0 d2
    have hb1 : b1.natAbs = b.natAbs := by rcases hs with rfl | rfl <;> omega
    have gp : 0 < (Int.gcd t1 b1 : Int) := by omega
    have wd : ∀ x : Int, CDivW x (Int.gcd t1 b1 : Int) := fun x => wide_div (b := 200) gp (by omega) (by decide) (by decide)
    have h5 := Int.gcd_ediv_gcd_ediv_gcd (i := t1) (j := b1) (by omega)
    have k1 := Int.ediv_mul_cancel d1
    have k2 := Int.ediv_mul_cancel d2
    generalize hg : (Int.gcd t1 b1 : Int) = g at *
    refine ⟨.int t1, rfl, .int b1, rfl, t1, b1, rfl, ?_⟩
    rw [hg]
    refine ⟨.int t1, rfl, .int g, rfl, t1, g, rfl, rfl, wd _, .int b1, rfl, .int g, rfl, b1, g, rfl, rfl, wd _, sz_of (Nat.le_of_ble_eq_true rfl), fun p hp => q (t1 / g) (b1 / g) (s * g) p _ ?_ h5 ?_ ?_ ?_ hp (Ex.new hp) upd_same⟩
    · have : ¬ b1 / g ≤ 0 := fun y => by
        have := Int.mul_le_mul_of_nonneg_right y (show 0 ≤ g by omega)
        omega
      omega
    · rw [e1, ← Int.mul_assoc, Int.mul_comm _ s, Int.mul_assoc, k1]
    · rw [e2, ← Int.mul_assoc, Int.mul_comm _ s, Int.mul_assoc, k2]
    · rcases hs with rfl | rfl <;> omega
def sp__law_fraction : Sp := fun vs H Q _ => ∃ (pa la : Addr) (n : Nat), vs = [.ref pa, .ref la] ∧ H la = some (.lst (primesL.map V.int)) ∧ la ≠ pa ∧ PoolB H pa (n + 30) ∧
  ∀ (t b : Int) (p : Addr) H', FracOk t b → PoolB H' pa n → ExB pa H H' → H p = none → H' p = some (.tup [.int t, .int b]) → Q (.ref p) H'
theorem ok__law_fraction (T : Txt K mg base z) : FnOk P w K mg base CX0 3 z.a__law_fraction z.d__law_fraction ["pool", "primes"] (sp__law_fraction) := by
  refine T.F__law_fraction.ok sc__law_fraction (fun vs H Q E h => ?_) (fun cdv A outer s H vs Q E hr h => ?_)
  · obtain ⟨pa, la, n, rfl, _⟩ := h
    rfl
  · obtain ⟨pa, la, n, rfl, hl, hne, pb, q⟩ := h
    refine ⟨_, (PSs.nox (pss_cons (ps_set (i := 2) sc__law_fraction.nd rfl (.inl rfl) (pe_ix (r := rIxL K) ix_list (pe_lst (pa_cons (pe_call (ok__law_take T) (hr.mono (by decide)) (by rfl) T.g__law_take T.F__law_take.kp T.b__law_take .nil pass0 (pa_cons (pv 0) (pa_cons pe_int pa_nil))) (pa_cons (pe_call (ok__law_take T) (hr.mono (by decide)) (by rfl) T.g__law_take T.F__law_take.kp T.b__law_take .nil pass0 (pa_cons (pv 0) (pa_cons pe_int pa_nil))) (pa_cons (pe_op op_fdivW (pe_call (ok__law_far T) hr (by rfl) T.g__law_far T.F__law_far.kp T.b__law_far .nil pass0 (pa_cons (pv 0) (pa_cons pe_int pa_nil))) pe_int) pa_nil)))) (pe_call (ok__law_take T) (hr.mono (by decide)) (by rfl) T.g__law_take T.F__law_take.kp T.b__law_take .nil pass0 (pa_cons (pv 0) (pa_cons pe_int pa_nil))) (fun _ _ => rfl)))
      (pss_cons (ps_set (i := 3) sc__law_fraction.nd rfl (.inl rfl) (pe_op op_add pe_int (pe_ix (r := rIxL K) ix_list (pe_lst (pa_cons (pe_call (ok__law_take T) (hr.mono (by decide)) (by rfl) T.g__law_take T.F__law_take.kp T.b__law_take .nil pass0 (pa_cons (pv 0) (pa_cons pe_int pa_nil))) (pa_cons (pe_call (ok__law_take T) (hr.mono (by decide)) (by rfl) T.g__law_take T.F__law_take.kp T.b__law_take .nil pass0 (pa_cons (pv 0) (pa_cons pe_int pa_nil))) (pa_cons (pe_op op_fdivW (pe_call (ok__law_far T) hr (by rfl) T.g__law_far T.F__law_far.kp T.b__law_far .nil pass0 (pa_cons (pv 0) (pa_cons pe_int pa_nil))) pe_int) pa_nil)))) (pe_call (ok__law_take T) (hr.mono (by decide)) (by rfl) T.g__law_take T.F__law_take.kp T.b__law_take .nil pass0 (pa_cons (pv 0) (pa_cons pe_int pa_nil))) (fun _ _ => rfl))))
      (pss_cons (ps_set (i := 4) sc__law_fraction.nd rfl (.inl rfl) (pe_call (ok__law_take T) (hr.mono (by decide)) (by rfl) T.g__law_take T.F__law_take.kp T.b__law_take .nil pass0 (pa_cons (pv 0) (pa_cons pe_int pa_nil))))
      (pss_cut (ps_if (pt_cmpR op_eq (pv 4) pe_int (nomark _)) (pss_one (ps_set (i := 2) sc__law_fraction.nd rfl (.inl rfl) (pe_op op_mulW (pe_call (ok__law_prime T) hr (by rfl) T.g__law_prime T.F__law_prime.kp T.b__law_prime .nil pass0 (pa_cons (pv 0) (pa_cons (pv 1) pa_nil))) (pe_call (ok__law_take T) (hr.mono (by decide)) (by rfl) T.g__law_take T.F__law_take.kp T.b__law_take .nil pass0 (pa_cons (pv 0) (pa_cons pe_int pa_nil)))))) pss_nil)
      (pss_cut (ps_if (pt_cmpR op_eq (pv 4) pe_int (nomark _)) (pss_one (ps_set (i := 3) sc__law_fraction.nd rfl (.inl rfl) (pe_op op_mulW (pe_call (ok__law_prime T) hr (by rfl) T.g__law_prime T.F__law_prime.kp T.b__law_prime .nil pass0 (pa_cons (pv 0) (pa_cons (pv 1) pa_nil))) (pe_op op_add pe_int (pe_call (ok__law_take T) (hr.mono (by decide)) (by rfl) T.g__law_take T.F__law_take.kp T.b__law_take .nil pass0 (pa_cons (pv 0) (pa_cons pe_int pa_nil))))))) pss_nil)
      (pss_one (ps_ret (pe_call (ok__law_low T) hr (by rfl) T.g__law_low T.F__law_low.kp T.b__law_low .nil pass0 (pa_cons (pe_op op_mulW (pv 2) (pe_ix (r := rIxL K) ix_list (pe_lst (pa_cons pe_int (pa_cons (pe_un un_neg pe_int) pa_nil))) (pe_call (ok__law_take T) (hr.mono (by decide)) (by rfl) T.g__law_take T.F__law_take.kp T.b__law_take .nil pass0 (pa_cons (pv 0) (pa_cons pe_int pa_nil))) (fun _ _ => rfl))) (pa_cons (pv 3) pa_nil))))))))))), ?_⟩
    have at3 : ∀ {a b c w : Int}, 0 ≤ a → a < 20 → 0 ≤ b → b < 1000 → 0 ≤ c → c < big 2 → 0 ≤ w → w < 3 → ∃ x, atI [V.int a, V.int b, V.int (c / 1000)] w = some (.int x) ∧ 0 ≤ x ∧ x < 1000000000 := fun {a b c w} a0 a1 b0 b1 c0 c1 w0 w1 => by
      have hb : big 2 = 1000000000000 := by decide
      rcases (show w = 0 ∨ w = 1 ∨ w = 2 by omega) with rfl | rfl | rfl
      · exact ⟨a, rfl, by omega, by omega⟩
      · exact ⟨b, rfl, by omega, by omega⟩
      · exact ⟨c / 1000, rfl, by omega, by omega⟩
    have wd : ∀ x : Int, CDivW x 1000 := fun x => wide_div (b := 20) (by decide) (by decide) (by decide) (by decide)
    refine ⟨.ref pa, rfl, pa, 20, n + 28, rfl, by decide, by decide, pb.less (by omega), fun a1 H1 a10 a11 pb1 e1 => ?_⟩
    refine ⟨.ref pa, rfl, pa, 1000, n + 27, rfl, by decide, by decide, pb1, fun a2 H2 a20 a21 pb2 e2 => ?_⟩
    refine ⟨.ref pa, rfl, pa, 2, n + 25, rfl, by decide, pb2, fun a3 H3 a30 a31 pb3 e3 => ⟨a3, 1000, rfl, rfl, wd _, sz_of (Nat.le_of_ble_eq_true rfl), fun l1 hl1 => ?_⟩⟩
    have x3 := Ex.new (o := .lst [.int a1, .int a2, .int (a3 / 1000)]) hl1
    refine ⟨.ref pa, rfl, pa, 3, n + 24, rfl, by decide, by decide, pb3.up x3, fun w H4 w0 w1 pb4 e4 => ?_⟩
    obtain ⟨top, hat, t0, t1⟩ := at3 a10 a11 a20 a21 a30 a31 w0 w1
    refine ⟨l1, _, w, .int top, rfl, rfl, sq_of (e4 _ _ (pb3.ne hl1) upd_same), hat, ?_⟩
    have g4 : ExB pa H H4 := (((e1.trans e2).trans e3).trans (ExB.of x3)).trans e4
    clear e1 e2 e3 x3 e4 pb1 pb2 pb3 hat hl1 pb
    refine ⟨.ref pa, rfl, pa, 20, n + 23, rfl, by decide, by decide, pb4, fun c1 H5 c10 c11 pb5 e5 => ?_⟩
    refine ⟨.ref pa, rfl, pa, 1000, n + 22, rfl, by decide, by decide, pb5, fun c2 H6 c20 c21 pb6 e6 => ?_⟩
    refine ⟨.ref pa, rfl, pa, 2, n + 20, rfl, by decide, pb6, fun c3 H7 c30 c31 pb7 e7 => ⟨c3, 1000, rfl, rfl, wd _, sz_of (Nat.le_of_ble_eq_true rfl), fun l2 hl2 => ?_⟩⟩
    have x7 := Ex.new (o := .lst [.int c1, .int c2, .int (c3 / 1000)]) hl2
    refine ⟨.ref pa, rfl, pa, 3, n + 19, rfl, by decide, by decide, pb7.up x7, fun w2 H8 w20 w21 pb8 e8 => ?_⟩
    obtain ⟨bo, hat, b0, b1⟩ := at3 c10 c11 c20 c21 c30 c31 w20 w21
    refine ⟨l2, _, w2, .int bo, rfl, rfl, sq_of (e8 _ _ (pb7.ne hl2) upd_same), hat, 1, bo, rfl, rfl, ?_⟩
    have g8 : ExB pa H H8 := g4.trans ((((e5.trans e6).trans e7).trans (ExB.of x7)).trans e8)
    clear e5 e6 e7 x7 e8 pb4 pb5 pb6 pb7 hat hl2 g4
    refine ⟨.ref pa, rfl, pa, 4, n + 18, rfl, by decide, by decide, pb8, fun way H9 wy0 wy1 pb9 e9 => ?_⟩
    have g9 := g8.trans e9
    -- if way == 0
    refine ⟨fun σ H' => ∃ (t : Int), σ = [some (.ref pa), some (.ref la), some (.int t), some (.int (1 + bo)), some (.int way)] ∧ 0 ≤ t ∧ t < 1000000000 ∧ PoolB H' pa (n + 15) ∧ ExB pa H H', ?_, fun σ H10 hM => ?_⟩
    · refine ⟨.int way, rfl, rfl, _, rfl, it2 (fun e => ?_) (fun e => ⟨top, rfl, t0, t1, pb9.less (by omega), g9⟩)⟩
      refine ⟨.ref pa, rfl, .ref la, rfl, pa, la, n + 16, rfl, g9 _ _ hne hl, hne, pb9, fun p H10 hp pb10 e10 => ?_⟩
      have lo := primesL_lo hp
      refine ⟨.ref pa, rfl, pa, 5, n + 15, rfl, by decide, by decide, pb10, fun y H11 y0 y1 pb11 e11 => ⟨p, y, rfl, rfl, wide_mul (a := 10) (b := 10) (by omega) (by omega) (by decide) (by decide) (by decide), p * y, rfl, Int.mul_nonneg (by omega) y0, ?_, pb11, (g9.trans e10).trans e11⟩⟩
      have := Int.mul_le_mul (show p ≤ 1000 by omega) (show y ≤ 5 by omega) y0 (by decide)
      omega
    obtain ⟨t, rfl, t0, t1, pb10, g10⟩ := hM
    -- if way == 1
    refine ⟨fun σ H' => ∃ (b : Int), σ = [some (.ref pa), some (.ref la), some (.int t), some (.int b), some (.int way)] ∧ 1 ≤ b ∧ b ≤ 1000000000 ∧ PoolB H' pa (n + 10) ∧ ExB pa H H', ?_, fun σ H11 hM => ?_⟩
    · refine ⟨.int way, rfl, rfl, _, rfl, it2 (fun e => ?_) (fun e => ⟨1 + bo, rfl, by omega, by omega, pb10.less (by omega), g10⟩)⟩
      refine ⟨.ref pa, rfl, .ref la, rfl, pa, la, n + 13, rfl, g10 _ _ hne hl, hne, pb10, fun p H11 hp pb11 e11 => ?_⟩
      have lo := primesL_lo hp
      refine ⟨.ref pa, rfl, pa, 5, n + 12, rfl, by decide, by decide, pb11, fun y H12 y0 y1 pb12 e12 => ⟨1, y, rfl, rfl, p, 1 + y, rfl, rfl, wide_mul (a := 10) (b := 10) (by omega) (by omega) (by decide) (by decide) (by decide), p * (1 + y), rfl, ?_, ?_, pb12.less (by omega), (g10.trans e11).trans e12⟩⟩
      · have := Int.mul_pos (show 0 < p by omega) (show 0 < 1 + y by omega)
        omega
      · have := Int.mul_le_mul (show p ≤ 1000 by omega) (show 1 + y ≤ 5 by omega) (by omega) (by decide)
        omega
    obtain ⟨b, rfl, b0, b1, pb11, g11⟩ := hM
    refine ⟨.int t, rfl, 1, rfl, sz_of (Nat.le_of_ble_eq_true rfl), fun l3 hl3 => ?_⟩
    have x12 := Ex.new (o := .lst [.int 1, .int (-1)]) hl3
    refine ⟨.ref pa, rfl, pa, 2, n, rfl, by decide, by decide, (pb11.up x12).less (by omega), fun w3 H13 w30 w31 pb13 e13 => ?_⟩
    obtain ⟨s, hat, hs⟩ : ∃ s, atI [V.int 1, V.int (-1)] w3 = some (.int s) ∧ (s = 1 ∨ s = -1) := by
      rcases (show w3 = 0 ∨ w3 = 1 by omega) with rfl | rfl
      · exact ⟨1, rfl, .inl rfl⟩
      · exact ⟨-1, rfl, .inr rfl⟩
    have g13 : ExB pa H H13 := (g11.trans (ExB.of x12)).trans e13
    refine ⟨l3, _, w3, .int s, rfl, rfl, sq_of (e13 _ _ (pb11.ne hl3) upd_same), hat, t, s, rfl, rfl, wide_mul (a := 40) (b := 10) (by omega) (by rcases hs with rfl | rfl <;> decide) (by decide) (by decide) (by decide), .int b, rfl, t * s, b, rfl, by omega, Nat.lt_of_lt_of_le (show b.natAbs < 2 ^ 40 by omega) (by decide), fun t' b' k p H14 b0' g h1 h2 k0 hp e14 hpp => ?_⟩
    have z1 := fac_sz h1 k0
    have z2 := fac_sz h2 k0
    have z3 : (t * s).natAbs = t.natAbs := by rcases hs with rfl | rfl <;> omega
    exact q t' b' p H14 ⟨b0', by omega, by omega, by omega, g⟩ (pb13.up e14) (g13.trans (ExB.of e14)) (g13.free pb13.isL hp) hpp
def sp__law_near : Sp := fun vs H Q _ => ∃ (pa fa : Addr) (t b p : Int) (n : Nat), vs = [.ref pa, .ref fa, .int p] ∧ H fa = some (.tup [.int t, .int b]) ∧ fa ≠ pa ∧ FracOk t b ∧ 2 ≤ p ∧ p < 1000 ∧ PoolB H pa (n + 3) ∧
  ∀ (t' b' : Int) p' H', 1 ≤ b' → Int.gcd t' b' = 1 → t'.natAbs < 2 ^ 120 → b'.natAbs < 2 ^ 120 → PoolB H' pa n → ExB pa H H' → H p' = none → H' p' = some (.tup [.int t', .int b']) → Q (.ref p') H'
theorem ok__law_near (T : Txt K mg base z) : FnOk P w K mg base CX0 3 z.a__law_near z.d__law_near ["pool", "f", "p"] (sp__law_near) := by
  refine T.F__law_near.ok sc__law_near (fun vs H Q E h => ?_) (fun cdv A outer s H vs Q E hr h => ?_)
  · obtain ⟨pa, fa, t, b, p, n, rfl, _⟩ := h
    rfl
  · obtain ⟨pa, fa, t, b, p, n, rfl, hfa, hne, hF, p0, p1, pb, q⟩ := h
    refine ⟨_, (PSs.nox (pss_cons (ps_set (i := 3) sc__law_near.nd rfl (.inl rfl) (pe_op op_add pe_int (pe_call (ok__law_take T) (hr.mono (by decide)) (by rfl) T.g__law_take T.F__law_take.kp T.b__law_take .nil pass0 (pa_cons (pv 0) (pa_cons pe_int pa_nil)))))
      (pss_one (ps_ret (pe_call (ok__law_low T) hr (by rfl) T.g__law_low T.F__law_low.kp T.b__law_low .nil pass0 (pa_cons (pe_op op_add (pe_op op_mulW (pe_ix (r := rIxT K) ix_tup (pv 1) pe_int (fun _ _ => rfl)) (pv 3)) (pe_op op_mulW (pv 2) (pe_call (ok__law_take T) (hr.mono (by decide)) (by rfl) T.g__law_take T.F__law_take.kp T.b__law_take .nil pass0 (pa_cons (pv 0) (pa_cons pe_int pa_nil))))) (pa_cons (pe_op op_add (pe_op op_mulW (pe_ix (r := rIxT K) ix_tup (pv 1) pe_int (fun _ _ => rfl)) (pv 3)) (pe_op op_mulW (pv 2) (pe_call (ok__law_take T) (hr.mono (by decide)) (by rfl) T.g__law_take T.F__law_take.kp T.b__law_take .nil pass0 (pa_cons (pv 0) (pa_cons pe_int pa_nil))))) pa_nil))))))), ?_⟩
    obtain ⟨f1, f2, f3, f4, f5⟩ := hF
    refine ⟨.ref pa, rfl, pa, 12, n + 2, rfl, by decide, by decide, pb, fun y H1 y0 y1 pb1 e1 => ⟨1, y, rfl, rfl, ?_⟩⟩
    obtain ⟨m, hm⟩ : ∃ m, m = 1 + y := ⟨_, rfl⟩
    dsimp only [gName_app]
    rw [← hm]
    have m0 : 1 ≤ m := by omega
    have m1 : m ≤ 12 := by omega
    have tz : t.natAbs < 2 ^ 100 := by omega
    have bz : b.natAbs < 2 ^ 100 := by omega
    have mz : m.natAbs < 2 ^ 4 := by omega
    have pz : p.natAbs < 2 ^ 10 := by omega
    have wt : CMulW t m := wide_mul (a := 100) (b := 4) tz mz (by decide) (by decide) (by decide)
    have wb : CMulW b m := wide_mul (a := 100) (b := 4) bz mz (by decide) (by decide) (by decide)
    refine ⟨.ref fa, rfl, fa, _, 0, .int t, rfl, rfl, st_of (e1 _ _ hne hfa), rfl, .int m, rfl, t, m, rfl, rfl, wt, .int p, rfl, .ref pa, rfl, pa, 30, n + 1, rfl, by decide, by decide, pb1, fun c H2 c0 c1 pb2 e2 => ?_⟩
    have cz : c.natAbs < 2 ^ 10 := by omega
    refine ⟨p, c, rfl, rfl, wide_mul (a := 10) (b := 10) pz cz (by decide) (by decide) (by decide), t * m, p * c, rfl, rfl, ?_⟩
    have e12 := e1.trans e2
    refine ⟨.ref fa, rfl, fa, _, 1, .int b, rfl, rfl, st_of (e12 _ _ hne hfa), rfl, .int m, rfl, b, m, rfl, rfl, wb, .int p, rfl, .ref pa, rfl, pa, 30, n, rfl, by decide, by decide, pb2, fun d H3 d0 d1 pb3 e3 => ?_⟩
    have dz : d.natAbs < 2 ^ 10 := by omega
    have e13 := e12.trans e3
    have lift : ∀ {a : Int} {i j : Nat}, i ≤ j → a.natAbs < 2 ^ i → a.natAbs < 2 ^ j := fun h k => Nat.lt_of_lt_of_le k (Nat.pow_le_pow_right (by decide) h)
    have sz1 : (t * m + p * c).natAbs < 2 ^ 105 := add_sz (mul_sz tz mz) (lift (by decide) (mul_sz pz cz))
    have sz2 : (b * m + p * d).natAbs < 2 ^ 105 := add_sz (mul_sz bz mz) (lift (by decide) (mul_sz pz dz))
    have pos : 0 < b * m + p * d := by
      have h1 : 0 < b * m := Int.mul_pos (by omega) (by omega)
      have h2 : 0 ≤ p * d := Int.mul_nonneg (by omega) d0
      omega
    refine ⟨p, d, rfl, rfl, wide_mul (a := 10) (b := 10) pz dz (by decide) (by decide) (by decide), b * m, p * d, rfl, rfl, t * m + p * c, b * m + p * d, rfl, by omega, lift (by decide) sz2, fun t' b' k p' H4 b0 g h1 h2 k0 hp' e4 hpp => q t' b' p' H4 b0 g ?_ ?_ (pb3.up e4) (e13.trans (ExB.of e4)) ?_ hpp⟩
    · exact lift (by decide) (Nat.lt_of_le_of_lt (fac_sz h1 k0) sz1)
    · exact lift (by decide) (Nat.lt_of_le_of_lt (fac_sz h2 k0) sz2)
    · exact e13.free pb3.isL hp'
theorem go_for3 {K : PySem.W.Frag} {ta : TA} {g : TG} {tu tz : TS} {D : Ends} {σ : L2.St} {H : Hp} (h : ta σ H fun vs H1 => ∃ a b c xs ys us, vs = [.ref a, .ref b, .ref c] ∧ SqL K H1 a xs ∧ SqL K H1 b ys ∧ SqL K H1 c us ∧ tFor (fun _ H R => R (Itz3 K a b c) H) g tu { D with nx := tz D } σ H1) : tSeq (tFor (iZip3 K ta) g tu) tz D σ H := h
def sp__law_two_right (z : Ad) : Sp := fun vs H Q _ => ∃ (fa ga sa : Addr) (t b u c : Int) (ps : List Int), vs = [.ref fa, .ref ga, .ref sa] ∧ H fa = some (.tup [.int t, .int b]) ∧ H ga = some (.tup [.int u, .int c]) ∧ 1 ≤ b ∧ 1 ≤ c ∧ Int.gcd t b = 1 ∧ Int.gcd u c = 1 ∧ t.natAbs < 2 ^ 120 ∧ b.natAbs < 2 ^ 120 ∧ u.natAbs < 2 ^ 120 ∧ c.natAbs < 2 ^ 120 ∧
  H sa = some (.lst (ps.map V.int)) ∧ ps.length ≤ 100 ∧ ps.Nodup ∧ (∀ p ∈ ps, primeB p = true) ∧ Tabs z H ∧ ∀ H', Ex H H' → Q (.bl true) H'
theorem ok__law_two_right (T : Txt K mg base z) : FnOk P w K mg base CX0 11 z.a__law_two_right z.d__law_two_right ["f", "g", "some"] (sp__law_two_right z) := by
  refine T.F__law_two_right.ok sc__law_two_right (fun vs H Q E h => ?_) (fun cdv A outer s H vs Q E hr h => ?_)
  · obtain ⟨fa, ga, sa, t, b, u, c, ps, rfl, _⟩ := h
    rfl
  · obtain ⟨fa, ga, sa, t, b, u, c, ps, rfl, hfa, hga, b1, c1, gf, gg, tz, bz, uz, cz, hsa, hl, hnd, hpr, hT, q⟩ := h
    refine ⟨_, (PSs.nox (pss_cons (ps_set (i := 3) sc__law_two_right.nd rfl (.inl rfl) (pe_op op_sub (pe_op op_mulW (pe_ix (r := rIxT K) ix_tup (pv 0) pe_int (fun _ _ => rfl)) (pe_ix (r := rIxT K) ix_tup (pv 1) pe_int (fun _ _ => rfl))) (pe_op op_mulW (pe_ix (r := rIxT K) ix_tup (pv 1) pe_int (fun _ _ => rfl)) (pe_ix (r := rIxT K) ix_tup (pv 0) pe_int (fun _ _ => rfl)))))
      (pss_cons (ps_set (i := 4) sc__law_two_right.nd rfl (.inr rfl) (pe_call (ok_rests_of T) (hr.mono (by decide)) (by rfl) T.g_rests_of T.F_rests_of.kp T.b_rests_of .nil pass0 (pa_cons (pv 0) (pa_cons (pv 2) pa_nil))))
      (pss_cons (ps_set (i := 5) sc__law_two_right.nd rfl (.inr rfl) (pe_call (ok_rests_of T) (hr.mono (by decide)) (by rfl) T.g_rests_of T.F_rests_of.kp T.b_rests_of .nil pass0 (pa_cons (pv 1) (pa_cons (pv 2) pa_nil))))
      (pss_cons (ps_for PassesOwn.never rfl (pi_zip3 (by rfl) T.m_zip (pa_cons (pv 2) (pa_cons (pv 4) (pa_cons (pv 5) pa_nil)))) (pg_tup (by rfl) (pgs_cons (pg_name (i := 6) sc__law_two_right.nd rfl (.inl rfl)) (pgs_cons (pg_name (i := 7) sc__law_two_right.nd rfl (.inl rfl)) (pgs_cons (pg_name (i := 8) sc__law_two_right.nd rfl (.inl rfl)) pgs_nil)))) (pss_one (ps_if (PW.pt (pw_or (pt_cmpR op_ne (pe_call (ok_rest_of T) (hr.mono (by decide)) (by rfl) T.g_rest_of T.F_rest_of.kp T.b_rest_of .nil pass0 (pa_cons (pv 0) (pa_cons (pv 6) pa_nil))) (pv 7) (nomark _)) (pw_or1 (pt_cmpR op_ne (pe_cmpR op_eq (pv 7) (pv 8) (nomark _)) (pe_cmpR op_eq (pe_op op_mod (pv 3) (pv 6)) pe_int (nomark _)) (nomark _))))) (pss_one (ps_ret pe_bl)) pss_nil)))
      (pss_cons (ps_set (i := 9) sc__law_two_right.nd rfl (.inr rfl) (pe_slice (r := rSlL K) sl_list (pv 2) po_none (po_some pe_int)))
      (pss_cons (ps_setLc (i := 10) (own := [("k", 11)]) (by rfl) sc__law_two_right.nd rfl rfl (sw_true rfl rfl rfl (by decide +kernel)) (pi_range1 (by rfl) T.m_range (pa_cons (pe_callB (r := rLenS K) call_len_seq (by rfl) T.m_len (by decide +kernel) (pa_cons (pv 9) pa_nil)) pa_nil)) (blkOk_by (own := [("k", 11)]) (N := N__law_two_right) (sc := (defScope s__law_two_right)) (by decide +kernel)) (fun _ _ _ _ _ => (pg_name (i := 11) sc__law_two_right.nd rfl (.inl rfl))) (fun _ _ _ _ _ => pts_nil) (fun _ _ _ _ _ => (pe_tup (pa_cons (pe_ix (r := rIxL K) ix_list (pv 9) (pv 11) (fun _ _ => rfl)) (pa_cons (pe_ix (r := rIxL K) ix_list (pv 4) (pv 11) (fun _ _ => rfl)) pa_nil)))))
      (pss_one (ps_ret (pe_cmpR (r := rEqD K) (op_eqD hr.units) (pe_call (ok_not_kept T) hr (by rfl) T.g_not_kept T.F_not_kept.kp T.b_not_kept .nil pass0 (pa_cons (pv 1) (pa_cons (pv 10) pa_nil))) (pe_lc (own := [("k", 11)]) (by rfl) sc__law_two_right.nd (pi_range1 (by rfl) T.m_range (pa_cons (pe_callB (r := rLenS K) call_len_seq (by rfl) T.m_len (by decide +kernel) (pa_cons (pv 9) pa_nil)) pa_nil)) (blkOk_by (own := [("k", 11)]) (N := N__law_two_right) (sc := (defScope s__law_two_right)) (by decide +kernel)) (fun _ _ _ _ _ => (pg_name (i := 11) sc__law_two_right.nd rfl (.inl rfl))) (fun _ _ _ _ _ => (pts_one (pt_cmpR op_ne (pe_ix (r := rIxL K) ix_list (pv 4) (pv 11) (fun _ _ => rfl)) (pe_ix (r := rIxL K) ix_list (pv 5) (pv 11) (fun _ _ => rfl)) (nomark _)))) (fun _ _ _ _ _ => (pv 11))) (nomark _))))))))))), ?_⟩
    have lift : ∀ {a : Int}, a.natAbs < 2 ^ 120 → a.natAbs < 2 ^ 250 := fun h => Nat.lt_of_lt_of_le h (by decide)
    refine ⟨.ref fa, rfl, fa, _, 0, .int t, rfl, rfl, st_of hfa, rfl, .ref ga, rfl, ga, _, 1, .int c, rfl, rfl, st_of hga, rfl, t, c, rfl, rfl, wide_mul (a := 120) (b := 120) tz cz (by decide) (by decide) (by decide), .ref ga, rfl, ga, _, 0, .int u, rfl, rfl, st_of hga, rfl, .ref fa, rfl, fa, _, 1, .int b, rfl, rfl, st_of hfa, rfl, u, b, rfl, rfl, wide_mul (a := 120) (b := 120) uz bz (by decide) (by decide) (by decide), t * c, u * b, rfl, rfl, ?_⟩
    obtain ⟨cr, hcr⟩ : ∃ cr, cr = t * c - u * b := ⟨_, rfl⟩
    dsimp only [gName_app]
    rw [← hcr]
    have dF : ∀ {Hx : Hp}, Ex H Hx → Dt Hx (.ref fa) (.tuple [.int t, .int b]) := fun e => .tup (e _ _ hfa) (.cons (.int _) (.cons (.int _) .nil))
    have dG : ∀ {Hx : Hp}, Ex H Hx → Dt Hx (.ref ga) (.tuple [.int u, .int c]) := fun e => .tup (e _ _ hga) (.cons (.int _) (.cons (.int _) .nil))
    refine ⟨.ref fa, rfl, .ref sa, rfl, .ref fa, sa, t, b, ps, rfl, dF (Ex.refl _), b1, gf, lift tz, hsa, by omega, hpr, fun oa H1 hoa e1 a1 => ?_⟩
    refine ⟨.ref ga, rfl, .ref sa, rfl, .ref ga, sa, u, c, ps, rfl, dG e1, c1, gg, lift uz, e1 _ _ hsa, by omega, hpr, fun ob H2 hob e2 a2 => ?_⟩
    have g2 := e1.trans e2
    have eo : ∀ (x y : Int), (ps.map fun p => restD x y p) = (ps.map fun p => restO x y p).map oD := fun x y => by
      rw [List.map_map]
      exact List.map_congr_left fun p _ => (oD_restO x y p).symm
    rw [eo] at a1 a2
    obtain ⟨o1, p1, p2, _⟩ := a1.up e2
    obtain ⟨o2, r1, r2, _⟩ := a2
    have q1 := os_eq _ p2
    have q2 := os_eq _ r2
    subst q1 q2
    have hsa2 := g2 _ _ hsa
    have ll : ∀ x y : Int, ((ps.map fun p => restO x y p).map oV).length = (ps.map V.int).length := fun x y => by rw [List.length_map, List.length_map, List.length_map]
    -- for p, one, other in zip(..)
    dsimp only [gName_app]
    refine go_for3 ⟨.ref sa, rfl, .ref oa, rfl, .ref ob, rfl, sa, oa, ob, _, _, _, rfl, sq_of hsa2, sq_of p1, sq_of r1, ?_⟩
    refine for_it (walk_zip3 (K := K) (a := sa) (b := oa) (c := ob) (ll t b) (ll u c)) (fun i σ H' => (∃ y6 y7 y8, σ = [some (.ref fa), some (.ref ga), some (.ref sa), some (.int cr), some (.ref oa), some (.ref ob), y6, y7, y8, none, none, none]) ∧ Ex H2 H') ⟨⟨_, _, _, rfl⟩, Ex.refl _⟩ (fun i σ H' _ hP => ⟨sq_of (hP.2 _ _ hsa2), sq_of (hP.2 _ _ p1), sq_of (hP.2 _ _ r1)⟩) (fun i x σ H3 H4 hi hP hY => ?_) (fun σ H3 hP => ?_)
    · obtain ⟨⟨y6, y7, y8, rfl⟩, e3⟩ := hP
      obtain ⟨T, w1, w2, w3, rfl, hT3, rfl, hw1, hw2, hw3⟩ := hY
      rw [List.length_map] at hi
      have hp := List.getElem?_eq_getElem hi
      have hpm := List.mem_of_getElem? hp
      dsimp only at hw1 hw2 hw3
      rw [List.getElem?_map, hp] at hw1
      rw [List.getElem?_map, List.getElem?_map, hp] at hw2 hw3
      cases Option.some.inj hw1
      cases Option.some.inj hw2
      cases Option.some.inj hw3
      generalize ps[i] = p at hpm
      have pp := hpr p hpm
      have lo := primeB_lo pp
      have x4 := Ex.new (o := .tup [V.int p, oV (restO t b p), oV (restO u c p)]) hT3
      have e4 := e3.trans x4
      refine ⟨T, _, rfl, st_of upd_same, rfl, _, _, rfl, _, _, rfl, _, _, rfl, rfl, ?_⟩
      refine ⟨.ref fa, rfl, .int p, rfl, .ref fa, t, b, p, rfl, dF (g2.trans e4), b1, gf, lift tz, pp, fun v H5 e5 hv => ?_⟩
      have hv : v = oV (restO t b p) := by
        rw [← oD_restO] at hv
        exact hv.o_get
      subst hv
      refine ⟨oV (restO t b p), rfl, flat_oV _ _, _, rfl, itF (by rw [dO, decide_eq_true rfl]; rfl) ?_⟩
      refine ⟨oV (restO t b p), rfl, oV (restO u c p), rfl, flat_oV _ _, .int cr, rfl, .int p, rfl, cr, p, rfl, rfl, (show 0 < p by omega), rfl, rfl, _, rfl, itF ?_ ⟨⟨_, _, _, rfl⟩, e4.trans e5⟩⟩
      have k := rest_same pp gf gg
      rw [← hcr] at k
      show (!decide (V.bl (decide (oV (restO t b p) = oV (restO u c p))) = V.bl (decide (V.int (cr % p) = V.int 0)))) = false
      rw [dO, dI, decide_eq_decide.mpr k, decide_eq_true rfl]
      rfl
    obtain ⟨⟨y6, y7, y8, rfl⟩, e3⟩ := hP
    have g3 := g2.trans e3
    -- row
    have hsa3 := e3 _ _ hsa2
    have ct : cutV (ps.map V.int) none (some 10) = (ps.take 10).map V.int := by
      rw [List.map_take]
      exact cutTo (ps.map V.int) 10
    refine ⟨.ref sa, rfl, 10, rfl, sa, _, rfl, sq_of hsa3, fun ro hro => ?_⟩
    rw [ct]
    have x4 := Ex.new (o := .lst ((ps.take 10).map V.int)) hro
    have hro4 : (upd H3 ro (.lst ((ps.take 10).map V.int))) ro = some (.lst ((ps.take 10).map V.int)) := upd_same
    have oa4 := x4 _ _ (e3 _ _ p1)
    have ob4 := x4 _ _ (e3 _ _ r1)
    have g4 := g3.trans x4
    revert hro4 oa4 ob4 g4
    generalize upd H3 ro (.lst ((ps.take 10).map V.int)) = H4
    intro hro4 oa4 ob4 g4
    clear x4 hro
    obtain ⟨rw_, hrw⟩ : ∃ r, r = ps.take 10 := ⟨_, rfl⟩
    rw [← hrw] at hro4
    have hrl : rw_.length ≤ 10 ∧ rw_.length ≤ ps.length := by rw [hrw, List.length_take]; omega
    have hat : ∀ i, i < rw_.length → ∃ p, rw_[i]? = some p ∧ ps[i]? = some p := fun i hi => by
      refine ⟨rw_[i], List.getElem?_eq_getElem hi, ?_⟩
      have h := List.getElem?_eq_getElem hi
      rw [← h, hrw, List.getElem?_take]
      rw [if_pos (by omega)]
    have hsub : rw_.Sublist ps := by rw [hrw]; exact List.take_sublist _ _
    have hRn : RdN (rw_.map fun p => (p, restO t b p)) := by
      refine ⟨by rw [List.length_map]; exact hrl.1, fun q0 hq => ?_, by rw [fst_ps]; exact hnd.sublist hsub⟩
      obtain ⟨p, hp, rfl⟩ := List.mem_map.mp hq
      have pp := hpr p (hsub.subset hp)
      exact ⟨pp, fun r hr => restO_ok pp hr⟩
    have len4 : ∀ (σ : L2.St) {Hx : Hp}, σ[9]? = some (some (.ref ro)) → Ex H4 Hx → EvA (tCons (tCB (rLenS K) (tCons (tVar 9) tNil)) tNil) σ Hx [.int (rw_.length : Int)] := fun σ Hx h9 e Hy ey Q k => ⟨.ref ro, h9, ro, _, rfl, .inl (sq_of (ey _ _ (e _ _ hro4))), by rw [List.length_map]; exact k Hy (Ex.refl _)⟩
    have atO : ∀ (x y : Int) (i : Nat) (p : Int), ps[i]? = some p → atI ((ps.map fun p => restO x y p).map oV) ((i : Nat) : Int) = some (oV (restO x y p)) := fun x y i p h => atI_nat (by rw [List.getElem?_map, List.getElem?_map, h]; rfl)
    have hN : EvN (tLc (iRng1 (tCons (tCB (rLenS K) (tCons (tVar 9) tNil)) tNil)) (gName 11) tYes (tTup (tCons (tOp (rIxL K) (tVar 9) (tVar 11)) (tCons (tOp (rIxL K) (tVar 4) (tVar 11)) tNil))) [11]) [some (.ref fa), some (.ref ga), some (.ref sa), some (.int cr), some (.ref oa), some (.ref ob), y6, y7, y8, some (.ref ro), none, none] H4 (rdN (rw_.map fun p => (p, restO t b p))) := by
      have eg : rdN (rw_.map fun p => (p, restO t b p)) = ((irng 0 rw_.length).filter fun _ => true).map fun x => PyData.tuple [.int (rw_.getD x.toNat 0), oD (restO t b (rw_.getD x.toNat 0))] := by
        rw [List.filter_eq_self.mpr fun _ _ => rfl, by_places rw_ 0 fun p => PyData.tuple [.int p, oD (restO t b p)]]
        unfold rdN
        rw [List.map_map]
        rfl
      rw [eg]
      refine en_lcR1 (fun _ => true) _ (len4 _ rfl (Ex.refl _)) (by omega) (fun _ => rfl) (fun x _ _ Hy _ Q k => k Hy (Ex.refl _)) (fun x x0 x1 _ => ?_) (fun x _ _ _ => noL_oD _ _)
      obtain ⟨p, h1, h2⟩ := hat x.toNat (by omega)
      have ed : rw_.getD x.toNat 0 = p := by rw [List.getD_eq_getElem?_getD, h1]; rfl
      rw [ed]
      refine ed_tup (eda_cons (fun Hy ey Q k => ?_) (eda_cons (fun Hy ey Q k => ?_) eda_nil)) (Nat.le_of_ble_eq_true rfl)
      · exact ⟨.ref ro, rfl, .int x, rfl, ro, _, x, .int p, rfl, rfl, sq_of (ey _ _ hro4), atI_of x0 (by rw [List.getElem?_map, h1]; rfl), k _ Hy (Ex.refl _) (.int p)⟩
      · exact ⟨.ref oa, rfl, .int x, rfl, oa, _, x, oV (restO t b p), rfl, rfl, sq_of (ey _ _ oa4), atI_of x0 (by rw [List.getElem?_map, List.getElem?_map, h2]; rfl), k _ Hy (Ex.refl _) (.o _)⟩
    dsimp only [gName_app]
    refine q_asgN hN fun rd H5 hrd e5 a5 => ?_
    have g5 := g4.trans e5
    refine ⟨.ref ga, rfl, .ref rd, rfl, .ref ga, .ref rd, u, c, _, rfl, dG g5, c1, gg, lift cz, a5.dt, hRn, (hT.up g5), fun D H6 hD e6 aD => ?_⟩
    have e56 := e5.trans e6
    have hN2 : EvN (tLc (iRng1 (tCons (tCB (rLenS K) (tCons (tVar 9) tNil)) tNil)) (gName 11) (tTest (tOp rNe (tOp (rIxL K) (tVar 4) (tVar 11)) (tOp (rIxL K) (tVar 5) (tVar 11)))) (tVar 11) [11]) [some (.ref fa), some (.ref ga), some (.ref sa), some (.int cr), some (.ref oa), some (.ref ob), y6, y7, y8, some (.ref ro), some (.ref rd), none] H6 (nkD u c (rw_.map fun p => (p, restO t b p))) := by
      have eg : nkD u c (rw_.map fun p => (p, restO t b p)) = ((irng 0 rw_.length).filter fun x => !decide (oV (restO t b (rw_.getD x.toNat 0)) = oV (restO u c (rw_.getD x.toNat 0)))).map fun x => PyData.int x := by
        unfold nkD
        rw [show (rw_.map fun p => (p, restO t b p)).length = rw_.length from List.length_map ..]
        congr 1
        refine List.filter_congr fun x hx => ?_
        obtain ⟨x0, x1⟩ := irng_mem.mp hx
        obtain ⟨p, h1, h2⟩ := hat x.toNat (by omega)
        have ed : rw_.getD x.toNat 0 = p := by rw [List.getD_eq_getElem?_getD, h1]; rfl
        have ea : atN (rw_.map fun p => (p, restO t b p)) x = (p, restO t b p) := by
          unfold atN
          rw [List.getD_eq_getElem?_getD, List.getElem?_map, h1]
          rfl
        have pp := hpr p (List.mem_of_getElem? h2)
        rw [ed, ea, dO]
        congr 1
        rw [Bool.eq_iff_iff, decide_eq_true_iff]
        have k := keeps_rest (e := restO t b p) gg pp fun r hr => restO_ok pp hr
        refine k.trans ⟨fun h => ?_, fun h => ?_⟩
        · rw [← oD_restO] at h
          exact (oD_inj h).symm
        · rw [h, oD_restO]
      rw [eg]
      refine en_lcR1 _ (fun x => .int x) (len4 _ rfl e56) (by omega) (fun _ => rfl) (fun x x0 x1 Hy ey Q k => ?_) (fun x x0 x1 _ => ed_int (ev_var rfl)) (fun x _ _ _ => rfl)
      obtain ⟨p, h1, h2⟩ := hat x.toNat (by omega)
      have ed : rw_.getD x.toNat 0 = p := by rw [List.getD_eq_getElem?_getD, h1]; rfl
      rw [ed] at k
      have ey' := e56.trans ey
      exact ⟨.ref oa, rfl, .int x, rfl, oa, _, x, oV (restO t b p), rfl, rfl, sq_of (ey' _ _ oa4), atI_of x0 (by rw [List.getElem?_map, List.getElem?_map, h2]; rfl), .ref ob, rfl, .int x, rfl, ob, _, x, oV (restO u c p), rfl, rfl, sq_of (ey' _ _ ob4), atI_of x0 (by rw [List.getElem?_map, List.getElem?_map, h2]; rfl), flat_oV _ _, _, rfl, k Hy (Ex.refl _)⟩
    refine hN2 H6 (Ex.refl _) _ fun D2 H7 hD2 e7 aD2 => ?_
    have hlay := lay_list (k := 0) (ds := nkD u c (rw_.map fun p => (p, restO t b p))) fun d hd => by
      unfold nkD at hd
      obtain ⟨n, _, rfl⟩ := List.mem_map.mp hd
      exact ⟨rfl, Nat.le_refl 0⟩
    have hshp := shaped_of hlay (by decide)
    refine ⟨_, _, Dt.dp _ _ hlay.1 (aD.dt.up e7), Dt.dp _ _ hlay.1 aD2.dt, hshp, hshp, ?_⟩
    rw [eqv_self hlay.1]
    exact q _ ((g5.trans e6).trans e7)
def sp__law_other_ways : Sp := fun vs H Q _ => ∃ (pa fa : Addr) (t b p : Int) (n : Nat), vs = [.ref pa, .ref fa, .int p] ∧ H fa = some (.tup [.int t, .int b]) ∧ fa ≠ pa ∧ FracOk t b ∧ primeB p = true ∧ PoolB H pa (n + 1) ∧ ∀ H', PoolB H' pa n → ExB pa H H' → Q (.bl true) H'
theorem ok__law_other_ways (T : Txt K mg base z) : FnOk P w K mg base CX0 5 z.a__law_other_ways z.d__law_other_ways ["pool", "f", "p"] (sp__law_other_ways) := by
  refine T.F__law_other_ways.ok sc__law_other_ways (fun vs H Q E h => ?_) (fun cdv A outer s H vs Q E hr h => ?_)
  · obtain ⟨pa, fa, t, b, p, n, rfl, _⟩ := h
    rfl
  · obtain ⟨pa, fa, t, b, p, n, rfl, hfa, hne, hF, hp, pb, q⟩ := h
    refine ⟨_, (PSs.nox (pss_cons (ps_set (i := 3) sc__law_other_ways.nd rfl (.inl rfl) (pe_call (ok_rest_of T) hr (by rfl) T.g_rest_of T.F_rest_of.kp T.b_rest_of .nil pass0 (pa_cons (pv 1) (pa_cons (pv 2) pa_nil))))
      (pss_cons (ps_set (i := 4) sc__law_other_ways.nd rfl (.inl rfl) (pe_op op_sub (pe_call (ok__law_take T) (hr.mono (by decide)) (by rfl) T.g__law_take T.F__law_take.kp T.b__law_take .nil pass0 (pa_cons (pv 0) (pa_cons pe_int pa_nil))) pe_int))
      (pss_cons (ps_set (i := 5) sc__law_other_ways.nd rfl (.inl rfl) (pe_call (ok_rest_of T) hr (by rfl) T.g_rest_of T.F_rest_of.kp T.b_rest_of .nil pass0 (pa_cons (pe_tup (pa_cons (pe_op op_sub pe_int (pe_ix (r := rIxT K) ix_tup (pv 1) pe_int (fun _ _ => rfl))) (pa_cons (pe_ix (r := rIxT K) ix_tup (pv 1) pe_int (fun _ _ => rfl)) pa_nil))) (pa_cons (pv 2) pa_nil))))
      (pss_cons (ps_set (i := 6) sc__law_other_ways.nd rfl (.inl rfl) (pe_call (ok_rest_of T) hr (by rfl) T.g_rest_of T.F_rest_of.kp T.b_rest_of .nil pass0 (pa_cons (pe_tup (pa_cons (pe_op op_add (pe_ix (r := rIxT K) ix_tup (pv 1) pe_int (fun _ _ => rfl)) (pe_op op_mulW (pv 4) (pe_ix (r := rIxT K) ix_tup (pv 1) pe_int (fun _ _ => rfl)))) (pa_cons (pe_ix (r := rIxT K) ix_tup (pv 1) pe_int (fun _ _ => rfl)) pa_nil))) (pa_cons (pv 2) pa_nil))))
      (pss_cons (ps_if (pt_cmpR op_isN (pv 3) pe_non (nomark _)) (pss_one (ps_if (PW.pt (pw_or (pt_cmpR op_notN (pv 5) pe_non (nomark _)) (pw_or1 (pt_cmpR op_notN (pv 6) pe_non (nomark _))))) (pss_one (ps_ret pe_bl)) pss_nil)) (pss_one (ps_if (PW.pt (pw_or (pt_cmpR op_ne (pv 5) (pe_op op_mod (pe_op op_sub pe_int (pv 3)) (pv 2)) (nomark _)) (pw_or1 (pt_cmpR op_ne (pv 6) (pe_op op_mod (pe_op op_add (pv 3) (pv 4)) (pv 2)) (nomark _))))) (pss_one (ps_ret pe_bl)) pss_nil)))
      (pss_cons (ps_if (pt_cmpR op_eq (pe_ix (r := rIxT K) ix_tup (pv 1) pe_int (fun _ _ => rfl)) pe_int (nomark _)) (pss_one (ps_ret (pe_cmpR op_eq (pv 3) pe_int (nomark _)))) pss_nil)
      (pss_cons (ps_set (i := 7) sc__law_other_ways.nd rfl (.inl rfl) (pe_call (ok_rest_of T) hr (by rfl) T.g_rest_of T.F_rest_of.kp T.b_rest_of .nil pass0 (pa_cons (pe_call (ok__law_low T) (hr.mono (by decide)) (by rfl) T.g__law_low T.F__law_low.kp T.b__law_low .nil pass0 (pa_cons (pe_ix (r := rIxT K) ix_tup (pv 1) pe_int (fun _ _ => rfl)) (pa_cons (pe_ix (r := rIxT K) ix_tup (pv 1) pe_int (fun _ _ => rfl)) pa_nil))) (pa_cons (pv 2) pa_nil))))
      (pss_cons (ps_if (PW.pt (pw_or (pt_cmpR op_isN (pv 3) pe_non (nomark _)) (pw_or1 (pt_cmpR op_isN (pv 7) pe_non (nomark _))))) (pss_one (ps_ret (pe_or (pe_and (pe_cmpR op_isN (pv 3) pe_non (nomark _)) (pe_one (pe_cmpR op_eq (pv 7) pe_int (nomark _)))) (pe_one (pe_and (pe_cmpR op_isN (pv 7) pe_non (nomark _)) (pe_one (pe_cmpR op_eq (pv 3) pe_int (nomark _)))))))) pss_nil)
      (pss_one (ps_ret (pe_cmpR op_eq (pe_op op_mod (pe_op op_mulW (pv 3) (pv 7)) (pv 2)) pe_int (nomark _))))))))))))), ?_⟩
    obtain ⟨f1, f2, f3, f4, f5⟩ := hF
    have lo := primeB_lo hp
    have tz : t.natAbs < 2 ^ 100 := by omega
    have bz : b.natAbs < 2 ^ 100 := by omega
    have lift : ∀ {a : Int} {i j : Nat}, i ≤ j → a.natAbs < 2 ^ i → a.natAbs < 2 ^ j := fun h k => Nat.lt_of_lt_of_le k (Nat.pow_le_pow_right (by decide) h)
    have oget : ∀ {v : V} {H : Hp} {t b : Int}, Dt H v (restD t b p) → v = oV (restO t b p) := fun h => by
      rw [← oD_restO] at h
      exact h.o_get
    refine ⟨.ref fa, rfl, .int p, rfl, .ref fa, t, b, p, rfl, .tup hfa (.cons (.int _) (.cons (.int _) .nil)), f1, f5, lift (by decide) tz, hp, fun v1 H1 e1 hv1 => ?_⟩
    have hv1 := oget hv1
    subst hv1
    have hfa1 := e1 _ _ hfa
    refine ⟨.ref pa, rfl, pa, 2000, n, rfl, by decide, by decide, pb.up e1, fun y H2 y0 y1 pb2 e2 => ⟨y, 1000, rfl, rfl, ?_⟩⟩
    obtain ⟨m, hm⟩ : ∃ m, m = y - 1000 := ⟨_, rfl⟩
    dsimp only [gName_app]
    rw [← hm]
    have mz : m.natAbs < 2 ^ 10 := by omega
    have g2 : ExB pa H H2 := (ExB.of e1).trans e2
    have hfa2 := g2 _ _ hne hfa
    refine ⟨.ref fa, rfl, fa, _, 0, .int t, rfl, rfl, st_of hfa2, rfl, 0, t, rfl, rfl, .ref fa, rfl, fa, _, 1, .int b, rfl, rfl, st_of hfa2, rfl, sz_of (Nat.le_of_ble_eq_true rfl), fun u1 hu1 => ?_⟩
    have x3 := Ex.new (o := .tup [.int (0 - t), .int b]) hu1
    refine ⟨.int p, rfl, .ref u1, 0 - t, b, p, rfl, .tup upd_same (.cons (.int _) (.cons (.int _) .nil)), f1, gcd_neg0 f5, lift (i := 100) (by decide) (by omega), hp, fun v2 H3 e3 hv2 => ?_⟩
    have hv2 := oget hv2
    subst hv2
    have g23 := x3.trans e3
    have wm : CMulW m b := wide_mul (a := 10) (b := 100) mz bz (by decide) (by decide) (by decide)
    refine ⟨.ref fa, rfl, fa, _, 0, .int t, rfl, rfl, st_of (g23 _ _ hfa2), rfl, .int m, rfl, .ref fa, rfl, fa, _, 1, .int b, rfl, rfl, st_of (g23 _ _ hfa2), rfl, m, b, rfl, rfl, wm, t, m * b, rfl, rfl, .ref fa, rfl, fa, _, 1, .int b, rfl, rfl, st_of (g23 _ _ hfa2), rfl, sz_of (Nat.le_of_ble_eq_true rfl), fun u2 hu2 => ?_⟩
    have x4 := Ex.new (o := .tup [.int (t + m * b), .int b]) hu2
    refine ⟨.int p, rfl, .ref u2, t + m * b, b, p, rfl, .tup upd_same (.cons (.int _) (.cons (.int _) .nil)), f1, gcd_more f5, lift (by decide) (add_sz (m := 110) (lift (by decide) tz) (mul_sz mz bz)), hp, fun v3 H4 e4 hv3 => ?_⟩
    have hv3 := oget hv3
    subst hv3
    have g24 := (g23.trans x4).trans e4
    have hfa4 := g24 _ _ hfa2
    have pb4 := pb2.up g24
    have gg4 := g2.trans (ExB.of g24)
    have fin : ∀ {H' : Hp}, Ex H4 H' → Q (.bl true) H' := fun e => q _ (pb4.up e) (gg4.trans (ExB.of e))
    clear x3 e3 g23 x4 e4 hu1 hu2
    dsimp only [gName_app]
    cases hr : restO t b p with
    | none =>
      have zb : b % p = 0 := by
        by_cases z : b % p = 0
        · exact z
        · obtain ⟨r, e, _⟩ := restO_is (t := t) hp z
          rw [e] at hr
          cases hr
      rw [restO_none zb, restO_none zb]
      have t0 : t ≠ 0 := fun z => by
        rw [z] at f5
        exact no_both hp f5 (Int.dvd_zero _) (Int.dvd_of_emod_eq_zero zb)
      refine ⟨.non, rfl, rfl, _, rfl, itT rfl ⟨.non, rfl, rfl, _, rfl, itF rfl ⟨.non, rfl, rfl, _, rfl, itF rfl ?_⟩⟩⟩
      refine ⟨.ref fa, rfl, fa, _, 0, .int t, rfl, rfl, st_of hfa4, rfl, rfl, _, rfl, itF (dI.trans (decide_eq_false t0)) ?_⟩
      refine ⟨.ref fa, rfl, fa, _, 1, .int b, rfl, rfl, st_of hfa4, rfl, .ref fa, rfl, fa, _, 0, .int t, rfl, rfl, st_of hfa4, rfl, b, t, rfl, t0, lift (by decide) tz, fun t' b' k u H5 b0 g h1 h2 k0 hu e5 huu => ?_⟩
      have sz3 := Nat.lt_of_le_of_lt (fac_sz h1 k0) bz
      refine ⟨.int p, rfl, .ref u, t', b', p, rfl, .tup huu (.cons (.int _) (.cons (.int _) .nil)), b0, g, lift (by decide) sz3, hp, fun v7 H6 e6 hv7 => ?_⟩
      have hv7 := oget hv7
      subst hv7
      rw [(about_ok hp f5 h1 h2).1 hr]
      exact ⟨.non, rfl, rfl, _, rfl, itT rfl ⟨.non, rfl, rfl, _, rfl, itT rfl ⟨.int 0, rfl, rfl, _, rfl, itT rfl (fin (e5.trans e6))⟩⟩⟩
    | some r =>
      have zb : b % p ≠ 0 := fun z => by
        rw [restO_none z] at hr
        cases hr
      obtain ⟨r', e, r0, r1, r2⟩ := restO_is (t := t) hp zb
      rw [hr] at e
      cases e
      rw [rest_neg hp zb r2, rest_more (m := m) hp zb r2]
      refine ⟨.int r, rfl, rfl, _, rfl, itF rfl ⟨.int ((0 - r) % p), rfl, .int r, rfl, 0, r, rfl, rfl, .int p, rfl, 0 - r, p, rfl, rfl, (show 0 < p by omega), rfl, _, rfl, itF (by simp) ?_⟩⟩
      refine ⟨.int ((r + m) % p), rfl, .int r, rfl, .int m, rfl, r, m, rfl, rfl, .int p, rfl, r + m, p, rfl, rfl, (show 0 < p by omega), rfl, _, rfl, itF (by simp) ?_⟩
      refine ⟨.ref fa, rfl, fa, _, 0, .int t, rfl, rfl, st_of hfa4, rfl, rfl, _, rfl, it2 (fun e => ?_) (fun e => ?_)⟩
      · have t0 : t = 0 := of_decide_eq_true (dI.symm.trans e)
        have hr0 : restO t b p = some 0 := restO_some hp zb (by decide) (by omega) (by rw [t0, Int.zero_mul]; exact Int.emod_eq_zero_of_dvd (Int.dvd_zero _))
        rw [hr] at hr0
        cases hr0
        exact ⟨.int 0, rfl, rfl, fin (Ex.refl _)⟩
      have t0 : t ≠ 0 := of_decide_eq_false (dI.symm.trans e)
      refine ⟨.ref fa, rfl, fa, _, 1, .int b, rfl, rfl, st_of hfa4, rfl, .ref fa, rfl, fa, _, 0, .int t, rfl, rfl, st_of hfa4, rfl, b, t, rfl, t0, lift (by decide) tz, fun t' b' k u H5 b0 g h1 h2 k0 hu e5 huu => ?_⟩
      have sz3 := Nat.lt_of_le_of_lt (fac_sz h1 k0) bz
      refine ⟨.int p, rfl, .ref u, t', b', p, rfl, .tup huu (.cons (.int _) (.cons (.int _) .nil)), b0, g, lift (by decide) sz3, hp, fun v7 H6 e6 hv7 => ?_⟩
      have hv7 := oget hv7
      subst hv7
      have hab := about_ok hp f5 h1 h2
      have g56 := e5.trans e6
      refine ⟨.int r, rfl, rfl, _, rfl, itF rfl ?_⟩
      cases ha : restO t' b' p with
      | none =>
        have hr0 := hab.2.1 ha
        rw [hr] at hr0
        cases hr0
        exact ⟨.non, rfl, rfl, _, rfl, itT rfl ⟨.int 0, rfl, rfl, _, rfl, itF rfl ⟨_, rfl, itF rfl ⟨.non, rfl, rfl, _, rfl, itT rfl ⟨.int 0, rfl, rfl, fin g56⟩⟩⟩⟩⟩
      | some a' =>
        have h3 := hab.2.2 r a' hr ha
        obtain ⟨_, _, a0, a1, _⟩ := restO_is (t := t') (b := b') hp (fun z => by rw [restO_none z] at ha; cases ha)
        have hra : 0 ≤ a' ∧ a' < p := restO_ok hp ha
        refine ⟨.int a', rfl, rfl, _, rfl, itF rfl ?_⟩
        refine ⟨.int r, rfl, .int a', rfl, r, a', rfl, rfl, wide_mul (a := 10) (b := 10) (by omega) (by omega) (by decide) (by decide) (by decide), .int p, rfl, r * a', p, rfl, rfl, (show 0 < p by omega), rfl, ?_⟩
        show Q (.bl (decide (V.int (r * a' % p) = V.int 1))) H6
        rw [show decide (V.int (r * a' % p) = V.int 1) = true by rw [h3]; exact decide_eq_true rfl]
        exact fin g56
theorem exB_mut {B D : Addr} {H0 H : Hp} {o : HO} (e : ExB B H0 H) (n : H0 D = none) : ExB B H0 (upd H D o) := fun a u na h => by
  by_cases z : a = D
  · rw [z, n] at h
    cases h
  · rw [upd_ne z]
    exact e a u na h
def zB (x p : Int) : Bool := decide (V.int (x % p) = V.int 0)
structure GoodG (H : Hp) (v : V) (u c : Int) (ga : Addr) : Prop where
  v : v = .ref ga
  h : H ga = some (.tup [.int u, .int c])
  lo : 1 ≤ c
  g : Int.gcd u c = 1
  uz : u.natAbs < 2 ^ 120
  cz : c.natAbs < 2 ^ 120
theorem GoodG.up {H H' : Hp} {v : V} {u c : Int} {ga : Addr} (h : GoodG H v u c ga) (e : Ex H H') : GoodG H' v u c ga := ⟨h.v, e _ _ h.h, h.lo, h.g, h.uz, h.cz⟩
theorem tup_ne {H : Hp} {pa ga : Addr} {xs : List V} (hB : IsL H pa) (h : H ga = some (.tup xs)) : ga ≠ pa := fun z => by
  obtain ⟨ys, hy⟩ := hB
  rw [z, hy] at h
  cases h
theorem GoodG.dr {H H' : Hp} {v : V} {u c : Int} {ga pa : Addr} (h : GoodG H v u c ga) (hB : IsL H pa) (e : ExB pa H H') : GoodG H' v u c ga := ⟨h.v, e _ _ (tup_ne hB h.h) h.h, h.lo, h.g, h.uz, h.cz⟩
def sp_law (K : PySem.W.Frag) (z : Ad) : Sp := fun vs H Q _ => ∃ (a : Addr) (ns : List Int), vs = [.ref a] ∧ SqL K H a (ns.map V.int) ∧ Tabs z H ∧ ∀ H', Ex H H' → Q (.bl true) H'
theorem law_start {H : Hp} {a : Addr} {ns : List Int} (hl : ns.length ≤ 63) (hT : Tabs z H) (hS : SqL K H a (ns.map V.int)) : sp_law K z [.ref a] H (fun v H' => v = .bl true ∧ Ex H H') fun _ _ _ => False := ⟨a, ns, rfl, hS, hT, fun _ e => ⟨rfl, e⟩⟩
theorem ok_law (T : Txt K mg base z) : FnOk P w K mg base CX0 12 z.a_law z.d_law ["script"] (sp_law K z) := by
  refine T.F_law.ok sc_law (fun vs H Q E h => ?_) (fun cdv A outer s H vs Q E hr h => ?_)
  · obtain ⟨a, ns, rfl, _⟩ := h
    rfl
  · obtain ⟨a, ns, rfl, hS, hT, q⟩ := h
    refine ⟨_, (PSs.nox (pss_cons (ps_set (i := 1) sc_law.nd rfl (.inr rfl) (pe_call0 (ok__law_all_primes T) (hr.mono (by decide)) (by rfl) T.g__law_all_primes T.F__law_all_primes.kp T.b__law_all_primes .nil pass0))
      (pss_cons (ps_for PassesOwn.never rfl (pi_range1 (by rfl) T.m_range (pa_cons (pe_callB (call_max2 rfl) (by rfl) T.m_max (by decide +kernel) (pa_cons pe_int (pa_cons (pe_callB (call_min2 rfl) (by rfl) T.m_min (by decide +kernel) (pa_cons pe_int (pa_cons (pe_callB (r := rLenS K) call_len_seq (by rfl) T.m_len (by decide +kernel) (pa_cons (pv 0) pa_nil)) pa_nil))) pa_nil))) pa_nil)) (pg_name (i := 2) sc_law.nd rfl (.inl rfl)) (pss_cons (ps_set (i := 3) sc_law.nd rfl (.inr rfl) (pe_call (ok__law_pool T) (hr.mono (by decide)) (by rfl) T.g__law_pool T.F__law_pool.kp T.b__law_pool .nil pass0 (pa_cons (pv 0) (pa_cons (pv 2) pa_nil))))
      (pss_cons (ps_set (i := 4) sc_law.nd rfl (.inr rfl) (pe_call (ok__law_fraction T) (hr.mono (by decide)) (by rfl) T.g__law_fraction T.F__law_fraction.kp T.b__law_fraction .nil pass0 (pa_cons (pv 3) (pa_cons (pv 1) pa_nil))))
      (pss_cons (ps_set (i := 5) sc_law.nd rfl (.inl rfl) (pe_call (ok__law_prime T) (hr.mono (by decide)) (by rfl) T.g__law_prime T.F__law_prime.kp T.b__law_prime .nil pass0 (pa_cons (pv 3) (pa_cons (pv 1) pa_nil))))
      (pss_cons (ps_for PassesOwn.never rfl (pi_listK K (pe_lst (pa_cons (pe_call (ok__law_fraction T) (hr.mono (by decide)) (by rfl) T.g__law_fraction T.F__law_fraction.kp T.b__law_fraction .nil pass0 (pa_cons (pv 3) (pa_cons (pv 1) pa_nil))) (pa_cons (pe_call (ok__law_near T) (hr.mono (by decide)) (by rfl) T.g__law_near T.F__law_near.kp T.b__law_near .nil pass0 (pa_cons (pv 3) (pa_cons (pv 4) (pa_cons (pv 5) pa_nil)))) (pa_cons (pe_call (ok__law_near T) (hr.mono (by decide)) (by rfl) T.g__law_near T.F__law_near.kp T.b__law_near .nil pass0 (pa_cons (pv 3) (pa_cons (pv 4) (pa_cons (pv 5) pa_nil)))) (pa_cons (pv 4) (pa_cons (pe_tup (pa_cons (pe_op op_sub pe_int (pe_ix (r := rIxT K) ix_tup (pv 4) pe_int (fun _ _ => rfl))) (pa_cons (pe_ix (r := rIxT K) ix_tup (pv 4) pe_int (fun _ _ => rfl)) pa_nil))) pa_nil))))))) (pg_name (i := 6) sc_law.nd rfl (.inl rfl)) (pss_cons (ps_set (i := 7) sc_law.nd rfl (.inr rfl) (pe_op op_sub (pe_op op_mulW (pe_ix (r := rIxT K) ix_tup (pv 4) pe_int (fun _ _ => rfl)) (pe_ix (r := rIxT K) ix_tup (pv 6) pe_int (fun _ _ => rfl))) (pe_op op_mulW (pe_ix (r := rIxT K) ix_tup (pv 6) pe_int (fun _ _ => rfl)) (pe_ix (r := rIxT K) ix_tup (pv 4) pe_int (fun _ _ => rfl)))))
      (pss_cons (ps_set (i := 8) sc_law.nd rfl (.inr rfl) (pe_op op_cat (pe_op op_cat (pe_lst (pa_cons (pv 5) pa_nil)) (pe_lc (own := [("turn", 10)]) (by rfl) sc_law.nd (pi_range1 (by rfl) T.m_range (pa_cons pe_int pa_nil)) (blkOk_by (own := [("turn", 10)]) (N := N_law) (sc := (defScope s_law)) (by decide +kernel)) (fun _ _ _ _ _ => (pg_name (i := 10) sc_law.nd rfl (.inl rfl))) (fun _ _ _ _ _ => pts_nil) (fun _ _ _ _ _ => (pe_call (ok__law_prime T) (hr.mono (by decide)) (by rfl) T.g__law_prime T.F__law_prime.kp T.b__law_prime .nil pass0 (pa_cons (pv 3) (pa_cons (pv 1) pa_nil)))))) (pe_slice (r := rSlL K) sl_list (pv 1) po_none (po_some pe_int))))
      (pss_cons (ps_set (i := 8) sc_law.nd rfl (.inr rfl) (pe_op op_cat (pv 8) (pe_slice (r := rSlL K) sl_list (pe_lc (own := [("q", 9)]) (by rfl) sc_law.nd (pi_listK K (pv 1)) (blkOk_by (own := [("q", 9)]) (N := N_law) (sc := (defScope s_law)) (by decide +kernel)) (fun _ _ _ _ _ => (pg_name (i := 9) sc_law.nd rfl (.inl rfl))) (fun _ _ _ _ _ => (pts_one (pt_cmpR op_eq (pe_op op_mod (pv 7) (pv 9)) pe_int (nomark _)))) (fun _ _ _ _ _ => (pv 9))) po_none (po_some pe_int))))
      (pss_cons (ps_set (i := 8) sc_law.nd rfl (.inr rfl) (pe_lc (own := [("at", 11)]) (by rfl) sc_law.nd (pi_range1 (by rfl) T.m_range (pa_cons (pe_callB (r := rLenS K) call_len_seq (by rfl) T.m_len (by decide +kernel) (pa_cons (pv 8) pa_nil)) pa_nil)) (blkOk_by (own := [("at", 11)]) (N := N_law) (sc := (defScope s_law)) (by decide +kernel)) (fun _ _ _ _ _ => (pg_name (i := 11) sc_law.nd rfl (.inl rfl))) (fun _ _ _ _ _ => (pts_one (pt_cmpR (r := rIn K true) op_notIn_seq (pe_ix (r := rIxL K) ix_list (pv 8) (pv 11) (fun _ _ => rfl)) (pe_slice (r := rSlL K) sl_list (pv 8) po_none (po_some (pv 11))) (by rfl)))) (fun _ _ _ _ _ => (pe_ix (r := rIxL K) ix_list (pv 8) (pv 11) (fun _ _ => rfl)))))
      (pss_one (ps_if (PW.pt (pw_or (pt_not (pt_val (pe_call (ok_is_fraction T) (hr.mono (by decide)) (by rfl) T.g_is_fraction T.F_is_fraction.kp T.b_is_fraction .nil pass0 (pa_cons (pv 6) pa_nil)))) (pw_or1 (pt_not (pt_val (pe_call (ok__law_two_right T) hr (by rfl) T.g__law_two_right T.F__law_two_right.kp T.b__law_two_right .nil pass0 (pa_cons (pv 4) (pa_cons (pv 6) (pa_cons (pv 8) pa_nil))))))))) (pss_one (ps_ret pe_bl)) pss_nil)))))))
      (pss_one (ps_for PassesOwn.never rfl (pi_listK K (pe_op op_cat (pe_lst (pa_cons (pv 5) (pa_cons pe_int (pa_cons pe_int (pa_cons pe_int pa_nil))))) (pe_slice (r := rSlL K) sl_list (pe_lc (own := [("q", 9)]) (by rfl) sc_law.nd (pi_listK K (pv 1)) (blkOk_by (own := [("q", 9)]) (N := N_law) (sc := (defScope s_law)) (by decide +kernel)) (fun _ _ _ _ _ => (pg_name (i := 9) sc_law.nd rfl (.inl rfl))) (fun _ _ _ _ _ => (pts_one (pt_cmpR op_eq (pe_op op_mod (pe_op op_mulW (pe_ix (r := rIxT K) ix_tup (pv 4) pe_int (fun _ _ => rfl)) (pe_ix (r := rIxT K) ix_tup (pv 4) pe_int (fun _ _ => rfl))) (pv 9)) pe_int (nomark _)))) (fun _ _ _ _ _ => (pv 9))) po_none (po_some pe_int)))) (pg_name (i := 9) sc_law.nd rfl (.inl rfl)) (pss_one (ps_if (PW.pt (pw_or (pt_not (pt_val (pe_call (ok_is_prime T) (hr.mono (by decide)) (by rfl) T.g_is_prime T.F_is_prime.kp T.b_is_prime .nil pass0 (pa_cons (pv 9) pa_nil)))) (pw_or1 (pt_not (pt_val (pe_call (ok__law_other_ways T) (hr.mono (by decide)) (by rfl) T.g__law_other_ways T.F__law_other_ways.kp T.b__law_other_ways .nil pass0 (pa_cons (pv 3) (pa_cons (pv 4) (pa_cons (pv 9) pa_nil))))))))) (pss_one (ps_ret pe_bl)) pss_nil)))))))))
      (pss_one (ps_ret pe_bl))))), ?_⟩
    refine ⟨rfl, fun la H0 hla0 e0 aa0 => ?_⟩
    obtain ⟨acc0, hl0, hdt0, _⟩ := aa0
    have ei0 := DtAll.ints_eq _ hdt0
    subst ei0
    have hT0 := hT.up e0
    obtain ⟨t1, t2⟩ := turns_ok 5 ((ns.map V.int).length : Int) (by decide) (Int.natCast_nonneg _)
    refine ⟨.ref a, rfl, a, _, rfl, .inl (ex_l e0 hS), 5, _, rfl, 1, _, rfl, _, rfl, ?_, ?_, ?_⟩
    · show -(2 ^ 62) ≤ (if (if ((ns.map V.int).length : Int) < 5 then ((ns.map V.int).length : Int) else 5) > 1 then (if ((ns.map V.int).length : Int) < 5 then ((ns.map V.int).length : Int) else 5) else 1)
      omega
    · show (if (if ((ns.map V.int).length : Int) < 5 then ((ns.map V.int).length : Int) else 5) > 1 then (if ((ns.map V.int).length : Int) < 5 then ((ns.map V.int).length : Int) else 5) else 1) < 2 ^ 62
      omega
    generalize (if (if ((ns.map V.int).length : Int) < 5 then ((ns.map V.int).length : Int) else 5) > 1 then (if ((ns.map V.int).length : Int) < 5 then ((ns.map V.int).length : Int) else 5) else 1) = J at t1 t2
    refine for_range (lo := 0) (n := J.toNat) (fun i σ H' => (∃ y2 y3 y4 y5 y6 y7 y8 y9, σ = [some (.ref a), some (.ref la), y2, y3, y4, y5, y6, y7, y8, y9, none, none]) ∧ Ex H0 H') ⟨⟨none, none, none, none, none, none, none, none, rfl⟩, Ex.refl H0⟩ (fun i σ H1 hi hP => ?_) (fun σ H1 hP => ?_)
    · obtain ⟨⟨y2, y3, y4, y5, y6, y7, y8, y9, rfl⟩, e1⟩ := hP
      have hk : (0 : Int) ≤ 0 + (i : Int) ∧ 0 + (i : Int) < 100 := by omega
      generalize (0 : Int) + (i : Int) = k at hk ⊢
      refine ⟨.ref a, rfl, .int k, rfl, a, ns, k, rfl, ex_l (e0.trans e1) hS, hk.1, hk.2, fun pa H2 hpa e2 pb => ?_⟩
      have hpa0 : H0 pa = none := fresh_back e1 hpa
      have g2 : Ex H0 H2 := e1.trans e2
      have hne : la ≠ pa := fun z => by
        rw [← z, hl0] at hpa0
        cases hpa0
      refine ⟨.ref pa, rfl, .ref la, rfl, pa, la, 900000000, rfl, g2 _ _ hl0, hne, pb.less (by decide), fun t b fa H3 hF pb3 e3 hfa0 hfa => ?_⟩
      have g3 := g2.keepB hpa0 e3
      have fne : fa ≠ pa := tup_ne pb3.isL hfa
      refine ⟨.ref pa, rfl, .ref la, rfl, pa, la, 800000000, rfl, g3 _ _ hl0, hne, pb3.less (by decide), fun p H4 hp pb4 e4 => ?_⟩
      have g4 := g3.keepB hpa0 e4
      have hfa4 := e4 _ _ fne hfa
      have pp := primesL_prime p hp
      have lo := primesL_lo hp
      obtain ⟨f1, f2, f3, f4, f5⟩ := id hF
      have tz : t.natAbs < 2 ^ 100 := by omega
      have bz : b.natAbs < 2 ^ 100 := by omega
      have lift : ∀ {a : Int} {i j : Nat}, i ≤ j → a.natAbs < 2 ^ i → a.natAbs < 2 ^ j := fun h k => Nat.lt_of_lt_of_le k (Nat.pow_le_pow_right (by decide) h)
      have tz' : t.natAbs < 2 ^ 120 := lift (by decide) tz
      have bz' : b.natAbs < 2 ^ 120 := lift (by decide) bz
      clear e3 hfa pb pb3
      -- for g in [..]
      dsimp only [gName_app]
      refine go_forI ⟨.ref pa, rfl, .ref la, rfl, pa, la, 700000000, rfl, g4 _ _ hl0, hne, pb4.less (by decide), fun u1 c1 ga1 H5 hF1 pb5 e5 _ hg1 => ?_⟩
      have hfa5 := e5 _ _ fne hfa4
      have g5 := g4.keepB hpa0 e5
      refine ⟨.ref pa, rfl, .ref fa, rfl, .int p, rfl, pa, fa, t, b, p, 600000000, rfl, hfa5, fne, hF, lo.1, lo.2, pb5.less (by decide), fun u2 c2 ga2 H6 k20 k21 k22 k23 pb6 e6 _ hg2 => ?_⟩
      have hfa6 := e6 _ _ fne hfa5
      have g6 := g5.keepB hpa0 e6
      refine ⟨.ref pa, rfl, .ref fa, rfl, .int p, rfl, pa, fa, t, b, p, 500000000, rfl, hfa6, fne, hF, lo.1, lo.2, pb6.less (by decide), fun u3 c3 ga3 H7 k30 k31 k32 k33 pb7 e7 _ hg3 => ?_⟩
      have hfa7 := e7 _ _ fne hfa6
      have g7 := g6.keepB hpa0 e7
      refine ⟨.ref fa, rfl, .ref fa, rfl, fa, _, 0, .int t, rfl, rfl, st_of hfa7, rfl, 0, t, rfl, rfl, .ref fa, rfl, fa, _, 1, .int b, rfl, rfl, st_of hfa7, rfl, sz_of (Nat.le_of_ble_eq_true rfl), fun ga5 hg5 => ⟨sz_of (Nat.le_of_ble_eq_true rfl), fun gl hgl => ?_⟩⟩
      have x8 := Ex.new (o := .tup [.int (0 - t), .int b]) hg5
      have x9 := Ex.new (o := .lst [.ref ga1, .ref ga2, .ref ga3, .ref fa, .ref ga5]) hgl
      have x89 := x8.trans x9
      have good : ∀ (j : Nat) (v : V), [V.ref ga1, .ref ga2, .ref ga3, .ref fa, .ref ga5][j]? = some v → ∃ u c ga, GoodG (upd (upd H7 ga5 (.tup [.int (0 - t), .int b])) gl (.lst [.ref ga1, .ref ga2, .ref ga3, .ref fa, .ref ga5])) v u c ga := fun j v hj => by
        obtain ⟨q1, q2, q3, q4, q5⟩ := id hF1
        have G1 : GoodG H5 (.ref ga1) u1 c1 ga1 := ⟨rfl, hg1, q1, q5, lift (i := 100) (by decide) (by omega), lift (i := 100) (by decide) (by omega)⟩
        have G2 : GoodG H6 (.ref ga2) u2 c2 ga2 := ⟨rfl, hg2, k20, k21, k22, k23⟩
        have G3 : GoodG H7 (.ref ga3) u3 c3 ga3 := ⟨rfl, hg3, k30, k31, k32, k33⟩
        have G4 : GoodG H7 (.ref fa) t b fa := ⟨rfl, hfa7, f1, f5, tz', bz'⟩
        have G5 : GoodG (upd H7 ga5 (.tup [.int (0 - t), .int b])) (.ref ga5) (0 - t) b ga5 := ⟨rfl, upd_same, f1, gcd_neg0 f5, by omega, bz'⟩
        match j, hj with
        | 0, hj => cases Option.some.inj hj; exact ⟨_, _, _, ((G1.dr pb5.isL e6).dr pb6.isL e7).up x89⟩
        | 1, hj => cases Option.some.inj hj; exact ⟨_, _, _, (G2.dr pb6.isL e7).up x89⟩
        | 2, hj => cases Option.some.inj hj; exact ⟨_, _, _, G3.up x89⟩
        | 3, hj => cases Option.some.inj hj; exact ⟨_, _, _, G4.up x89⟩
        | 4, hj => cases Option.some.inj hj; exact ⟨_, _, _, G5.up x9⟩
        | n + 5, hj => simp at hj
      have hgl8 : (upd (upd H7 ga5 (.tup [.int (0 - t), .int b])) gl (.lst [.ref ga1, .ref ga2, .ref ga3, .ref fa, .ref ga5])) gl = some (.lst [.ref ga1, .ref ga2, .ref ga3, .ref fa, .ref ga5]) := upd_same
      have glp : gl ≠ pa := (pb7.up x8).ne hgl
      have g8 := g7.trans x89
      have pb8 := pb7.up x89
      have hfa8 := x89 _ _ hfa7
      revert good hgl8 g8 pb8 hfa8
      generalize upd (upd H7 ga5 (.tup [.int (0 - t), .int b])) gl (.lst [.ref ga1, .ref ga2, .ref ga3, .ref fa, .ref ga5]) = H8
      intro good hgl8 g8 pb8 hfa8
      obtain ⟨gs, hgs⟩ : ∃ gs, gs = [V.ref ga1, .ref ga2, .ref ga3, .ref fa, .ref ga5] := ⟨_, rfl⟩
      have hgsl : gs.length = 5 := by rw [hgs]; rfl
      rw [← hgs] at good hgl8
      clear hgs
      clear x89 x9 x8 hgl hg5 e7 e6 e5 pb7 pb6 pb5 hfa7 hfa6 hfa5 hg1 hg2 hg3
      refine ⟨gl, rfl, ⟨_, sq_of hgl8⟩, for_list (xs := gs) (fun j σ H' => (∃ y6 y7 y8, σ = [some (.ref a), some (.ref la), some (.int k), some (.ref pa), some (.ref fa), some (.int p), y6, y7, y8, y9, none, none]) ∧ PoolB H' pa (100000000 - 1000 * j) ∧ ExB pa H8 H') ⟨⟨_, _, _, rfl⟩, pb8.less (by decide), ExB.refl _ _⟩ (fun j σ H' _ hP => sq_of (hP.2.2 _ _ glp hgl8)) (fun j x σ H9 hj hP => ?_) (fun σ H9 hP => ?_)⟩
      · obtain ⟨⟨y6, y7, y8, rfl⟩, pb9, e9⟩ := hP
        have hj5 : j < 5 := by
          have := (List.getElem?_eq_some_iff.mp hj).1
          omega
        obtain ⟨u, c, ga, hG⟩ := good j x hj
        have hG9 := hG.dr pb8.isL e9
        obtain ⟨rfl, hga9, c1, gg, uz, cz⟩ := hG9
        have hfa9 := e9 _ _ fne hfa8
        have gne : ga ≠ pa := tup_ne pb9.isL hga9
        have g9 := g8.keepB hpa0 e9
        dsimp only [gName_app]
        refine go_asg ⟨.ref fa, rfl, fa, _, 0, .int t, rfl, rfl, st_of hfa9, rfl, .ref ga, rfl, ga, _, 1, .int c, rfl, rfl, st_of hga9, rfl, t, c, rfl, rfl, wide_mul (a := 120) (b := 120) tz' cz (by decide) (by decide) (by decide), .ref ga, rfl, ga, _, 0, .int u, rfl, rfl, st_of hga9, rfl, .ref fa, rfl, fa, _, 1, .int b, rfl, rfl, st_of hfa9, rfl, u, b, rfl, rfl, wide_mul (a := 120) (b := 120) uz bz' (by decide) (by decide) (by decide), t * c, u * b, rfl, rfl, ?_⟩
        dsimp only
        generalize t * c - u * b = cr
        -- some
        refine go_asg ⟨.int p, rfl, sz_of (Nat.le_of_ble_eq_true rfl), fun l1 hl1 => ⟨8, rfl, by decide, by decide, fun D hD => lc_range (lo := 0) (n := 8) (fun i H' => (∃ ds : List Int, H' D = some (.lst (ds.map V.int)) ∧ ds.length = i ∧ ∀ x ∈ ds, x ∈ primesL) ∧ H' l1 = some (.lst [.int p]) ∧ PoolB H' pa (100000000 - 1000 * j - 10 - 10 * i) ∧ ExB pa H9 H') ?h0 (fun i H10 hi hP => ?_) (fun H10 hP => ?_)⟩⟩
        case h0 =>
          have y1 := Ex.new (o := .lst [.int p]) hl1
          have y2 := Ex.new (o := .lst []) hD
          exact ⟨⟨[], upd_same, rfl, fun x hx => nomatch hx⟩, y2 _ _ upd_same, ((pb9.up y1).up y2).less (by omega), ExB.of (y1.trans y2)⟩
        · have hDp : D ≠ pa := (pb9.up (Ex.new (o := .lst [.int p]) hl1)).ne hD
          have hD9 : H9 D = none := fresh_back (Ex.new (o := .lst [.int p]) hl1) hD
          have hDl : l1 ≠ D := ne_of_none (show (upd H9 l1 (.lst [.int p])) l1 = some (.lst [.int p]) from upd_same) hD
          have hlp : l1 ≠ pa := pb9.ne hl1
          obtain ⟨⟨ds, hD10, hdl, hdp⟩, hl10, pb10, e10⟩ := hP
          refine ⟨rfl, .ref pa, rfl, .ref la, rfl, pa, la, 100000000 - 1000 * j - 10 - 10 * (i + 1), rfl, e10 _ _ hne (g9 _ _ hl0), hne, pb10.less (by omega), fun r H11 hr pb11 e11 => ?_⟩
          refine ⟨_, e11 _ _ hDp hD10, sz_lt (by rw [List.length_map]; omega), ⟨ds ++ [r], ?_, by rw [List.length_append, hdl]; rfl, fun x hx => ?_⟩, ?_, pb11.dr2 (Ne.symm hDp) ExB.upd, exB_mut (e10.trans e11) hD9⟩
          · rw [upd_same, List.map_append]
            rfl
          · rcases List.mem_append.mp hx with z | z
            · exact hdp x z
            · rw [List.mem_singleton.mp z]
              exact hr
          · rw [upd_ne hDl]
            exact e11 _ _ hlp hl10
        obtain ⟨⟨ds, hD10, hdl, hdp⟩, hl10, pb10, e10⟩ := hP
        refine ⟨l1, D, _, _, rfl, rfl, hl10, hD10, sz_of (by rw [List.length_map, hdl]; exact Nat.le_of_ble_eq_true rfl), fun s1 hs1 => ?_⟩
        have y1 := Ex.new (o := .lst ([V.int p] ++ ds.map V.int)) hs1
        have hla10 : H10 la = some (.lst (primesL.map V.int)) := e10 _ _ hne (g9 _ _ hl0)
        refine ⟨.ref la, rfl, 25, rfl, la, _, rfl, sq_of (y1 _ _ hla10), fun s2 hs2 => ?_⟩
        have ct : cutV (primesL.map V.int) none (some 25) = (primesL.take 25).map V.int := by
          rw [List.map_take]
          exact cutTo (primesL.map V.int) 25
        rw [ct]
        have y2 := Ex.new (o := .lst ((primesL.take 25).map V.int)) hs2
        have l25 : (primesL.take 25).length = 25 := by rw [List.length_take, primesL_len]; rfl
        refine ⟨s1, s2, _, _, rfl, rfl, y2 _ _ upd_same, upd_same, sz_of (by rw [List.length_append, List.length_map, List.length_map, hdl, l25]; exact Nat.le_of_ble_eq_true rfl), fun s3 hs3 => ?_⟩
        have y3 := Ex.new (o := .lst ([V.int p] ++ ds.map V.int ++ (primesL.take 25).map V.int)) hs3
        have e1 : [V.int p] ++ ds.map V.int ++ (primesL.take 25).map V.int = ([p] ++ ds ++ primesL.take 25).map V.int := by rw [List.map_append, List.map_append]; rfl
        have hs33 : (upd (upd (upd H10 s1 (.lst ([V.int p] ++ ds.map V.int))) s2 (.lst ((primesL.take 25).map V.int))) s3 (.lst ([V.int p] ++ ds.map V.int ++ (primesL.take 25).map V.int))) s3 = some (.lst (([p] ++ ds ++ primesL.take 25).map V.int)) := by
          rw [upd_same, e1]
        have y13 := (y1.trans y2).trans y3
        have G1m : ∀ x ∈ [p] ++ ds ++ primesL.take 25, x ∈ primesL := fun x hx => by
          rcases List.mem_append.mp hx with z | z
          · rcases List.mem_append.mp z with z | z
            · rw [List.mem_singleton.mp z]
              exact hp
            · exact hdp x z
          · exact List.mem_of_mem_take z
        have G1l : ([p] ++ ds ++ primesL.take 25).length = 34 := by rw [List.length_append, List.length_append, hdl, l25]; rfl
        revert y13 hs33
        generalize upd (upd (upd H10 s1 (.lst ([V.int p] ++ ds.map V.int))) s2 (.lst ((primesL.take 25).map V.int))) s3 (.lst ([V.int p] ++ ds.map V.int ++ (primesL.take 25).map V.int)) = H11
        intro hs33 y13
        generalize [p] ++ ds ++ primesL.take 25 = G1 at hs33 G1m G1l
        clear y1 y2 y3 hs1 hs2 hs3 e1 hl1 hD
        have hla11 := y13 _ _ hla10
        have pb11 := pb10.up y13
        have e11 := e10.trans (ExB.of y13)
        -- some + [q for q in primes ..][:20]
        have hN : ∀ (σ : L2.St) {Hx : Hp}, σ = [some (.ref a), some (.ref la), some (.int k), some (.ref pa), some (.ref fa), some (.int p), some (.ref ga), some (.int cr), some (.ref s3), y9, none, none] → Ex H11 Hx → EvN (tLc (iList K (tVar 1)) (gName 9) (tTest (tOp rEq (tOp (rI (fun _ j => 0 < j) fun i j => .int (i % j)) (tVar 7) (tVar 9)) (tC (.int 0)))) (tVar 9) [9]) σ Hx ((primesL.filter (zB cr)).map PyData.int) := fun σ Hx hσ ex => by
          subst hσ
          rw [← flt_ints (zB cr) (fun d => zB cr (dI0 d)) (fun n => rfl) (fun d => d) (fun n => rfl) primesL]
          refine en_lcD _ (fun d => d) (ed_var rfl (.lst (ex _ _ hla11) (DtAll.ints primesL))) (by rw [List.length_map, primesL_len]; decide) (fun _ => rfl) (fun H4 v d e4 hm hv H5 e5 Q kk => ?_) (fun H4 v d e4 hm hv _ => ed_var rfl hv) (fun d hm _ => ?_)
          · obtain ⟨r, hr, rfl⟩ := List.mem_map.mp hm
            cases hv
            have lo := primesL_lo hr
            exact ⟨.int cr, rfl, .int r, rfl, cr, r, rfl, rfl, (show 0 < r by omega), rfl, _, rfl, kk H5 (Ex.refl _)⟩
          · obtain ⟨r, hr, rfl⟩ := List.mem_map.mp hm
            rfl
        dsimp only [gName_app]
        refine go_asg ⟨.ref s3, rfl, hN _ rfl (Ex.refl _) _ (Ex.refl _) _ fun ql H12 hql e12 a12 => ?_⟩
        obtain ⟨qac, q1, q2, _⟩ := a12
        have eq2 := DtAll.ints_eq _ q2
        subst eq2
        have fl := List.length_filter_le (zB cr) primesL
        rw [primesL_len] at fl
        refine ⟨20, rfl, ql, _, rfl, sq_of q1, fun s4 hs4 => ?_⟩
        have ct2 : cutV ((primesL.filter (zB cr)).map V.int) none (some 20) = ((primesL.filter (zB cr)).take 20).map V.int := by
          rw [List.map_take]
          exact cutTo ((primesL.filter (zB cr)).map V.int) 20
        rw [ct2]
        have y4 := Ex.new (o := .lst (((primesL.filter (zB cr)).take 20).map V.int)) hs4
        have F2m : ∀ x ∈ (primesL.filter (zB cr)).take 20, x ∈ primesL := fun x hx => (List.mem_filter.mp (List.mem_of_mem_take hx)).1
        have F2l : ((primesL.filter (zB cr)).take 20).length ≤ 20 := by rw [List.length_take]; omega
        generalize (primesL.filter (zB cr)).take 20 = F2 at y4 F2m F2l ⊢
        have e14 := e12.trans y4
        refine ⟨s3, s4, _, _, rfl, rfl, e14 _ _ hs33, upd_same, sz_of (by rw [List.length_map, List.length_map, G1l]; omega), fun s5 hs5 => ?_⟩
        have y5 := Ex.new (o := .lst (G1.map V.int ++ F2.map V.int)) hs5
        have hs55 : (upd (upd H12 s4 (.lst (F2.map V.int))) s5 (.lst (G1.map V.int ++ F2.map V.int))) s5 = some (.lst ((G1 ++ F2).map V.int)) := by
          rw [upd_same, List.map_append]
        have e15 := e14.trans y5
        have GFm : ∀ x ∈ G1 ++ F2, x ∈ primesL := fun x hx => by
          rcases List.mem_append.mp hx with z | z
          · exact G1m x z
          · exact F2m x z
        have GFl : (G1 ++ F2).length ≤ 54 := by rw [List.length_append]; omega
        revert hs55 e15
        generalize upd (upd H12 s4 (.lst (F2.map V.int))) s5 (.lst (G1.map V.int ++ F2.map V.int)) = H13
        intro hs55 e15
        generalize G1 ++ F2 = G at hs55 GFm GFl
        clear y4 y5 e14 hs4 hs5 q1 q2 e12
        -- each but where it stood ahead
        have hN2 : EvN (tLc (iRng1 (tCons (tCB (rLenS K) (tCons (tVar 8) tNil)) tNil)) (gName 11) (tTest (tOp (rIn K true) (tOp (rIxL K) (tVar 8) (tVar 11)) (tSl (rSlL K) (tVar 8) tNoPart (tPart (tVar 11))))) (tOp (rIxL K) (tVar 8) (tVar 11)) [11]) [some (.ref a), some (.ref la), some (.int k), some (.ref pa), some (.ref fa), some (.int p), some (.ref ga), some (.int cr), some (.ref s5), y9, none, none] H13 ((ddL G).map PyData.int) := by
          unfold ddL
          rw [List.map_map]
          refine en_lcR1 (hi := (G.length : Int)) (ddF G) (fun x => .int (iAt G x)) (fun Hy ey Q kk => ⟨.ref s5, rfl, s5, _, rfl, .inl (sq_of (ey _ _ hs55)), by rw [List.length_map]; exact kk Hy (Ex.refl _)⟩) ⟨by omega, by omega⟩ (fun _ => rfl) (fun x x0 x1 H9 e9 Q k => ?_) (fun x x0 x1 _ => ed_int fun H9 e9 Q k => ?_) (fun _ _ _ _ => rfl)
          · refine ⟨.ref s5, rfl, .int x, rfl, s5, _, x, .int (iAt G x), rfl, rfl, sq_of (e9 _ _ hs55), atI_of x0 (by rw [List.getElem?_map, iAt_get x0 x1]; rfl), ?_⟩
            refine ⟨.ref s5, rfl, .int x, rfl, x, rfl, s5, _, rfl, sq_of (e9 _ _ hs55), fun u hu => ?_⟩
            have ec : cutV (G.map V.int) none (some x) = (G.take x.toNat).map V.int := by
              rw [List.map_take, show x = ((x.toNat : Nat) : Int) by omega]
              exact cutTo _ _
            rw [ec]
            exact ⟨u, _, rfl, .inl (sq_of upd_same), rfl, flat_ints _, _, rfl, k _ (Ex.new hu)⟩
          · exact ⟨.ref s5, rfl, .int x, rfl, s5, _, x, .int (iAt G x), rfl, rfl, sq_of (e9 _ _ hs55), atI_of x0 (by rw [List.getElem?_map, iAt_get x0 x1]; rfl), k H9 (Ex.refl _)⟩
        dsimp only [gName_app]
        refine q_asgN hN2 fun dl H14 hdl14 e14 a14 => ?_
        obtain ⟨dac, d1, d2, _⟩ := a14
        have ed := DtAll.ints_eq _ d2
        subst ed
        obtain ⟨dd1, dd2, dd3⟩ := ddL_ok G
        have y14 := e15.trans e14
        have e914 := e11.trans (ExB.of y14)
        have hga14 := e914 _ _ gne hga9
        have hfa14 := e914 _ _ fne hfa9
        have hT14 := (hT0.up g9).dr pb9.isL e914
        refine ⟨.ref ga, rfl, .ref ga, _, rfl, .tup hga14 (.cons (.int _) (.cons (.int _) .nil)), _, rfl, itF (by rw [dFrac_of c1 gg]; rfl) ?_⟩
        refine ⟨.ref fa, rfl, .ref ga, rfl, .ref dl, rfl, fa, ga, dl, t, b, u, c, ddL G, rfl, hfa14, hga14, f1, c1, f5, gg, tz', bz', uz, cz, d1, by omega, dd1, fun r hr => primesL_prime r (GFm r (dd2 r hr)), hT14, fun H15 e15' => ⟨true, rfl, itF rfl ⟨⟨_, _, _, rfl⟩, ((pb11.up y14).up e15').less (by omega), (e9.trans e914).trans (ExB.of e15')⟩⟩⟩
      · obtain ⟨⟨y6, y7, y8, rfl⟩, pb9, e9⟩ := hP
        rw [hgsl] at pb9
        have g9 := g8.keepB hpa0 e9
        have hfa9 := e9 _ _ fne hfa8
        have hla9 := g9 _ _ hl0
        have wm : CMulW t b := wide_mul (a := 120) (b := 120) tz' bz' (by decide) (by decide) (by decide)
        -- for q in [p, 2, 3, 997] + [..][:6]
        refine ⟨.int p, rfl, sz_of (Nat.le_of_ble_eq_true rfl), fun l1 hl1 => ?_⟩
        have y1 := Ex.new (o := .lst [.int p, .int 2, .int 3, .int 997]) hl1
        have hN : EvN (tLc (iList K (tVar 1)) (gName 9) (tTest (tOp rEq (tOp (rI (fun _ j => 0 < j) fun i j => .int (i % j)) (tOp (rI CMulW fun i j => .int (i * j)) (tOp (rIxT K) (tVar 4) (tC (.int 0))) (tOp (rIxT K) (tVar 4) (tC (.int 1)))) (tVar 9)) (tC (.int 0)))) (tVar 9) [9]) [some (.ref a), some (.ref la), some (.int k), some (.ref pa), some (.ref fa), some (.int p), y6, y7, y8, y9, none, none] (upd H9 l1 (.lst [.int p, .int 2, .int 3, .int 997])) ((primesL.filter (zB (t * b))).map PyData.int) := by
          rw [← flt_ints (zB (t * b)) (fun d => zB (t * b) (dI0 d)) (fun n => rfl) (fun d => d) (fun n => rfl) primesL]
          refine en_lcD _ (fun d => d) (ed_var rfl (.lst (y1 _ _ hla9) (DtAll.ints primesL))) (by rw [List.length_map, primesL_len]; decide) (fun _ => rfl) (fun H4 v d e4 hm hv H5 e5 Q kk => ?_) (fun H4 v d e4 hm hv _ => ed_var rfl hv) (fun d hm _ => ?_)
          · obtain ⟨r, hr, rfl⟩ := List.mem_map.mp hm
            cases hv
            have lo := primesL_lo hr
            have hfx := e5 _ _ (e4 _ _ (y1 _ _ hfa9))
            exact ⟨.ref fa, rfl, fa, _, 0, .int t, rfl, rfl, st_of hfx, rfl, .ref fa, rfl, fa, _, 1, .int b, rfl, rfl, st_of hfx, rfl, t, b, rfl, rfl, wm, .int r, rfl, t * b, r, rfl, rfl, (show 0 < r by omega), rfl, _, rfl, kk H5 (Ex.refl _)⟩
          · obtain ⟨r, hr, rfl⟩ := List.mem_map.mp hm
            rfl
        refine hN _ (Ex.refl _) _ fun ql H10 hql e10 a10 => ?_
        obtain ⟨qac, q1, q2, _⟩ := a10
        have eq2 := DtAll.ints_eq _ q2
        subst eq2
        have fl := List.length_filter_le (zB (t * b)) primesL
        rw [primesL_len] at fl
        refine ⟨6, rfl, ql, _, rfl, sq_of q1, fun s4 hs4 => ?_⟩
        have ct2 : cutV ((primesL.filter (zB (t * b))).map V.int) none (some 6) = ((primesL.filter (zB (t * b))).take 6).map V.int := by
          rw [List.map_take]
          exact cutTo ((primesL.filter (zB (t * b))).map V.int) 6
        rw [ct2]
        have y4 := Ex.new (o := .lst (((primesL.filter (zB (t * b))).take 6).map V.int)) hs4
        have F2m : ∀ x ∈ (primesL.filter (zB (t * b))).take 6, x ∈ primesL := fun x hx => (List.mem_filter.mp (List.mem_of_mem_take hx)).1
        have F2l : ((primesL.filter (zB (t * b))).take 6).length ≤ 6 := by rw [List.length_take]; omega
        generalize (primesL.filter (zB (t * b))).take 6 = F2 at y4 F2m F2l ⊢
        have y14 := y1.trans (e10.trans y4)
        refine ⟨l1, s4, _, _, rfl, rfl, (e10.trans y4) _ _ upd_same, upd_same, sz_of (by rw [List.length_map]; show 4 + _ ≤ 100000; omega), fun s5 hs5 => ?_⟩
        have y5 := Ex.new (o := .lst ([V.int p, .int 2, .int 3, .int 997] ++ F2.map V.int)) hs5
        have hs55 : (upd (upd H10 s4 (.lst (F2.map V.int))) s5 (.lst ([V.int p, .int 2, .int 3, .int 997] ++ F2.map V.int))) s5 = some (.lst (([p, 2, 3, 997] ++ F2).map V.int)) := by
          rw [upd_same, List.map_append]
          rfl
        have e15 := y14.trans y5
        have sp5 : s5 ≠ pa := (pb9.up y14).ne hs5
        have GFm : ∀ x ∈ [p, 2, 3, 997] ++ F2, x ∈ primesL := fun x hx => by
          rcases List.mem_append.mp hx with z | z
          · have w2 : (2 : Int) ∈ primesL := by decide +kernel
            have w3 : (3 : Int) ∈ primesL := by decide +kernel
            have w9 : (997 : Int) ∈ primesL := by decide +kernel
            simp only [List.mem_cons, List.not_mem_nil, or_false] at z
            rcases z with rfl | rfl | rfl | rfl <;> assumption
          · exact F2m x z
        have GFl : ([p, 2, 3, 997] ++ F2).length ≤ 10 := by rw [List.length_append]; show 4 + _ ≤ 10; omega
        revert hs55 e15
        generalize upd (upd H10 s4 (.lst (F2.map V.int))) s5 (.lst ([V.int p, .int 2, .int 3, .int 997] ++ F2.map V.int)) = H11
        intro hs55 e15
        generalize [p, 2, 3, 997] ++ F2 = G at hs55 GFm GFl
        refine ⟨s5, rfl, ⟨_, sq_of hs55⟩, for_list (xs := G.map V.int) (fun j σ H' => (∃ y9, σ = [some (.ref a), some (.ref la), some (.int k), some (.ref pa), some (.ref fa), some (.int p), y6, y7, y8, y9, none, none]) ∧ PoolB H' pa (1000 - j) ∧ ExB pa H11 H') ⟨⟨_, rfl⟩, (pb9.up e15).less (by decide), ExB.refl _ _⟩ (fun j σ H' _ hP => sq_of (hP.2.2 _ _ sp5 hs55)) (fun j x σ H12 hj hP => ?_) (fun σ H12 hP => ?_)⟩
        · obtain ⟨⟨y9', rfl⟩, pb12, e12⟩ := hP
          have hj10 : j < 10 := by
            have := (List.getElem?_eq_some_iff.mp hj).1
            rw [List.length_map] at this
            omega
          obtain ⟨r, hr, rfl⟩ : ∃ r, G[j]? = some r ∧ x = .int r := by
            rw [List.getElem?_map] at hj
            cases hr : G[j]? with
            | none =>
              rw [hr] at hj
              cases hj
            | some r =>
              rw [hr] at hj
              exact ⟨r, rfl, (Option.some.inj hj).symm⟩
          have rp := primesL_prime r (GFm r (List.mem_of_getElem? hr))
          refine ⟨.int r, rfl, .int r, .int r, rfl, .int r, _, rfl, itF (by show (!primeB r) = false; rw [rp]; rfl) ?_⟩
          refine ⟨.ref pa, rfl, .ref fa, rfl, .int r, rfl, pa, fa, t, b, r, 1000 - (j + 1), rfl, e12 _ _ fne (e15 _ _ hfa9), fne, hF, rp, pb12.less (by omega), fun H13 pb13 e13 => ⟨true, rfl, itF rfl ⟨⟨_, rfl⟩, pb13, e12.trans e13⟩⟩⟩
        · obtain ⟨⟨y9', rfl⟩, pb12, e12⟩ := hP
          exact ⟨⟨_, _, _, _, _, _, _, _, rfl⟩, g9.trans e15 |>.keepB hpa0 e12⟩
    · obtain ⟨⟨y2, y3, y4, y5, y6, y7, y8, y9, rfl⟩, e1⟩ := hP
      exact q _ (e0.trans e1)
end
set_option maxHeartbeats 0
theorem facts {P : Program} {w : World} {K : PySem.W.Frag} {h : Heap} {mg : Str → Option Value} {f : Addr} (X : K.In h) (G : h.Ns mainGlobals mg) (hfa : mg ("law" : Str) = some (.ref f)) (ct : SaysT xfL faL fnL gnL K h) :
    ∃ (z : Ad) (fd : FuncData), (∀ (s : Shared) (v : Value), BindsTo s fd ⟨[v], []⟩ [("script", v)]) ∧ (z.p_is_readings = tabA K "is_readings") ∧ ∀ base : Heap, K.In base → base.Ns mainGlobals mg → (∃ o, base.get? sysModules = some o) → FnG P w K mg base CX0 12 f fd ["script"] (sp_law K z) := by
  have c0 := ct.y.2
  have c : He.SaysD faL fnL K := c0.2
  obtain ⟨fd_is_whole, F_is_whole⟩ := c.def_ 0 (d := dd_is_whole) rfl
  obtain ⟨fd_is_whole_below, F_is_whole_below⟩ := c.def_ 1 (d := dd_is_whole_below) rfl
  obtain ⟨fd_common_divisor, F_common_divisor⟩ := c.def_ 2 (d := dd_common_divisor) rfl
  obtain ⟨fd_short_row, F_short_row⟩ := c.def_ 3 (d := dd_short_row) rfl
  obtain ⟨fd_inverse, F_inverse⟩ := c.def_ 4 (d := dd_inverse) rfl
  obtain ⟨fd_is_pair, F_is_pair⟩ := c.def_ 5 (d := dd_is_pair) rfl
  obtain ⟨fd_is_fraction, F_is_fraction⟩ := c.def_ 6 (d := dd_is_fraction) rfl
  obtain ⟨fd_is_prime, F_is_prime⟩ := c.def_ 7 (d := dd_is_prime) rfl
  obtain ⟨fd_need_fraction, F_need_fraction⟩ := c.def_ 8 (d := dd_need_fraction) rfl
  obtain ⟨fd_need_prime, F_need_prime⟩ := c.def_ 9 (d := dd_need_prime) rfl
  obtain ⟨fd_rest_by, F_rest_by⟩ := c.def_ 10 (d := dd_rest_by) rfl
  obtain ⟨fd_rest_of, F_rest_of⟩ := c.def_ 11 (d := dd_rest_of) rfl
  obtain ⟨fd_rests_of, F_rests_of⟩ := c.def_ 12 (d := dd_rests_of) rfl
  obtain ⟨fd_is_rest, F_is_rest⟩ := c.def_ 13 (d := dd_is_rest) rfl
  obtain ⟨fd_is_reading, F_is_reading⟩ := c.def_ 14 (d := dd_is_reading) rfl
  obtain ⟨fd_is_readings, F_is_readings⟩ := c.def_ 15 (d := dd_is_readings) rfl
  obtain ⟨fd_need_readings, F_need_readings⟩ := c.def_ 16 (d := dd_need_readings) rfl
  obtain ⟨fd_keeps, F_keeps⟩ := c.def_ 17 (d := dd_keeps) rfl
  obtain ⟨fd_not_kept, F_not_kept⟩ := c.def_ 18 (d := dd_not_kept) rfl
  obtain ⟨fd__law_pool, F__law_pool⟩ := c.def_ 19 (d := dd__law_pool) rfl
  obtain ⟨fd__law_take, F__law_take⟩ := c.def_ 20 (d := dd__law_take) rfl
  obtain ⟨fd__law_far, F__law_far⟩ := c.def_ 21 (d := dd__law_far) rfl
  obtain ⟨fd__law_all_primes, F__law_all_primes⟩ := c.def_ 22 (d := dd__law_all_primes) rfl
  obtain ⟨fd__law_prime, F__law_prime⟩ := c.def_ 23 (d := dd__law_prime) rfl
  obtain ⟨fd__law_shared, F__law_shared⟩ := c.def_ 24 (d := dd__law_shared) rfl
  obtain ⟨fd__law_low, F__law_low⟩ := c.def_ 25 (d := dd__law_low) rfl
  obtain ⟨fd__law_fraction, F__law_fraction⟩ := c.def_ 26 (d := dd__law_fraction) rfl
  obtain ⟨fd__law_near, F__law_near⟩ := c.def_ 27 (d := dd__law_near) rfl
  obtain ⟨fd__law_two_right, F__law_two_right⟩ := c.def_ 28 (d := dd__law_two_right) rfl
  obtain ⟨fd__law_other_ways, F__law_other_ways⟩ := c.def_ 29 (d := dd__law_other_ways) rfl
  obtain ⟨fd_law, F_law⟩ := c.def_ 30 (d := dd_law) rfl
  obtain ⟨t_PRIME_LIMIT, c_PRIME_LIMIT⟩ := He.int_ok X G (c.fact 44 (f := .int "PRIME_LIMIT" 1000) rfl)
  obtain ⟨t_MOST_READINGS, c_MOST_READINGS⟩ := He.int_ok X G (c.fact 45 (f := .int "MOST_READINGS" 10) rfl)
  have e := hfa.symm.trans (He.glo_ok X G (c.fact 30 (f := .glo "law") rfl))
  cases e
  have b := FunD.bindsA (ps := ["script"]) F_law fun _ _ _ _ _ _ us hl => match us, hl with | [_], _ => rfl
  refine ⟨⟨He.ga K "is_whole", fd_is_whole, He.ga K "is_whole_below", fd_is_whole_below, He.ga K "common_divisor", fd_common_divisor, He.ga K "short_row", fd_short_row, He.ga K "inverse", fd_inverse, He.ga K "is_pair", fd_is_pair, He.ga K "is_fraction", fd_is_fraction, He.ga K "is_prime", fd_is_prime, He.ga K "need_fraction", fd_need_fraction, He.ga K "need_prime", fd_need_prime, He.ga K "rest_by", fd_rest_by, He.ga K "rest_of", fd_rest_of, He.ga K "rests_of", fd_rests_of, He.ga K "is_rest", fd_is_rest, He.ga K "is_reading", fd_is_reading, He.ga K "is_readings", fd_is_readings, He.ga K "need_readings", fd_need_readings, He.ga K "keeps", fd_keeps, He.ga K "not_kept", fd_not_kept, He.ga K "_law_pool", fd__law_pool, He.ga K "_law_take", fd__law_take, He.ga K "_law_far", fd__law_far, He.ga K "_law_all_primes", fd__law_all_primes, He.ga K "_law_prime", fd__law_prime, He.ga K "_law_shared", fd__law_shared, He.ga K "_law_low", fd__law_low, He.ga K "_law_fraction", fd__law_fraction, He.ga K "_law_near", fd__law_near, He.ga K "_law_two_right", fd__law_two_right, He.ga K "_law_other_ways", fd__law_other_ways, He.ga K "law", fd_law, t_PRIME_LIMIT, t_MOST_READINGS, He.ga K "BackError", He.ga K "NoFraction", He.ga K "NoPrime", He.ga K "NoReadings", codeA K "is_readings", tabA K "is_readings"⟩, fd_law, fun s v => b s [v] rfl, rfl, fun base KB _ sy => ?_⟩
  have T : Txt K mg base ⟨He.ga K "is_whole", fd_is_whole, He.ga K "is_whole_below", fd_is_whole_below, He.ga K "common_divisor", fd_common_divisor, He.ga K "short_row", fd_short_row, He.ga K "inverse", fd_inverse, He.ga K "is_pair", fd_is_pair, He.ga K "is_fraction", fd_is_fraction, He.ga K "is_prime", fd_is_prime, He.ga K "need_fraction", fd_need_fraction, He.ga K "need_prime", fd_need_prime, He.ga K "rest_by", fd_rest_by, He.ga K "rest_of", fd_rest_of, He.ga K "rests_of", fd_rests_of, He.ga K "is_rest", fd_is_rest, He.ga K "is_reading", fd_is_reading, He.ga K "is_readings", fd_is_readings, He.ga K "need_readings", fd_need_readings, He.ga K "keeps", fd_keeps, He.ga K "not_kept", fd_not_kept, He.ga K "_law_pool", fd__law_pool, He.ga K "_law_take", fd__law_take, He.ga K "_law_far", fd__law_far, He.ga K "_law_all_primes", fd__law_all_primes, He.ga K "_law_prime", fd__law_prime, He.ga K "_law_shared", fd__law_shared, He.ga K "_law_low", fd__law_low, He.ga K "_law_fraction", fd__law_fraction, He.ga K "_law_near", fd__law_near, He.ga K "_law_two_right", fd__law_two_right, He.ga K "_law_other_ways", fd__law_other_ways, He.ga K "law", fd_law, t_PRIME_LIMIT, t_MOST_READINGS, He.ga K "BackError", He.ga K "NoFraction", He.ga K "NoPrime", He.ga K "NoReadings", codeA K "is_readings", tabA K "is_readings"⟩ :=
    { F_is_whole := F_is_whole,
      g_is_whole := He.glo_ok X G (c.fact 0 (f := .glo "is_whole") rfl),
      b_is_whole := F_is_whole.bindsN fun _ _ _ _ _ _ us hl => match us, hl with | [_], _ => rfl,
      F_is_whole_below := F_is_whole_below,
      g_is_whole_below := He.glo_ok X G (c.fact 1 (f := .glo "is_whole_below") rfl),
      b_is_whole_below := F_is_whole_below.bindsN fun _ _ _ _ _ _ us hl => match us, hl with | [_, _], _ => rfl,
      F_common_divisor := F_common_divisor,
      g_common_divisor := He.glo_ok X G (c.fact 2 (f := .glo "common_divisor") rfl),
      b_common_divisor := F_common_divisor.bindsN fun _ _ _ _ _ _ us hl => match us, hl with | [_, _], _ => rfl,
      F_short_row := F_short_row,
      g_short_row := He.glo_ok X G (c.fact 3 (f := .glo "short_row") rfl),
      b_short_row := F_short_row.bindsN fun _ _ _ _ _ _ us hl => match us, hl with | [_, _, _], _ => rfl,
      F_inverse := F_inverse,
      g_inverse := He.glo_ok X G (c.fact 4 (f := .glo "inverse") rfl),
      b_inverse := F_inverse.bindsN fun _ _ _ _ _ _ us hl => match us, hl with | [_, _], _ => rfl,
      F_is_pair := F_is_pair,
      g_is_pair := He.glo_ok X G (c.fact 5 (f := .glo "is_pair") rfl),
      b_is_pair := F_is_pair.bindsN fun _ _ _ _ _ _ us hl => match us, hl with | [_], _ => rfl,
      F_is_fraction := F_is_fraction,
      g_is_fraction := He.glo_ok X G (c.fact 6 (f := .glo "is_fraction") rfl),
      b_is_fraction := F_is_fraction.bindsN fun _ _ _ _ _ _ us hl => match us, hl with | [_], _ => rfl,
      F_is_prime := F_is_prime,
      g_is_prime := He.glo_ok X G (c.fact 7 (f := .glo "is_prime") rfl),
      b_is_prime := F_is_prime.bindsN fun _ _ _ _ _ _ us hl => match us, hl with | [_], _ => rfl,
      F_need_fraction := F_need_fraction,
      g_need_fraction := He.glo_ok X G (c.fact 8 (f := .glo "need_fraction") rfl),
      b_need_fraction := F_need_fraction.bindsN fun _ _ _ _ _ _ us hl => match us, hl with | [_], _ => rfl,
      F_need_prime := F_need_prime,
      g_need_prime := He.glo_ok X G (c.fact 9 (f := .glo "need_prime") rfl),
      b_need_prime := F_need_prime.bindsN fun _ _ _ _ _ _ us hl => match us, hl with | [_], _ => rfl,
      F_rest_by := F_rest_by,
      g_rest_by := He.glo_ok X G (c.fact 10 (f := .glo "rest_by") rfl),
      b_rest_by := F_rest_by.bindsN fun _ _ _ _ _ _ us hl => match us, hl with | [_, _], _ => rfl,
      F_rest_of := F_rest_of,
      g_rest_of := He.glo_ok X G (c.fact 11 (f := .glo "rest_of") rfl),
      b_rest_of := F_rest_of.bindsN fun _ _ _ _ _ _ us hl => match us, hl with | [_, _], _ => rfl,
      F_rests_of := F_rests_of,
      g_rests_of := He.glo_ok X G (c.fact 12 (f := .glo "rests_of") rfl),
      b_rests_of := F_rests_of.bindsN fun _ _ _ _ _ _ us hl => match us, hl with | [_, _], _ => rfl,
      F_is_rest := F_is_rest,
      g_is_rest := He.glo_ok X G (c.fact 13 (f := .glo "is_rest") rfl),
      b_is_rest := F_is_rest.bindsN fun _ _ _ _ _ _ us hl => match us, hl with | [_, _], _ => rfl,
      F_is_reading := F_is_reading,
      g_is_reading := He.glo_ok X G (c.fact 14 (f := .glo "is_reading") rfl),
      b_is_reading := F_is_reading.bindsN fun _ _ _ _ _ _ us hl => match us, hl with | [_], _ => rfl,
      F_is_readings := F_is_readings,
      g_is_readings := He.glo_ok X G (c.fact 15 (f := .glo "is_readings") rfl),
      b_is_readings := F_is_readings.bindsN fun _ _ _ _ _ _ us hl => match us, hl with | [_], _ => rfl,
      F_need_readings := F_need_readings,
      g_need_readings := He.glo_ok X G (c.fact 16 (f := .glo "need_readings") rfl),
      b_need_readings := F_need_readings.bindsN fun _ _ _ _ _ _ us hl => match us, hl with | [_], _ => rfl,
      F_keeps := F_keeps,
      g_keeps := He.glo_ok X G (c.fact 17 (f := .glo "keeps") rfl),
      b_keeps := F_keeps.bindsN fun _ _ _ _ _ _ us hl => match us, hl with | [_, _], _ => rfl,
      F_not_kept := F_not_kept,
      g_not_kept := He.glo_ok X G (c.fact 18 (f := .glo "not_kept") rfl),
      b_not_kept := F_not_kept.bindsN fun _ _ _ _ _ _ us hl => match us, hl with | [_, _], _ => rfl,
      F__law_pool := F__law_pool,
      g__law_pool := He.glo_ok X G (c.fact 19 (f := .glo "_law_pool") rfl),
      b__law_pool := F__law_pool.bindsN fun _ _ _ _ _ _ us hl => match us, hl with | [_, _], _ => rfl,
      F__law_take := F__law_take,
      g__law_take := He.glo_ok X G (c.fact 20 (f := .glo "_law_take") rfl),
      b__law_take := F__law_take.bindsN fun _ _ _ _ _ _ us hl => match us, hl with | [_, _], _ => rfl,
      F__law_far := F__law_far,
      g__law_far := He.glo_ok X G (c.fact 21 (f := .glo "_law_far") rfl),
      b__law_far := F__law_far.bindsN fun _ _ _ _ _ _ us hl => match us, hl with | [_, _], _ => rfl,
      F__law_all_primes := F__law_all_primes,
      g__law_all_primes := He.glo_ok X G (c.fact 22 (f := .glo "_law_all_primes") rfl),
      b__law_all_primes := F__law_all_primes.bindsN fun _ _ _ _ _ _ us hl => match us, hl with | [], _ => rfl,
      F__law_prime := F__law_prime,
      g__law_prime := He.glo_ok X G (c.fact 23 (f := .glo "_law_prime") rfl),
      b__law_prime := F__law_prime.bindsN fun _ _ _ _ _ _ us hl => match us, hl with | [_, _], _ => rfl,
      F__law_shared := F__law_shared,
      g__law_shared := He.glo_ok X G (c.fact 24 (f := .glo "_law_shared") rfl),
      b__law_shared := F__law_shared.bindsN fun _ _ _ _ _ _ us hl => match us, hl with | [_, _], _ => rfl,
      F__law_low := F__law_low,
      g__law_low := He.glo_ok X G (c.fact 25 (f := .glo "_law_low") rfl),
      b__law_low := F__law_low.bindsN fun _ _ _ _ _ _ us hl => match us, hl with | [_, _], _ => rfl,
      F__law_fraction := F__law_fraction,
      g__law_fraction := He.glo_ok X G (c.fact 26 (f := .glo "_law_fraction") rfl),
      b__law_fraction := F__law_fraction.bindsN fun _ _ _ _ _ _ us hl => match us, hl with | [_, _], _ => rfl,
      F__law_near := F__law_near,
      g__law_near := He.glo_ok X G (c.fact 27 (f := .glo "_law_near") rfl),
      b__law_near := F__law_near.bindsN fun _ _ _ _ _ _ us hl => match us, hl with | [_, _, _], _ => rfl,
      F__law_two_right := F__law_two_right,
      g__law_two_right := He.glo_ok X G (c.fact 28 (f := .glo "_law_two_right") rfl),
      b__law_two_right := F__law_two_right.bindsN fun _ _ _ _ _ _ us hl => match us, hl with | [_, _, _], _ => rfl,
      F__law_other_ways := F__law_other_ways,
      g__law_other_ways := He.glo_ok X G (c.fact 29 (f := .glo "_law_other_ways") rfl),
      b__law_other_ways := F__law_other_ways.bindsN fun _ _ _ _ _ _ us hl => match us, hl with | [_, _, _], _ => rfl,
      F_law := F_law,
      g_law := He.glo_ok X G (c.fact 30 (f := .glo "law") rfl),
      b_law := F_law.bindsN fun _ _ _ _ _ _ us hl => match us, hl with | [_], _ => rfl,
      m_isinstance := He.free_ok X G (c.fact 31 (f := .free "isinstance") rfl),
      m_bool := He.free_ok X G (c.fact 32 (f := .free "bool") rfl),
      m_int := He.free_ok X G (c.fact 33 (f := .free "int") rfl),
      m_len := He.free_ok X G (c.fact 34 (f := .free "len") rfl),
      m_tuple := He.free_ok X G (c.fact 35 (f := .free "tuple") rfl),
      m_list := He.free_ok X G (c.fact 36 (f := .free "list") rfl),
      m_all := He.free_ok X G (c.fact 37 (f := .free "all") rfl),
      m_enumerate := He.free_ok X G (c.fact 38 (f := .free "enumerate") rfl),
      m_range := He.free_ok X G (c.fact 39 (f := .free "range") rfl),
      m_abs := He.free_ok X G (c.fact 40 (f := .free "abs") rfl),
      m_zip := He.free_ok X G (c.fact 41 (f := .free "zip") rfl),
      m_max := He.free_ok X G (c.fact 42 (f := .free "max") rfl),
      m_min := He.free_ok X G (c.fact 43 (f := .free "min") rfl),
      c_PRIME_LIMIT := c_PRIME_LIMIT,
      c_MOST_READINGS := c_MOST_READINGS,
      k_BackError := He.glo_ok X G (c.fact 46 (f := .glo "BackError") rfl),
      x_BackError := excFacts_of (c.fact 47 (f := .exc "BackError") rfl),
      k_NoFraction := He.glo_ok X G (c.fact 48 (f := .glo "NoFraction") rfl),
      x_NoFraction := excFacts_of (c.fact 49 (f := .exc "NoFraction") rfl),
      k_NoPrime := He.glo_ok X G (c.fact 50 (f := .glo "NoPrime") rfl),
      x_NoPrime := excFacts_of (c.fact 51 (f := .exc "NoPrime") rfl),
      k_NoReadings := He.glo_ok X G (c.fact 52 (f := .glo "NoReadings") rfl),
      x_NoReadings := excFacts_of (c.fact 53 (f := .exc "NoReadings") rfl),
      sm := smB_ok ct.y.1,
      sys := sy,
      cd_is_readings := ct.code F_is_readings (.head _),
      tb_is_readings := ct.tab X G KB (He.glo_ok X G (c.fact 54 (f := .glo "__builtins__") rfl)) (.head _) }
  exact FnG.of (ok_law T)
end TB
open PySem PySem.W PySem.Calls PyProof.Rows
set_option maxHeartbeats 0 in
theorem PySem.Challenge.cw_toldback_k10_whole_rests_alike_holds : PySem.Challenge.rw_toldback_k10_whole_rests_alike.Holds := by
  w_on; o_law
  refine HandSHeadRun.head_any (r := OpenLaw.row PySem.Challenge.rw_toldback_k10_whole_rests_alike) (q := view (OpenLaw.row PySem.Challenge.rw_toldback_k10_whole_rests_alike).prog [40]) (H := TB.hk) (ob := TB.ob) (M := 12000) (loose := TB.looseL) (d := HandSHeadRun.topDef (OpenLaw.row PySem.Challenge.rw_toldback_k10_whole_rests_alike).prog 40) (kwd := []) TB.ob_eq
    (by kernel_rfl) (fun s => by kernel_rfl) TB.run (by kernel_rfl) (by kernel_rfl) (by kernel_rfl) (by rfl) (by first | assumption | decide +kernel) (by decide +kernel) ⟨rfl, rfl, rfl, rfl, rfl, by decide +kernel⟩ ?hw ?hc
  case hw => w_witness2
  case hc =>
    refine TB.walkT (l := PySem.Challenge.rw_toldback_k10_whole_rests_alike) (n := 63) (k := 12) (x := "script") rfl (by decide) (by kernel_rfl) ⟨rfl, by decide, by decide⟩ (by kernel_rfl) ?F
    intro w mg fa h Y G hmg0
    obtain ⟨K, KX, c⟩ := Y
    have hmg : mg ("law" : PySem.Str) = some (.ref fa) := by
      have e : (HandSHeadRun.topDef (OpenLaw.row PySem.Challenge.rw_toldback_k10_whole_rests_alike).prog 40).name = ("law" : PySem.Str) := by kernel_rfl
      rw [← e]
      exact hmg0
    obtain ⟨z, fd, hb, hz, hF⟩ := TB.facts (P := (PySem.Challenge.rw_toldback_k10_whole_rests_alike).prog) (w := w) KX G hmg c
    refine ⟨K, fd, TB.gnL.map fun x => (TB.codeA K x, TB.tabA K x), TB.sp_law K z, KX, fun p hp => ?_, fun p hp => ?_, fun p hp => ?_, hb, fun H a ns hl hH hS => TB.law_start hl (by unfold TB.Tabs; rw [hz]; exact hH _ (List.mem_map.mpr ⟨"is_readings", (.head _), rfl⟩)) hS, hF⟩
    · obtain ⟨x, hx, rfl⟩ := List.mem_map.mp hp
      exact c.em x hx
    · obtain ⟨x, hx, rfl⟩ := List.mem_map.mp hp
      exact c.no KX hx
    · obtain ⟨x, hx, rfl⟩ := List.mem_map.mp hp
      exact (TB.codeB_ok (c.cd x hx)).hd _ KX
