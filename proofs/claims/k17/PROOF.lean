import PyProof.Rows.All
import Wide.All
import OpenK.AllK
import Wide.FinOn
import KE.KStateDown
import Lean
import HandS.Base
import HandS.Call
import HandS.List
import HandS.Comp
import HandS.Ends
import HandS.More
import HandS.Dict
import HandS.Iter
import HandS.Walk
import HandS.Text
import HandS.Words
import HandS.WordsList
import HandS.WordsExc
import HandS.Defaults
import HandS.Wide
import HandS.IsInst
import HandS.Style
import HandS.Evl
import HandS.Steps
import HandS.RaiseMore
import HandS.Head0
import HandS.Head1
import HandS.Head2
import HandS.HeadEnd
import HandS.HeadHook1
import HandS.HeadHook2
import HandS.ExcIs
import HandS.ExcValue
import HandS.FStr
import KE.KExcMore
import HandS.TryOnly
import HandS.AnyAll
import HandS.GenList
import HandS.Set
import HandS.Strs
import HandS.SetBool
import HandS.Conv
import HandS.RevRange
import HandS.TryOnly
import KE.KTupSum
import KE.KDictZip
import KE.KDictPairs
import HandS.Deep
import HandS.SetFor
import PySem.Challenge.RW_toldback_k17_refused_all_right
set_option Elab.async false
set_option linter.all false
set_option maxRecDepth 100000
set_option maxHeartbeats 4000000
namespace TB
open PySem PySem.Spec PyProof.Rows L2 Evl
/-! ### facts about the classes, by names -/
inductive XF where
  | exc (x : Str)
  | str (x : Str)
  | kit (x y : Str) (b : Bool)
  | kitT (x : Str) (t : String) (b : Bool)
  | exm (x y : Str) (b : Bool)
def XF.ok (K : PySem.W.Frag) : XF → Bool
  | .exc x => He.eqO (PySem.W.findIn K (.ref (He.ga K x)) "__getattribute__") (some (some (.builtin "BaseException.__getattribute__"))) && (He.eqO (PySem.W.findIn K (.ref (He.ga K x)) "__getattr__") (some none) &&
      (decide (PySem.W.subIn K (.ref (He.ga K x)) (.type "BaseException") = some true) && (PySem.W.hasDictIn K (He.ga K x) && (He.eqO (PySem.W.findIn K (.ref (He.ga K x)) "__class__") (some (some (.builtin "object.__class__"))) &&
      (He.eqO (PySem.W.specialIn K (.builtin "object.__class__") "__get__") (some (some (.builtin "getset_descriptor.__get__"))) && (decide (PySem.W.takesIn K (.builtin "object.__class__") = some true) && decide (PySem.W.mroIn K (He.ga K x) (.type "object") = some true)))))))
  | .str x => He.eqO (PySem.W.findIn K (.ref (He.ga K x)) "__str__") (some (some (.builtin "BaseException.__str__")))
  | .kit x y b => decide (PySem.W.kitOne K (.ref (He.ga K x)) (.ref (He.ga K y)) = some b)
  | .kitT x t b => decide (PySem.W.kitOne K (.ref (He.ga K x)) (.type t) = some b)
  | .exm x y b => decide (PySem.W.exmOne K (.ref (He.ga K x)) (.ref (He.ga K y)) = some b)
theorem xf_exc {K : PySem.W.Frag} {x : Str} (c : (XF.exc x).ok K = true) : L2.ExcC K (He.ga K x) := by
  obtain ⟨c1, c⟩ := He.ba c
  obtain ⟨c2, c⟩ := He.ba c
  obtain ⟨c3, c⟩ := He.ba c
  obtain ⟨c4, c⟩ := He.ba c
  obtain ⟨c5, c⟩ := He.ba c
  obtain ⟨c6, c⟩ := He.ba c
  obtain ⟨c7, c8⟩ := He.ba c
  exact ⟨He.eqO_ok c1, He.eqO_ok c2, of_decide_eq_true c3, c4, He.eqO_ok c5, He.eqO_ok c6, of_decide_eq_true c7, of_decide_eq_true c8⟩
theorem xf_str {K : PySem.W.Frag} {x : Str} (c : (XF.str x).ok K = true) : PySem.W.findIn K (.ref (He.ga K x)) "__str__" = some (some (.builtin "BaseException.__str__")) := He.eqO_ok c
theorem xf_kit {K : PySem.W.Frag} {x y : Str} {b : Bool} (c : (XF.kit x y b).ok K = true) : PySem.W.kitOne K (.ref (He.ga K x)) (.ref (He.ga K y)) = some b := of_decide_eq_true c
theorem xf_kitT {K : PySem.W.Frag} {x : Str} {t : String} {b : Bool} (c : (XF.kitT x t b).ok K = true) : PySem.W.kitOne K (.ref (He.ga K x)) (.type t) = some b := of_decide_eq_true c
theorem xf_exm {K : PySem.W.Frag} {x y : Str} {b : Bool} (c : (XF.exm x y b).ok K = true) : PySem.W.exmOne K (.ref (He.ga K x)) (.ref (He.ga K y)) = some b := of_decide_eq_true c
abbrev AlX : Type := Bool × He.AlD
def SaysX (xf : List XF) (fa : List He.Fa) (fn : List He.DefD) (K : PySem.W.Frag) : Prop := (xf.all fun f => f.ok K) = true ∧ He.SaysD fa fn K
theorem SaysX.x {xf : List XF} {fa : List He.Fa} {fn : List He.DefD} {K : PySem.W.Frag} (c : SaysX xf fa fn K) (i : Nat) {f : XF} (h : xf[i]? = some f := by rfl) : f.ok K = true := List.all_eq_true.mp c.1 f (List.mem_of_getElem? h)
def obsX (n : Nat) (xf : List XF) (fa : List He.Fa) (fn : List He.DefD) (g : Addr → Option Obj) : AlX := (xf.all fun f => f.ok (He.frG g (He.asD g n)), He.obsD fa fn (He.frG g (He.asD g n)))
def hookX (n : Nat) (xf : List XF) (fa : List He.Fa) (fn : List He.DefD) : PySem.W.Hook where
  α := AlX
  obs := fun s => obsX n xf fa fn s.heap.get?
  val := fun _ => (true, He.valD fn)
  says := fun _ h => ∃ K : PySem.W.Frag, K.In h ∧ SaysX xf fa fn K
  of := fun _ _ e => ⟨_, He.frG_in, congrArg (fun z : AlX => z.1) e, congrArg (fun z : AlX => z.2) e⟩
  keeps := fun _ _ _ ⟨K, hK, c⟩ k => ⟨K, PySem.W.Frag.In.keeps hK k, c⟩
theorem obsX_eq {n : Nat} {xf : List XF} {fa : List He.Fa} {fn : List He.DefD} {g : Addr → Option Obj} {s : Shared} (h : ∀ a, g a = s.heap.get? a) : obsX n xf fa fn g = (hookX n xf fa fn).obs s := by
  have e : g = s.heap.get? := funext h
  rw [e] <;> rfl
/-- sys.modules stands among what is known, a dict -/
def SMK (K : PySem.W.Frag) : Prop := ∃ o es ep, K.lookup sysModules = some o ∧ o.data = .dict es ep
/-! ### facts about the classes, by names, and sys.modules -/
def smB (K : PySem.W.Frag) : Bool := match K.lookup sysModules with
  | some o => match o.data with
    | .dict _ _ => true
    | _ => false
  | none => false
theorem smB_ok {K : PySem.W.Frag} (h : smB K = true) : SMK K := by
  unfold smB at h
  split at h
  · rename_i o e
    split at h
    · rename_i es ep e2
      exact ⟨o, es, ep, e, e2⟩
    · cases h
  · cases h
abbrev AlY : Type := Bool × AlX
def SaysY (xf : List XF) (fa : List He.Fa) (fn : List He.DefD) (K : PySem.W.Frag) : Prop := smB K = true ∧ SaysX xf fa fn K
def frY (g : Addr → Option Obj) (n : Nat) : PySem.W.Frag := He.frG g (sysModules :: He.asD g n)
def obsY (n : Nat) (xf : List XF) (fa : List He.Fa) (fn : List He.DefD) (g : Addr → Option Obj) : AlY := (smB (frY g n), xf.all fun f => f.ok (frY g n), He.obsD fa fn (frY g n))
def hookY (n : Nat) (xf : List XF) (fa : List He.Fa) (fn : List He.DefD) : PySem.W.Hook where
  α := AlY
  obs := fun s => obsY n xf fa fn s.heap.get?
  val := fun _ => (true, true, He.valD fn)
  says := fun _ h => ∃ K : PySem.W.Frag, K.In h ∧ SaysY xf fa fn K
  of := fun _ _ e => ⟨_, He.frG_in, congrArg (fun z : AlY => z.1) e, congrArg (fun z : AlY => z.2.1) e, congrArg (fun z : AlY => z.2.2) e⟩
  keeps := fun _ _ _ ⟨K, hK, c⟩ k => ⟨K, PySem.W.Frag.In.keeps hK k, c⟩
theorem obsY_eq {n : Nat} {xf : List XF} {fa : List He.Fa} {fn : List He.DefD} {g : Addr → Option Obj} {s : Shared} (h : ∀ a, g a = s.heap.get? a) : obsY n xf fa fn g = (hookY n xf fa fn).obs s := by
  have e : g = s.heap.get? := funext h
  rw [e] <;> rfl
/-! ### their tables, at the law's head -/
def frZ (g : Addr → Option Obj) (as : List Addr) : PySem.W.Frag := as.filterMap fun a => match g a with
  | some o => match o.cls with
    | .none => none
    | _ => some (a, o)
  | none => none
theorem lk_mem {a : Addr} {o : Obj} : ∀ {l : List (Addr × Obj)}, l.lookup a = some o → (a, o) ∈ l
  | [], e => nomatch e
  | (b, u) :: l, e => by
    rw [List.lookup_cons] at e
    cases z : a == b with
    | true =>
      rw [z] at e
      have e : u = o := Option.some.inj e
      have z : a = b := eq_of_beq z
      rw [e, z]
      exact List.mem_cons_self
    | false =>
      rw [z] at e
      exact List.mem_cons_of_mem _ (lk_mem e)
theorem frZ_at {g : Addr → Option Obj} {as : List Addr} {a : Addr} {o : Obj} (e : (frZ g as).lookup a = some o) : g a = some o ∧ o.cls ≠ .none := by
  have hm : (a, o) ∈ frZ g as := lk_mem e
  obtain ⟨b, _, hb⟩ := List.mem_filterMap.mp hm
  split at hb
  · rename_i o' e'
    split at hb
    · cases hb
    · rename_i hc
      cases hb
      exact ⟨e', hc⟩
  · cases hb
def isS : Value → Bool
  | .str _ _ => true
  | _ => false
def isI : Value → Bool
  | .int _ _ => true
  | _ => false
def isB : Value → Bool
  | .bool _ => true
  | _ => false
def isR (a : Addr) : Value → Bool
  | .ref b => decide (b = a)
  | _ => false
def isC : Value → Bool
  | .type n => decide (n = "code")
  | _ => false
theorem isS_ok {v : Value} (h : isS v = true) : ∃ x t, v = .str x t := by
  cases v <;> first | exact ⟨_, _, rfl⟩ | cases h
theorem isI_ok {v : Value} (h : isI v = true) : ∃ x t, v = .int x t := by
  cases v <;> first | exact ⟨_, _, rfl⟩ | cases h
theorem isB_ok {v : Value} (h : isB v = true) : ∃ x, v = .bool x := by
  cases v <;> first | exact ⟨_, rfl⟩ | cases h
theorem isR_ok {a : Addr} {v : Value} (h : isR a v = true) : v = .ref a := by
  cases v <;> first | (have e := of_decide_eq_true h; rw [e]) | cases h
theorem isC_ok {v : Value} (h : isC v = true) : v = .type "code" := by
  cases v <;> first | (have e := of_decide_eq_true h; rw [e]) | cases h
/-- the code object of the def x, and its table -/
def codeA (K : PySem.W.Frag) (x : Str × Option Str) : Addr := match K.lookup (He.fAd K x) with
  | some o => match o.data with
    | .func fd => match fd.code with
      | .ref c => c
      | _ => 0
    | _ => 0
  | none => 0
def tabA (K : PySem.W.Frag) (x : Str × Option Str) : Addr := match K.lookup (codeA K x) with
  | some o => match o.data with
    | .fields vs => match vs.getD 11 .none with
      | .ref P => P
      | _ => 0
    | _ => 0
  | none => 0
def codeB (K : PySem.W.Frag) (x : Str × Option Str) : Bool := (match K.lookup (He.fAd K x) with
  | some o => match o.data with
    | .func fd => isR (codeA K x) fd.code
    | _ => false
  | none => false) && ((match K.lookup (codeA K x) with
  | some o => isC o.cls && (match o.data with
    | .fields vs => (match vs[11]? with
      | some v => isR (tabA K x) v
      | none => false) && isR (tabA K x) (vs.getD 11 .none) && isS (vs.getD 18 .none) && isI (vs.getD 7 .none) && isB (vs.getD 9 .none) && isI (vs.getD 10 .none)
    | _ => false)
  | none => false) && decide (codeA K x ≠ tabA K x))
def emptyB (g : Addr → Option Obj) (P : Addr) : Bool := match g P with
  | some ⟨.none, none, .fields qs, sl⟩ => qs.isEmpty && sl.isEmpty
  | _ => false
theorem emptyB_ok {g : Addr → Option Obj} {P : Addr} (h : emptyB g P = true) : g P = some { cls := .none, data := .fields #[] } := by
  unfold emptyB at h
  split at h
  · rename_i qs sl e
    obtain ⟨h1, h2⟩ := Bool.and_eq_true_iff.mp h
    rw [e, Array.isEmpty_iff.mp h1, Array.isEmpty_iff.mp h2]
  · cases h
/-- what is known of the def x's code -/
structure CodeF (K : PySem.W.Frag) (x : Str × Option Str) : Prop where
  fn : ∃ o fd, K.lookup (He.fAd K x) = some o ∧ o.data = .func fd ∧ fd.code = .ref (codeA K x)
  hd : ∀ h : Heap, K.In h → PySem.W.CodeHd h (codeA K x) (tabA K x)
theorem codeB_ok {K : PySem.W.Frag} {x : Str × Option Str} (h : codeB K x = true) : CodeF K x := by
  unfold codeB at h
  obtain ⟨h1, h⟩ := Bool.and_eq_true_iff.mp h
  obtain ⟨h2, h3⟩ := Bool.and_eq_true_iff.mp h
  refine ⟨?_, fun hp KI => ?_⟩
  · split at h1
    · rename_i o e
      split at h1
      · rename_i fd e2
        exact ⟨o, fd, e, e2, isR_ok h1⟩
      · cases h1
    · cases h1
  · split at h2
    · rename_i o e
      obtain ⟨c1, h2⟩ := Bool.and_eq_true_iff.mp h2
      split at h2
      · rename_i vs e2
        obtain ⟨h2, c7⟩ := Bool.and_eq_true_iff.mp h2
        obtain ⟨h2, c6⟩ := Bool.and_eq_true_iff.mp h2
        obtain ⟨h2, c5⟩ := Bool.and_eq_true_iff.mp h2
        obtain ⟨h2, c4⟩ := Bool.and_eq_true_iff.mp h2
        obtain ⟨h2, c3⟩ := Bool.and_eq_true_iff.mp h2
        obtain ⟨file, tf, e18⟩ := isS_ok c4
        obtain ⟨fl, tg, e7⟩ := isI_ok c5
        obtain ⟨inF, e9⟩ := isB_ok c6
        obtain ⟨tx, tt, e10⟩ := isI_ok c7
        refine ⟨o, vs, file, tf, fl, tg, inF, tx, tt, KI _ _ e, isC_ok c1, e2, ?_, isR_ok c3, e18, e7, e9, e10, of_decide_eq_true h3⟩
        split at h2
        · rename_i v ev
          rw [ev, isR_ok h2]
        · cases h2
      · cases h2
    · cases h2
/-- the module of the builtins -/
def isM : Value → Bool
  | .type n => decide (n = "module")
  | _ => false
theorem isM_ok {v : Value} (h : isM v = true) : v = .type "module" := by
  cases v <;> first | (have e := of_decide_eq_true h; rw [e]) | cases h
def bmB (K : PySem.W.Frag) : Bool := decide (He.ga K "__builtins__" ≠ builtinsNs) && (match K.lookup (He.ga K "__builtins__") with
  | some o => isM o.cls && (decide (o.dict = some builtinsNs) && (match o.data with
    | .plain => true
    | _ => false))
  | none => false)
structure SaysT (xf : List XF) (fa : List He.Fa) (fn : List He.DefD) (gn : List (Str × Option Str)) (K : PySem.W.Frag) (h : Heap) : Prop where
  y : SaysY xf fa fn K
  cl : ∀ a o, K.lookup a = some o → o.cls ≠ .none
  bm : bmB K = true
  cd : ∀ x ∈ gn, codeB K x = true
  em : ∀ x ∈ gn, h.get? (tabA K x) = some { cls := .none, data := .fields #[] }
abbrev AlT : Type := (Bool × Bool) × AlY
def frT (g : Addr → Option Obj) (n : Nat) : PySem.W.Frag := frZ g (sysModules :: He.asD g n)
def obsT (n : Nat) (xf : List XF) (fa : List He.Fa) (fn : List He.DefD) (gn : List (Str × Option Str)) (g : Addr → Option Obj) : AlT :=
  ((bmB (frT g n), gn.all fun x => codeB (frT g n) x && emptyB g (tabA (frT g n) x)), smB (frT g n), xf.all fun f => f.ok (frT g n), He.obsD fa fn (frT g n))
def hookT (n : Nat) (xf : List XF) (fa : List He.Fa) (fn : List He.DefD) (gn : List (Str × Option Str)) : PySem.W.Hook where
  α := AlT
  obs := fun s => obsT n xf fa fn gn s.heap.get?
  val := fun _ => ((true, true), true, true, He.valD fn)
  says := fun _ h => ∃ K : PySem.W.Frag, K.In h ∧ SaysT xf fa fn gn K h
  of := fun _ s e => by
    have e1 : (gn.all fun x => codeB (frT s.heap.get? n) x && emptyB s.heap.get? (tabA (frT s.heap.get? n) x)) = true := congrArg (fun z : AlT => z.1.2) e
    have e1 := List.all_eq_true.mp e1
    exact ⟨frT s.heap.get? n, fun a o h => (frZ_at h).1, ⟨congrArg (fun z : AlT => z.2.1) e, congrArg (fun z : AlT => z.2.2.1) e, congrArg (fun z : AlT => z.2.2.2) e⟩, fun a o h => (frZ_at h).2, congrArg (fun z : AlT => z.1.1) e,
      fun x hx => (Bool.and_eq_true_iff.mp (e1 x hx)).1, fun x hx => emptyB_ok (Bool.and_eq_true_iff.mp (e1 x hx)).2⟩
  keeps := fun _ _ _ ⟨K, hK, c⟩ k => ⟨K, PySem.W.Frag.In.keeps hK k, c.y, c.cl, c.bm, c.cd, fun x hx => k _ _ (c.em x hx)⟩
theorem obsT_eq {n : Nat} {xf : List XF} {fa : List He.Fa} {fn : List He.DefD} {gn : List (Str × Option Str)} {g : Addr → Option Obj} {s : Shared} (h : ∀ a, g a = s.heap.get? a) : obsT n xf fa fn gn g = (hookT n xf fa fn gn).obs s := by
  have e : g = s.heap.get? := funext h
  rw [e] <;> rfl
def topS (i : Nat) : Stmt := PySem.Challenge.pw_toldback_k17_refused_all_right.main.body.getD i (.Pass ⟨0, 0, 0, 0⟩)
abbrev s_is_whole : Stmt := topS 17
abbrev N_is_whole : List Str := ["thing"]
theorem sc_is_whole : FnScope N_is_whole ["thing"] (defScope s_is_whole) := ⟨rfl, rfl, rfl, by decide +kernel, rfl, by decide +kernel, by decide +kernel⟩
abbrev s_is_whole_below : Stmt := topS 18
abbrev N_is_whole_below : List Str := ["thing", "limit"]
theorem sc_is_whole_below : FnScope N_is_whole_below ["thing", "limit"] (defScope s_is_whole_below) := ⟨rfl, rfl, rfl, by decide +kernel, rfl, by decide +kernel, by decide +kernel⟩
abbrev s_common_divisor : Stmt := topS 19
abbrev N_common_divisor : List Str := ["one", "other"]
theorem sc_common_divisor : FnScope N_common_divisor ["one", "other"] (defScope s_common_divisor) := ⟨rfl, rfl, rfl, by decide +kernel, rfl, by decide +kernel, by decide +kernel⟩
abbrev s_product_of : Stmt := topS 20
abbrev N_product_of : List Str := ["numbers", "product", "number"]
theorem sc_product_of : FnScope N_product_of ["numbers"] (defScope s_product_of) := ⟨rfl, rfl, rfl, by decide +kernel, rfl, by decide +kernel, by decide +kernel⟩
abbrev s_short_row : Stmt := topS 21
abbrev N_short_row : List Str := ["modulus", "number", "most", "above", "left", "factor_above", "factor", "times"]
theorem sc_short_row : FnScope N_short_row ["modulus", "number", "most"] (defScope s_short_row) := ⟨rfl, rfl, rfl, by decide +kernel, rfl, by decide +kernel, by decide +kernel⟩
abbrev s_inverse : Stmt := topS 22
abbrev N_inverse : List Str := ["number", "prime"]
theorem sc_inverse : FnScope N_inverse ["number", "prime"] (defScope s_inverse) := ⟨rfl, rfl, rfl, by decide +kernel, rfl, by decide +kernel, by decide +kernel⟩
abbrev s_is_pair : Stmt := topS 27
abbrev N_is_pair : List Str := ["thing"]
theorem sc_is_pair : FnScope N_is_pair ["thing"] (defScope s_is_pair) := ⟨rfl, rfl, rfl, by decide +kernel, rfl, by decide +kernel, by decide +kernel⟩
abbrev s_is_fraction : Stmt := topS 28
abbrev N_is_fraction : List Str := ["thing", "top", "bottom"]
theorem sc_is_fraction : FnScope N_is_fraction ["thing"] (defScope s_is_fraction) := ⟨rfl, rfl, rfl, by decide +kernel, rfl, by decide +kernel, by decide +kernel⟩
abbrev s_is_prime : Stmt := topS 29
abbrev N_is_prime : List Str := ["thing", "divisor"]
theorem sc_is_prime : FnScope N_is_prime ["thing"] (defScope s_is_prime) := ⟨rfl, rfl, rfl, by decide +kernel, rfl, by decide +kernel, by decide +kernel⟩
abbrev s_is_rest : Stmt := topS 30
abbrev N_is_rest : List Str := ["thing", "p"]
theorem sc_is_rest : FnScope N_is_rest ["thing", "p"] (defScope s_is_rest) := ⟨rfl, rfl, rfl, by decide +kernel, rfl, by decide +kernel, by decide +kernel⟩
abbrev s_is_reading : Stmt := topS 31
abbrev N_is_reading : List Str := ["thing"]
theorem sc_is_reading : FnScope N_is_reading ["thing"] (defScope s_is_reading) := ⟨rfl, rfl, rfl, by decide +kernel, rfl, by decide +kernel, by decide +kernel⟩
abbrev s_is_readings : Stmt := topS 32
abbrev N_is_readings : List Str := ["thing", "reading"]
theorem sc_is_readings : FnScope N_is_readings ["thing"] (defScope s_is_readings) := ⟨rfl, rfl, rfl, by decide +kernel, rfl, by decide +kernel, by decide +kernel⟩
abbrev s_need_readings : Stmt := topS 33
abbrev N_need_readings : List Str := ["thing"]
theorem sc_need_readings : FnScope N_need_readings ["thing"] (defScope s_need_readings) := ⟨rfl, rfl, rfl, by decide +kernel, rfl, by decide +kernel, by decide +kernel⟩
abbrev s_keeps : Stmt := topS 34
abbrev N_keeps : List Str := ["f", "reading", "top", "bottom", "p", "rest"]
theorem sc_keeps : FnScope N_keeps ["f", "reading"] (defScope s_keeps) := ⟨rfl, rfl, rfl, by decide +kernel, rfl, by decide +kernel, by decide +kernel⟩
abbrev s_keeps_all : Stmt := topS 35
abbrev N_keeps_all : List Str := ["f", "readings", "reading"]
theorem sc_keeps_all : FnScope N_keeps_all ["f", "readings"] (defScope s_keeps_all) := ⟨rfl, rfl, rfl, by decide +kernel, rfl, by decide +kernel, by decide +kernel⟩
abbrev s_is_bounds : Stmt := topS 36
abbrev N_is_bounds : List Str := ["thing", "n", "d"]
theorem sc_is_bounds : FnScope N_is_bounds ["thing"] (defScope s_is_bounds) := ⟨rfl, rfl, rfl, by decide +kernel, rfl, by decide +kernel, by decide +kernel⟩
abbrev s_is_bounds_up_to : Stmt := topS 37
abbrev N_is_bounds_up_to : List Str := ["thing", "most"]
theorem sc_is_bounds_up_to : FnScope N_is_bounds_up_to ["thing", "most"] (defScope s_is_bounds_up_to) := ⟨rfl, rfl, rfl, by decide +kernel, rfl, by decide +kernel, by decide +kernel⟩
abbrev s_need_bounds : Stmt := topS 38
abbrev N_need_bounds : List Str := ["thing"]
theorem sc_need_bounds : FnScope N_need_bounds ["thing"] (defScope s_need_bounds) := ⟨rfl, rfl, rfl, by decide +kernel, rfl, by decide +kernel, by decide +kernel⟩
abbrev s_need_bounds_up_to : Stmt := topS 39
abbrev N_need_bounds_up_to : List Str := ["thing", "most"]
theorem sc_need_bounds_up_to : FnScope N_need_bounds_up_to ["thing", "most"] (defScope s_need_bounds_up_to) := ⟨rfl, rfl, rfl, by decide +kernel, rfl, by decide +kernel, by decide +kernel⟩
abbrev s_is_within : Stmt := topS 40
abbrev N_is_within : List Str := ["f", "bounds", "top", "bottom", "n", "d"]
theorem sc_is_within : FnScope N_is_within ["f", "bounds"] (defScope s_is_within) := ⟨rfl, rfl, rfl, by decide +kernel, rfl, by decide +kernel, by decide +kernel⟩
abbrev s_all_within : Stmt := topS 41
abbrev N_all_within : List Str := ["bounds", "n", "d", "bottom", "top"]
theorem sc_all_within : FnScope N_all_within ["bounds"] (defScope s_all_within) := ⟨rfl, rfl, rfl, by decide +kernel, rfl, by decide +kernel, by decide +kernel⟩
abbrev s_put_together : Stmt := topS 43
abbrev N_put_together : List Str := ["readings", "m", "w", "p", "rest", "steps"]
theorem sc_put_together : FnScope N_put_together ["readings"] (defScope s_put_together) := ⟨rfl, rfl, rfl, by decide +kernel, rfl, by decide +kernel, by decide +kernel⟩
abbrev s_only_candidate : Stmt := topS 45
abbrev N_only_candidate : List Str := ["readings", "n", "known", "shared", "modulus", "rest_of_all", "top", "factor", "reading", "p", "rest"]
theorem sc_only_candidate : FnScope N_only_candidate ["readings", "n"] (defScope s_only_candidate) := ⟨rfl, rfl, rfl, by decide +kernel, rfl, by decide +kernel, by decide +kernel⟩
abbrev s_one_back : Stmt := topS 46
abbrev N_one_back : List Str := ["readings", "bounds", "n", "d", "found", "p", "rest"]
theorem sc_one_back : FnScope N_one_back ["readings", "bounds"] (defScope s_one_back) := ⟨rfl, rfl, rfl, by decide +kernel, rfl, by decide +kernel, by decide +kernel⟩
abbrev s_all_back : Stmt := topS 47
abbrev N_all_back : List Str := ["readings", "bounds", "f"]
theorem sc_all_back : FnScope N_all_back ["readings", "bounds"] (defScope s_all_back) := ⟨rfl, rfl, rfl, by decide +kernel, rfl, by decide +kernel, by decide +kernel⟩
abbrev s__law_cell_at : Stmt := topS 49
abbrev N__law_cell_at : List Str := ["script", "k"]
theorem sc__law_cell_at : FnScope N__law_cell_at ["script", "k"] (defScope s__law_cell_at) := ⟨rfl, rfl, rfl, by decide +kernel, rfl, by decide +kernel, by decide +kernel⟩
abbrev s__law_stir : Stmt := topS 50
abbrev N__law_stir : List Str := ["cell", "k", "one"]
theorem sc__law_stir : FnScope N__law_stir ["cell", "k"] (defScope s__law_stir) := ⟨rfl, rfl, rfl, by decide +kernel, rfl, by decide +kernel, by decide +kernel⟩
abbrev s__law_deck : Stmt := topS 51
abbrev N__law_deck : List Str := ["cell", "many", "found", "digits", "k", "number"]
theorem sc__law_deck : FnScope N__law_deck ["cell", "many"] (defScope s__law_deck) := ⟨rfl, rfl, rfl, by decide +kernel, rfl, by decide +kernel, by decide +kernel⟩
abbrev s__law_next : Stmt := topS 52
abbrev N__law_next : List Str := ["deck"]
theorem sc__law_next : FnScope N__law_next ["deck"] (defScope s__law_next) := ⟨rfl, rfl, rfl, by decide +kernel, rfl, by decide +kernel, by decide +kernel⟩
abbrev s__law_primes : Stmt := topS 53
abbrev N__law_primes : List Str := ["deck", "many", "most", "parts", "left", "p", "q", "k"]
theorem sc__law_primes : FnScope N__law_primes ["deck", "many", "most"] (defScope s__law_primes) := ⟨rfl, rfl, rfl, by decide +kernel, rfl, by decide +kernel, by decide +kernel⟩
abbrev s__law_no_readings : Stmt := topS 54
abbrev N__law_no_readings : List Str := ["deck", "readings", "p", "other", "at", "some", "odd", "things", "one", "q"]
theorem sc__law_no_readings : FnScope N__law_no_readings ["deck", "readings"] (defScope s__law_no_readings) := ⟨rfl, rfl, rfl, by decide +kernel, rfl, by decide +kernel, by decide +kernel⟩
abbrev s__law_no_bounds : Stmt := topS 55
abbrev N__law_no_bounds : List Str := ["deck", "n", "things", "turn"]
theorem sc__law_no_bounds : FnScope N__law_no_bounds ["deck"] (defScope s__law_no_bounds) := ⟨rfl, rfl, rfl, by decide +kernel, rfl, by decide +kernel, by decide +kernel⟩
abbrev s__law_word : Stmt := topS 56
abbrev N__law_word : List Str := ["caught", "kinds"]
theorem sc__law_word : FnScope N__law_word ["caught"] (defScope s__law_word) := ⟨rfl, rfl, rfl, by decide +kernel, rfl, by decide +kernel, by decide +kernel⟩
abbrev s__law_asked : Stmt := topS 57
abbrev N__law_asked : List Str := ["way", "readings", "bounds", "found", "kept", "e"]
theorem sc__law_asked : FnScope N__law_asked ["way", "readings", "bounds"] (defScope s__law_asked) := ⟨rfl, rfl, rfl, by decide +kernel, rfl, by decide +kernel, by decide +kernel⟩
abbrev s__law_split : Stmt := topS 58
abbrev N__law_split : List Str := ["deck", "primes", "n", "d", "p"]
theorem sc__law_split : FnScope N__law_split ["deck", "primes"] (defScope s__law_split) := ⟨rfl, rfl, rfl, by decide +kernel, rfl, by decide +kernel, by decide +kernel⟩
abbrev s__law_enough_right : Stmt := topS 59
abbrev N__law_enough_right : List Str := ["readings", "n", "d", "bounds", "some"]
theorem sc__law_enough_right : FnScope N__law_enough_right ["readings", "n", "d"] (defScope s__law_enough_right) := ⟨rfl, rfl, rfl, by decide +kernel, rfl, by decide +kernel, by decide +kernel⟩
abbrev s_law : Stmt := topS 60
abbrev N_law : List Str := ["script", "k", "deck", "odd", "readings", "n", "d", "bad", "bounds", "far", "p", "way"]
theorem sc_law : FnScope N_law ["script"] (defScope s_law) := ⟨rfl, rfl, rfl, by decide +kernel, rfl, by decide +kernel, by decide +kernel⟩
section
set_option maxHeartbeats 0
def dd_is_whole : He.DefD := ⟨(("is_whole", none) : Str × Option Str), "is_whole", "is_whole", defArgs s_is_whole, defBody s_is_whole, defScope s_is_whole, [], []⟩
def dd_is_whole_below : He.DefD := ⟨(("is_whole_below", none) : Str × Option Str), "is_whole_below", "is_whole_below", defArgs s_is_whole_below, defBody s_is_whole_below, defScope s_is_whole_below, [], []⟩
def dd_common_divisor : He.DefD := ⟨(("common_divisor", none) : Str × Option Str), "common_divisor", "common_divisor", defArgs s_common_divisor, defBody s_common_divisor, defScope s_common_divisor, [], []⟩
def dd_product_of : He.DefD := ⟨(("product_of", none) : Str × Option Str), "product_of", "product_of", defArgs s_product_of, defBody s_product_of, defScope s_product_of, [], []⟩
def dd_short_row : He.DefD := ⟨(("short_row", none) : Str × Option Str), "short_row", "short_row", defArgs s_short_row, defBody s_short_row, defScope s_short_row, [], []⟩
def dd_inverse : He.DefD := ⟨(("inverse", none) : Str × Option Str), "inverse", "inverse", defArgs s_inverse, defBody s_inverse, defScope s_inverse, [], []⟩
def dd_is_pair : He.DefD := ⟨(("is_pair", none) : Str × Option Str), "is_pair", "is_pair", defArgs s_is_pair, defBody s_is_pair, defScope s_is_pair, [], []⟩
def dd_is_fraction : He.DefD := ⟨(("is_fraction", none) : Str × Option Str), "is_fraction", "is_fraction", defArgs s_is_fraction, defBody s_is_fraction, defScope s_is_fraction, [], []⟩
def dd_is_prime : He.DefD := ⟨(("is_prime", none) : Str × Option Str), "is_prime", "is_prime", defArgs s_is_prime, defBody s_is_prime, defScope s_is_prime, [], []⟩
def dd_is_rest : He.DefD := ⟨(("is_rest", none) : Str × Option Str), "is_rest", "is_rest", defArgs s_is_rest, defBody s_is_rest, defScope s_is_rest, [], []⟩
def dd_is_reading : He.DefD := ⟨(("is_reading", none) : Str × Option Str), "is_reading", "is_reading", defArgs s_is_reading, defBody s_is_reading, defScope s_is_reading, [], []⟩
def dd_is_readings : He.DefD := ⟨(("is_readings", none) : Str × Option Str), "is_readings", "is_readings", defArgs s_is_readings, defBody s_is_readings, defScope s_is_readings, [], []⟩
def dd_need_readings : He.DefD := ⟨(("need_readings", none) : Str × Option Str), "need_readings", "need_readings", defArgs s_need_readings, defBody s_need_readings, defScope s_need_readings, [], []⟩
def dd_keeps : He.DefD := ⟨(("keeps", none) : Str × Option Str), "keeps", "keeps", defArgs s_keeps, defBody s_keeps, defScope s_keeps, [], []⟩
def dd_keeps_all : He.DefD := ⟨(("keeps_all", none) : Str × Option Str), "keeps_all", "keeps_all", defArgs s_keeps_all, defBody s_keeps_all, defScope s_keeps_all, [], []⟩
def dd_is_bounds : He.DefD := ⟨(("is_bounds", none) : Str × Option Str), "is_bounds", "is_bounds", defArgs s_is_bounds, defBody s_is_bounds, defScope s_is_bounds, [], []⟩
def dd_is_bounds_up_to : He.DefD := ⟨(("is_bounds_up_to", none) : Str × Option Str), "is_bounds_up_to", "is_bounds_up_to", defArgs s_is_bounds_up_to, defBody s_is_bounds_up_to, defScope s_is_bounds_up_to, [], []⟩
def dd_need_bounds : He.DefD := ⟨(("need_bounds", none) : Str × Option Str), "need_bounds", "need_bounds", defArgs s_need_bounds, defBody s_need_bounds, defScope s_need_bounds, [], []⟩
def dd_need_bounds_up_to : He.DefD := ⟨(("need_bounds_up_to", none) : Str × Option Str), "need_bounds_up_to", "need_bounds_up_to", defArgs s_need_bounds_up_to, defBody s_need_bounds_up_to, defScope s_need_bounds_up_to, [], []⟩
def dd_is_within : He.DefD := ⟨(("is_within", none) : Str × Option Str), "is_within", "is_within", defArgs s_is_within, defBody s_is_within, defScope s_is_within, [], []⟩
def dd_all_within : He.DefD := ⟨(("all_within", none) : Str × Option Str), "all_within", "all_within", defArgs s_all_within, defBody s_all_within, defScope s_all_within, [], []⟩
def dd_put_together : He.DefD := ⟨(("put_together", none) : Str × Option Str), "put_together", "put_together", defArgs s_put_together, defBody s_put_together, defScope s_put_together, [], []⟩
def dd_only_candidate : He.DefD := ⟨(("only_candidate", none) : Str × Option Str), "only_candidate", "only_candidate", defArgs s_only_candidate, defBody s_only_candidate, defScope s_only_candidate, [], []⟩
def dd_one_back : He.DefD := ⟨(("one_back", none) : Str × Option Str), "one_back", "one_back", defArgs s_one_back, defBody s_one_back, defScope s_one_back, [], []⟩
def dd_all_back : He.DefD := ⟨(("all_back", none) : Str × Option Str), "all_back", "all_back", defArgs s_all_back, defBody s_all_back, defScope s_all_back, [], []⟩
def dd__law_cell_at : He.DefD := ⟨(("_law_cell_at", none) : Str × Option Str), "_law_cell_at", "_law_cell_at", defArgs s__law_cell_at, defBody s__law_cell_at, defScope s__law_cell_at, [], []⟩
def dd__law_stir : He.DefD := ⟨(("_law_stir", none) : Str × Option Str), "_law_stir", "_law_stir", defArgs s__law_stir, defBody s__law_stir, defScope s__law_stir, [], []⟩
def dd__law_deck : He.DefD := ⟨(("_law_deck", none) : Str × Option Str), "_law_deck", "_law_deck", defArgs s__law_deck, defBody s__law_deck, defScope s__law_deck, [], []⟩
def dd__law_next : He.DefD := ⟨(("_law_next", none) : Str × Option Str), "_law_next", "_law_next", defArgs s__law_next, defBody s__law_next, defScope s__law_next, [], []⟩
def dd__law_primes : He.DefD := ⟨(("_law_primes", none) : Str × Option Str), "_law_primes", "_law_primes", defArgs s__law_primes, defBody s__law_primes, defScope s__law_primes, [], []⟩
def dd__law_no_readings : He.DefD := ⟨(("_law_no_readings", none) : Str × Option Str), "_law_no_readings", "_law_no_readings", defArgs s__law_no_readings, defBody s__law_no_readings, defScope s__law_no_readings, [], []⟩
def dd__law_no_bounds : He.DefD := ⟨(("_law_no_bounds", none) : Str × Option Str), "_law_no_bounds", "_law_no_bounds", defArgs s__law_no_bounds, defBody s__law_no_bounds, defScope s__law_no_bounds, [], []⟩
def dd__law_word : He.DefD := ⟨(("_law_word", none) : Str × Option Str), "_law_word", "_law_word", defArgs s__law_word, defBody s__law_word, defScope s__law_word, [], []⟩
def dd__law_asked : He.DefD := ⟨(("_law_asked", none) : Str × Option Str), "_law_asked", "_law_asked", defArgs s__law_asked, defBody s__law_asked, defScope s__law_asked, [], []⟩
def dd__law_split : He.DefD := ⟨(("_law_split", none) : Str × Option Str), "_law_split", "_law_split", defArgs s__law_split, defBody s__law_split, defScope s__law_split, [], []⟩
def dd__law_enough_right : He.DefD := ⟨(("_law_enough_right", none) : Str × Option Str), "_law_enough_right", "_law_enough_right", defArgs s__law_enough_right, defBody s__law_enough_right, defScope s__law_enough_right, [], []⟩
def dd_law : He.DefD := ⟨(("law", none) : Str × Option Str), "law", "law", defArgs s_law, defBody s_law, defScope s_law, [], []⟩
def fnL : List He.DefD := [dd_is_whole, dd_is_whole_below, dd_common_divisor, dd_product_of, dd_short_row, dd_inverse, dd_is_pair, dd_is_fraction, dd_is_prime, dd_is_rest, dd_is_reading, dd_is_readings, dd_need_readings, dd_keeps, dd_keeps_all, dd_is_bounds, dd_is_bounds_up_to, dd_need_bounds, dd_need_bounds_up_to, dd_is_within, dd_all_within, dd_put_together, dd_only_candidate, dd_one_back, dd_all_back, dd__law_cell_at, dd__law_stir, dd__law_deck, dd__law_next, dd__law_primes, dd__law_no_readings, dd__law_no_bounds, dd__law_word, dd__law_asked, dd__law_split, dd__law_enough_right, dd_law]
def faL : List He.Fa := [.glo "is_whole", .glo "is_whole_below", .glo "common_divisor", .glo "product_of", .glo "short_row", .glo "inverse", .glo "is_pair", .glo "is_fraction", .glo "is_prime", .glo "is_rest", .glo "is_reading", .glo "is_readings", .glo "need_readings", .glo "keeps", .glo "keeps_all", .glo "is_bounds", .glo "is_bounds_up_to", .glo "need_bounds", .glo "need_bounds_up_to", .glo "is_within", .glo "all_within", .glo "put_together", .glo "only_candidate", .glo "one_back", .glo "all_back", .glo "_law_cell_at", .glo "_law_stir", .glo "_law_deck", .glo "_law_next", .glo "_law_primes", .glo "_law_no_readings", .glo "_law_no_bounds", .glo "_law_word", .glo "_law_asked", .glo "_law_split", .glo "_law_enough_right", .glo "law", .free "isinstance", .free "bool", .free "int", .free "len", .free "tuple", .free "list", .free "all", .free "range", .free "any", .free "ValueError", .free "repr", .free "max", .free "min", .int "PRIME_LIMIT" 1000, .int "MOST_READINGS" 10, .int "SMALL_BOUND" 60, .glo "BackError", .exc "BackError", .glo "NoFraction", .exc "NoFraction", .glo "NoPrime", .exc "NoPrime", .glo "NoReadings", .exc "NoReadings", .glo "NoBounds", .exc "NoBounds", .glo "NoNumber", .exc "NoNumber", .glo "TooFew", .exc "TooFew", .glo "TooMany", .exc "TooMany", .glo "NoText", .exc "NoText", .glo "NoName", .exc "NoName", .glo "NoRow", .exc "NoRow", .glo "NoPoly", .exc "NoPoly", .glo "NoQuotient", .exc "NoQuotient", .glo "NoWorths", .exc "NoWorths", .glo "NoDegrees", .exc "NoDegrees", .glo "__builtins__"]
abbrev RR : PySem.W.OpenRow := PySem.W.OpenLaw.row PySem.Challenge.rw_toldback_k17_refused_all_right
def looseL : List PySem.Str := (["is_whole", "is_whole_below", "common_divisor", "product_of", "short_row", "inverse", "is_pair", "is_fraction", "is_prime", "is_rest", "is_reading", "is_readings", "need_readings", "keeps", "keeps_all", "is_bounds", "is_bounds_up_to", "need_bounds", "need_bounds_up_to", "is_within"] : List PySem.Str) ++ (["all_within", "put_together", "only_candidate", "one_back", "all_back", "_law_cell_at", "_law_stir", "_law_deck", "_law_next", "_law_primes", "_law_no_readings", "_law_no_bounds", "_law_word", "_law_asked", "_law_split", "_law_enough_right", "PRIME_LIMIT", "MOST_READINGS", "SMALL_BOUND", "BackError"] : List PySem.Str) ++ (["NoFraction", "NoPrime", "NoReadings", "NoBounds", "NoNumber", "TooFew", "TooMany", "NoText", "NoName", "NoRow", "NoPoly", "NoQuotient", "NoWorths", "NoDegrees"] : List PySem.Str)
def xfL : List XF := [.exc "NoReadings", .str "NoReadings", .kitT "NoReadings" "ValueError" true, .exm "NoReadings" "BackError" true, .kit "NoReadings" "BackError" true, .kit "NoReadings" "NoFraction" false, .kit "NoReadings" "NoPrime" false, .kit "NoReadings" "NoReadings" true, .kit "NoReadings" "NoBounds" false, .kit "NoReadings" "NoNumber" false, .kit "NoReadings" "TooFew" false, .kit "NoReadings" "TooMany" false, .kit "NoReadings" "NoText" false, .kit "NoReadings" "NoName" false, .kit "NoReadings" "NoRow" false, .kit "NoReadings" "NoPoly" false, .kit "NoReadings" "NoQuotient" false, .kit "NoReadings" "NoWorths" false, .kit "NoReadings" "NoDegrees" false, .exc "NoBounds", .str "NoBounds", .kitT "NoBounds" "ValueError" true, .exm "NoBounds" "BackError" true, .kit "NoBounds" "BackError" true, .kit "NoBounds" "NoFraction" false, .kit "NoBounds" "NoPrime" false, .kit "NoBounds" "NoReadings" false, .kit "NoBounds" "NoBounds" true, .kit "NoBounds" "NoNumber" false, .kit "NoBounds" "TooFew" false, .kit "NoBounds" "TooMany" false, .kit "NoBounds" "NoText" false, .kit "NoBounds" "NoName" false, .kit "NoBounds" "NoRow" false, .kit "NoBounds" "NoPoly" false, .kit "NoBounds" "NoQuotient" false, .kit "NoBounds" "NoWorths" false, .kit "NoBounds" "NoDegrees" false, .exc "TooFew", .str "TooFew", .kitT "TooFew" "ValueError" true, .exm "TooFew" "BackError" true, .kit "TooFew" "BackError" true, .kit "TooFew" "NoFraction" false, .kit "TooFew" "NoPrime" false, .kit "TooFew" "NoReadings" false, .kit "TooFew" "NoBounds" false, .kit "TooFew" "NoNumber" false, .kit "TooFew" "TooFew" true, .kit "TooFew" "TooMany" false, .kit "TooFew" "NoText" false, .kit "TooFew" "NoName" false, .kit "TooFew" "NoRow" false, .kit "TooFew" "NoPoly" false, .kit "TooFew" "NoQuotient" false, .kit "TooFew" "NoWorths" false, .kit "TooFew" "NoDegrees" false]
def gnL : List (Str × Option Str) := [(("is_readings", none) : Str × Option Str), (("keeps_all", none) : Str × Option Str), (("put_together", none) : Str × Option Str)]
abbrev hk : PySem.W.Hook := hookT 4 xfL faL fnL gnL
def ob (s : PySem.W.SharedT) : AlT := obsT 4 xfL faL fnL gnL (HandSHeadRun.getT s)
theorem ob_eq (s : PySem.W.SharedT) : ob s = hk.obs s.abs := obsT_eq (HandSHeadRun.getT_eq s)
theorem opt3 {α β γ δ : Type} {f : α → β} {g : α → γ} {h : α → δ} {a : β} {b : γ} {c : δ} : ∀ {x : Option α}, x.map f = some a → x.map g = some b → x.map h = some c → x.map (fun s => (f s, g s, h s)) = some (a, b, c)
  | none, e, _, _ => nomatch e
  | some s, e1, e2, e3 => by
    have e1 : f s = a := Option.some.inj e1
    have e2 : g s = b := Option.some.inj e2
    have e3 : h s = c := Option.some.inj e3
    show some (f s, g s, h s) = _
    rw [e1, e2, e3]
open PySem PySem.W PySem.Calls PyProof.Rows in
theorem run_a (w : World) (os : OsState) : (HandSHeadRun.endF (HandSHeadRun.stepQ (HandSHeadRun.denQ HandSHeadRun.tabQ) RR.prog w) 12000 RR.prog w os).map (fun s => HandSHeadRun.looksF RR.prog (boot_heap w.params) s.abs) = some (true) := by
  kernel_rfl
open PySem PySem.W PySem.Calls PyProof.Rows in
theorem run_b (w : World) (os : OsState) : (HandSHeadRun.endF (HandSHeadRun.stepQ (HandSHeadRun.denQ HandSHeadRun.tabQ) RR.prog w) 12000 RR.prog w os).map (fun s => HandSHeadRun.seenQ (PySem.W.view RR.prog [60]) looseL (importedModules RR.prog.main.body) (fun s => xlAt (PySem.W.view RR.prog [60]) [] s && recOk RR.toRowW.records s) s.abs) = some (openGood (PySem.W.view RR.prog [60]) looseL) := by
  kernel_rfl
open PySem PySem.W PySem.Calls PyProof.Rows in
theorem run_c (w : World) (os : OsState) : (HandSHeadRun.endF (HandSHeadRun.stepQ (HandSHeadRun.denQ HandSHeadRun.tabQ) RR.prog w) 12000 RR.prog w os).map (fun s => ob s) = some (hk.val w) := by
  kernel_rfl
theorem run (w : World) : HandSHeadRun.RunEq RR (PySem.W.view RR.prog [60]) hk ob 12000 looseL w := fun os => opt3 (run_a w os) (run_b w os) (run_c w os)
end
/-! ### heaps but for one list -/
theorem same_new {H : Hp} {p : Addr} {o : HO} (h : H p = none) : Ex H (upd H p o) := Ex.new h
/-- everything but what stands at B is as it was -/
def ExB (B : Addr) (H H' : Hp) : Prop := ∀ a o, a ≠ B → H a = some o → H' a = some o
theorem ExB.refl (B : Addr) (H : Hp) : ExB B H H := fun _ _ _ h => h
theorem ExB.trans {B : Addr} {H H1 H2 : Hp} (a : ExB B H H1) (b : ExB B H1 H2) : ExB B H H2 := fun x o n h => b x o n (a x o n h)
theorem ExB.of {B : Addr} {H H' : Hp} (e : Ex H H') : ExB B H H' := fun a o _ h => e a o h
theorem ExB.upd {B : Addr} {H : Hp} {o : HO} : ExB B H (upd H B o) := fun a u n h => by
  rw [upd_ne n]
  exact h
/-! ### data, as it stands in a heap -/
def oD : Option Int → PyData
  | none => .none
  | some r => .int r
def oV : Option Int → V
  | none => .non
  | some r => .int r
mutual
inductive Dt (H : Hp) : V → PyData → Prop
  | non : Dt H .non .none
  | bl (b : Bool) : Dt H (.bl b) (.bool b)
  | int (i : Int) : Dt H (.int i) (.int i)
  | str (x : Str) : Dt H (.str x) (.str x)
  | lst {a : Addr} {xs : List V} {ds : List PyData} : H a = some (.lst xs) → DtAll H xs ds → Dt H (.ref a) (.list ds)
  | tup {a : Addr} {xs : List V} {ds : List PyData} : H a = some (.tup xs) → DtAll H xs ds → Dt H (.ref a) (.tuple ds)
  | dic {a : Addr} {ns : List (Int × Option Int)} : H a = some (.dK (ns.map fun p => ((Sum.inl p.1 : Key), oV p.2))) → Dt H (.ref a) (.dict (ns.map fun p => (PyData.int p.1, oD p.2)))
inductive DtAll (H : Hp) : List V → List PyData → Prop
  | nil : DtAll H [] []
  | cons {v : V} {vs : List V} {d : PyData} {ds : List PyData} : Dt H v d → DtAll H vs ds → DtAll H (v :: vs) (d :: ds)
end
mutual
theorem Dt.mono {H H' : Hp} (e : Ex H H') : ∀ (d : PyData) (v : V), Dt H v d → Dt H' v d
  | .none, _, h => by cases h; exact .non
  | .bool b, _, h => by cases h; exact .bl b
  | .int i, _, h => by cases h; exact .int i
  | .str x, _, h => by cases h; exact .str x
  | .list ds, _, h => by
    cases h with
    | lst hs ha => exact .lst (e _ _ hs) (DtAll.mono e ds _ ha)
  | .tuple ds, _, h => by
    cases h with
    | tup hs ha => exact .tup (e _ _ hs) (DtAll.mono e ds _ ha)
  | .dict _, _, h => by
    cases h with
    | dic hs => exact .dic (e _ _ hs)
theorem DtAll.mono {H H' : Hp} (e : Ex H H') : ∀ (ds : List PyData) (vs : List V), DtAll H vs ds → DtAll H' vs ds
  | [], _, h => by cases h; exact .nil
  | d :: ds, _, h => by
    cases h with
    | cons h1 h2 => exact .cons (Dt.mono e d _ h1) (DtAll.mono e ds _ h2)
end
theorem Dt.up {H H' : Hp} {v : V} {d : PyData} (h : Dt H v d) (e : Ex H H') : Dt H' v d := Dt.mono e d v h
theorem DtAll.up {H H' : Hp} {v : List V} {d : List PyData} (h : DtAll H v d) (e : Ex H H') : DtAll H' v d := DtAll.mono e d v h
/-! data without lists in it: what is done to a list does not touch it -/
mutual
def noL : PyData → Bool
  | .list _ => false
  | .tuple ds => noLs ds
  | _ => true
def noLs : List PyData → Bool
  | [] => true
  | d :: ds => noL d && noLs ds
end
def IsL (H : Hp) (B : Addr) : Prop := ∃ xs, H B = some (.lst xs)
mutual
theorem Dt.monoB {B : Addr} {H H' : Hp} (hB : IsL H B) (e : ExB B H H') : ∀ (d : PyData) (v : V), noL d = true → Dt H v d → Dt H' v d
  | .none, _, _, h => by cases h; exact .non
  | .bool b, _, _, h => by cases h; exact .bl b
  | .int i, _, _, h => by cases h; exact .int i
  | .str x, _, _, h => by cases h; exact .str x
  | .list ds, _, n, h => nomatch n
  | .tuple ds, _, n, h => by
    cases h with
    | @tup a _ _ hs ha =>
      refine .tup (e a _ (fun z => ?_) hs) (DtAll.monoB hB e ds _ n ha)
      obtain ⟨xs, hx⟩ := hB
      rw [z, hx] at hs
      cases hs
  | .dict _, _, _, h => by
    cases h with
    | @dic a _ hs =>
      refine .dic (e a _ (fun z => ?_) hs)
      obtain ⟨xs, hx⟩ := hB
      rw [z, hx] at hs
      cases hs
theorem DtAll.monoB {B : Addr} {H H' : Hp} (hB : IsL H B) (e : ExB B H H') : ∀ (ds : List PyData) (vs : List V), noLs ds = true → DtAll H vs ds → DtAll H' vs ds
  | [], _, _, h => by cases h; exact .nil
  | d :: ds, _, n, h => by
    obtain ⟨n1, n2⟩ := Bool.and_eq_true_iff.mp (show (noL d && noLs ds) = true from n)
    cases h with
    | cons h1 h2 => exact .cons (Dt.monoB hB e d _ n1 h1) (DtAll.monoB hB e ds _ n2 h2)
end
theorem noLs_of {ds : List PyData} (h : ∀ d ∈ ds, noL d = true) : noLs ds = true := by
  induction ds with
  | nil => rfl
  | cons d ds ih =>
    show (noL d && noLs ds) = true
    rw [h d (List.mem_cons_self), ih fun x hx => h x (List.mem_cons_of_mem _ hx)]
    rfl
theorem noLs_mem {ds : List PyData} (h : noLs ds = true) : ∀ d ∈ ds, noL d = true := by
  induction ds with
  | nil => intro d hd; cases hd
  | cons x ds ih =>
    obtain ⟨n1, n2⟩ := Bool.and_eq_true_iff.mp (show (noL x && noLs ds) = true from h)
    intro d hd
    rcases List.mem_cons.mp hd with e | e
    · rw [e]; exact n1
    · exact ih n2 d e
/-! lists of data -/
theorem DtAll.len {H : Hp} : ∀ {vs : List V} {ds : List PyData}, DtAll H vs ds → vs.length = ds.length
  | _, _, .nil => rfl
  | _, _, .cons _ h => by rw [List.length_cons, List.length_cons, h.len]
theorem DtAll.app {H : Hp} : ∀ {vs us : List V} {ds es : List PyData}, DtAll H vs ds → DtAll H us es → DtAll H (vs ++ us) (ds ++ es)
  | _, _, _, _, .nil, h => h
  | _, _, _, _, .cons a b, h => .cons a (b.app h)
theorem DtAll.get {H : Hp} : ∀ {vs : List V} {ds : List PyData} (i : Nat) {v : V}, DtAll H vs ds → vs[i]? = some v → ∃ d, ds[i]? = some d ∧ Dt H v d
  | _, _, _, _, .nil, e => by simp at e
  | _, _, 0, _, .cons a _, e => by
    have e := Option.some.inj e
    subst e
    exact ⟨_, rfl, a⟩
  | _, _, i + 1, _, .cons _ b, e => b.get i e
theorem DtAll.getD {H : Hp} : ∀ {vs : List V} {ds : List PyData} (i : Nat) {d : PyData}, DtAll H vs ds → ds[i]? = some d → ∃ v, vs[i]? = some v ∧ Dt H v d
  | _, _, _, _, .nil, e => by simp at e
  | _, _, 0, _, .cons a _, e => by
    have e := Option.some.inj e
    subst e
    exact ⟨_, rfl, a⟩
  | _, _, i + 1, _, .cons _ b, e => b.getD i e
theorem DtAll.ints {H : Hp} : ∀ ns : List Int, DtAll H (ns.map V.int) (ns.map PyData.int)
  | [] => .nil
  | n :: ns => .cons (.int n) (DtAll.ints ns)
theorem DtAll.ints_eq {H : Hp} : ∀ {vs : List V} (ns : List Int), DtAll H vs (ns.map PyData.int) → vs = ns.map V.int
  | _, [], h => by cases h; rfl
  | _, n :: ns, h => by
    cases h with
    | cons a b =>
      cases a
      rw [DtAll.ints_eq ns b]
      rfl
theorem Dt.int_eq {H : Hp} {v : V} {i : Int} (h : Dt H v (.int i)) : v = .int i := by cases h; rfl
theorem Dt.bl_eq {H : Hp} {v : V} {b : Bool} (h : Dt H v (.bool b)) : v = .bl b := by cases h; rfl
theorem Dt.non_eq {H : Hp} {v : V} (h : Dt H v .none) : v = .non := by cases h; rfl
theorem Dt.tup_get {H : Hp} {v : V} {ds : List PyData} (h : Dt H v (.tuple ds)) : ∃ a xs, v = .ref a ∧ H a = some (.tup xs) ∧ DtAll H xs ds := by
  cases h with
  | tup a b => exact ⟨_, _, rfl, a, b⟩
theorem Dt.lst_get {H : Hp} {v : V} {ds : List PyData} (h : Dt H v (.list ds)) : ∃ a xs, v = .ref a ∧ H a = some (.lst xs) ∧ DtAll H xs ds := by
  cases h with
  | lst a b => exact ⟨_, _, rfl, a, b⟩
/-! into the layer's own word -/
mutual
theorem Dt.dp {K : PySem.W.Frag} {H : Hp} : ∀ (d : PyData) (v : V), d.canLay0 = true → Dt H v d → Dp K H v d
  | .none, _, _, h => by cases h; exact .non
  | .bool b, _, _, h => by cases h; exact .bl b
  | .int i, _, _, h => by cases h; exact .int i
  | .str x, _, _, h => by cases h; exact .str x
  | .list ds, _, n, h => by
    have n : PyData.canLayAll0 ds = true := by simpa [PyData.canLay0] using n
    cases h with
    | lst hs ha => exact .lst (.inl (.inl hs)) (DtAll.dp ds _ n ha)
  | .tuple ds, _, n, h => by
    have n : PyData.canLayAll0 ds = true := by simpa [PyData.canLay0] using n
    cases h with
    | tup hs ha => exact .tup (.inl (.inl hs)) (DtAll.dp ds _ n ha)
  | .dict _, _, n, _ => by simp [PyData.canLay0] at n
theorem DtAll.dp {K : PySem.W.Frag} {H : Hp} : ∀ (ds : List PyData) (vs : List V), PyData.canLayAll0 ds = true → DtAll H vs ds → DpAll K H vs ds
  | [], _, _, h => by cases h; exact .nil
  | d :: ds, _, n, h => by
    have n : d.canLay0 = true ∧ PyData.canLayAll0 ds = true := by simpa [PyData.canLayAll0] using n
    cases h with
    | cons h1 h2 => exact .cons (Dt.dp d _ n.1 h1) (DtAll.dp ds _ n.2 h2)
end
/-! ### kinds -/
def tyN : PyData → String
  | .none => "NoneType"
  | .bool _ => "bool"
  | .int _ => "int"
  | .str _ => "str"
  | .list _ => "list"
  | .tuple _ => "tuple"
  | .dict _ => "dict"
theorem Dt.ty {K : PySem.W.Frag} {H : Hp} {v : V} {d : PyData} (h : Dt H v d) : TyX K H v (.type (tyN d)) := by
  cases h with
  | non => exact .base .non
  | bl b => exact .base (.bl b)
  | int i => exact .base (.int i)
  | str x => exact .base (.str x)
  | lst a b => exact .base (.lst a)
  | tup a b => exact .base (.tup a)
  | dic a => exact .base (.dK a)
def dInt : PyData → Bool
  | .int _ | .bool _ => true
  | _ => false
def dBool : PyData → Bool
  | .bool _ => true
  | _ => false
def dTup : PyData → Bool
  | .tuple _ => true
  | _ => false
def dLst : PyData → Bool
  | .list _ => true
  | _ => false
/-- a whole number -/
def dWhole : PyData → Bool
  | .int _ => true
  | _ => false
theorem kit_int (d : PyData) : kitB (tyN d) "int" = some (dInt d) := by
  cases d with
  | none => show kitB "NoneType" "int" = some false; decide +kernel
  | bool _ => show kitB "bool" "int" = some true; decide +kernel
  | int _ => show kitB "int" "int" = some true; decide +kernel
  | str _ => show kitB "str" "int" = some false; decide +kernel
  | list _ => show kitB "list" "int" = some false; decide +kernel
  | tuple _ => show kitB "tuple" "int" = some false; decide +kernel
  | dict _ => show kitB "dict" "int" = some false; decide +kernel
theorem kit_bool (d : PyData) : kitB (tyN d) "bool" = some (dBool d) := by
  cases d with
  | none => show kitB "NoneType" "bool" = some false; decide +kernel
  | bool _ => show kitB "bool" "bool" = some true; decide +kernel
  | int _ => show kitB "int" "bool" = some false; decide +kernel
  | str _ => show kitB "str" "bool" = some false; decide +kernel
  | list _ => show kitB "list" "bool" = some false; decide +kernel
  | tuple _ => show kitB "tuple" "bool" = some false; decide +kernel
  | dict _ => show kitB "dict" "bool" = some false; decide +kernel
theorem kit_tup (d : PyData) : kitB (tyN d) "tuple" = some (dTup d) := by
  cases d with
  | none => show kitB "NoneType" "tuple" = some false; decide +kernel
  | bool _ => show kitB "bool" "tuple" = some false; decide +kernel
  | int _ => show kitB "int" "tuple" = some false; decide +kernel
  | str _ => show kitB "str" "tuple" = some false; decide +kernel
  | list _ => show kitB "list" "tuple" = some false; decide +kernel
  | tuple _ => show kitB "tuple" "tuple" = some true; decide +kernel
  | dict _ => show kitB "dict" "tuple" = some false; decide +kernel
theorem kit_lst (d : PyData) : kitB (tyN d) "list" = some (dLst d) := by
  cases d with
  | none => show kitB "NoneType" "list" = some false; decide +kernel
  | bool _ => show kitB "bool" "list" = some false; decide +kernel
  | int _ => show kitB "int" "list" = some false; decide +kernel
  | str _ => show kitB "str" "list" = some false; decide +kernel
  | list _ => show kitB "list" "list" = some true; decide +kernel
  | tuple _ => show kitB "tuple" "list" = some false; decide +kernel
  | dict _ => show kitB "dict" "list" = some false; decide +kernel
theorem rIsi_of {K : PySem.W.Frag} {H : Hp} {v : V} {d : PyData} {c : String} {b : Bool} {Q : VK} (h : Dt H v d) (k : kitB (tyN d) c = some b) (q : Q (.bl b) H) : rIsi K [v, .ty c] H Q :=
  ⟨v, .ty c, _, _, b, rfl, .ty c, h.ty, kit_ty k, q⟩
/-! ### the refusals' classes -/
def ExcFacts (K : PySem.W.Frag) (C : Addr) : Prop := PySem.W.excIn K C He.veBase "ValueError.__new__" = true ∧ PySem.W.keepIn K (.ref C) = true ∧ PySem.W.subIn K (.ref C) (.type "BaseException") = some true ∧ PySem.W.typeIn K (.ref C) = some (.type "type")
theorem excFacts_of {K : PySem.W.Frag} {x : Str} (c : (He.Fa.exc x).ok K = true) : ExcFacts K (He.ga K x) := by
  obtain ⟨c1, c⟩ := He.ba c
  obtain ⟨c2, c⟩ := He.ba c
  obtain ⟨c3, c4⟩ := He.ba c
  exact ⟨c1, c2, of_decide_eq_true c3, of_decide_eq_true c4⟩
/-! ### tests -/
theorem itT {b : Bool} {A B : Prop} (hb : b = true) (h : A) : if b = true then A else B := by
  rw [if_pos hb]
  exact h
theorem itF {b : Bool} {A B : Prop} (hb : b = false) (h : B) : if b = true then A else B := by
  rw [if_neg (by rw [hb]; exact Bool.false_ne_true)]
  exact h
theorem it2 {b : Bool} {A B : Prop} (h1 : b = true → A) (h2 : b = false → B) : if b = true then A else B := by
  cases b with
  | true => exact itT rfl (h1 rfl)
  | false => exact itF rfl (h2 rfl)
theorem dI {i j : Int} : decide (V.int i = V.int j) = decide (i = j) := by
  by_cases e : i = j
  · subst e
    rw [decide_eq_true rfl, decide_eq_true rfl]
  · rw [decide_eq_false e, decide_eq_false fun z => e (V.int.inj z)]
/-! ### greatest divisors -/
theorem gcd_step (x y : Int) : Int.gcd y (x % y) = Int.gcd x y := by
  have e : x % y = x - y * (x / y) := Int.emod_def x y
  refine Nat.dvd_antisymm (Int.dvd_gcd ?_ (Int.gcd_dvd_left y (x % y))) (Int.dvd_gcd (Int.gcd_dvd_right x y) ?_)
  · have h1 : ((Int.gcd y (x % y) : Nat) : Int) ∣ y := Int.gcd_dvd_left y (x % y)
    have h2 : ((Int.gcd y (x % y) : Nat) : Int) ∣ x % y := Int.gcd_dvd_right y (x % y)
    have h3 : x = x % y + y * (x / y) := by omega
    rw [h3]
    have h4 : ((Int.gcd y (x % y) : Nat) : Int) ∣ x % y + y * (x / y) := Int.dvd_add h2 (Int.dvd_mul_of_dvd_left h1)
    rw [← h3]
    rw [← h3] at h4
    exact h4
  · rw [e]
    exact Int.dvd_sub (Int.gcd_dvd_left x y) (Int.dvd_mul_of_dvd_left (Int.gcd_dvd_right x y))
def dPair : PyData → Bool
  | .tuple ds => decide (ds.length = 2)
  | _ => false
theorem dPair_get {d : PyData} (h : dPair d = true) : ∃ a b, d = .tuple [a, b] := by
  cases d with
  | tuple ds =>
    have h : ds.length = 2 := of_decide_eq_true h
    match ds, h with
    | [a, b], _ => exact ⟨a, b, rfl⟩
  | _ => exact nomatch h
theorem dWhole_get {d : PyData} (h : dWhole d = true) : ∃ i, d = .int i := by
  cases d with
  | int i => exact ⟨i, rfl⟩
  | _ => exact nomatch h
/-- bounds (n, d), both at most m -/
def dBounds : PyData → Bool
  | .tuple [.int n, .int d] => decide (0 ≤ n) && decide (1 ≤ d)
  | _ => false
def dBoundsTo (m : Int) : PyData → Bool
  | .tuple [.int n, .int d] => decide (0 ≤ n) && decide (1 ≤ d) && decide (n ≤ m) && decide (d ≤ m)
  | _ => false
theorem dBounds_pair {d : PyData} (h : dPair d = false) : dBounds d = false := by
  match d, h with
  | .tuple [], _ => simp [dBounds]
  | .tuple [_], _ => simp [dBounds]
  | .tuple [_, _], h => exact nomatch h
  | .tuple (_ :: _ :: _ :: _), _ => simp [dBounds]
  | .none, _ => rfl
  | .bool _, _ => rfl
  | .int _, _ => rfl
  | .str _, _ => rfl
  | .list _, _ => rfl
  | .dict _, _ => rfl
theorem dBounds_get {d : PyData} (h : dBounds d = true) : ∃ n m : Int, d = .tuple [.int n, .int m] ∧ 0 ≤ n ∧ 1 ≤ m := by
  unfold dBounds at h
  split at h
  · obtain ⟨h1, h2⟩ := Bool.and_eq_true_iff.mp h
    exact ⟨_, _, rfl, of_decide_eq_true h1, of_decide_eq_true h2⟩
  · cases h
theorem dBoundsTo_no {m : Int} {d : PyData} (h : dBounds d = false) : dBoundsTo m d = false := by
  unfold dBoundsTo
  split
  · unfold dBounds at h
    simp only at h
    rw [h]
    rfl
  · rfl
/-! ### lists that grow, of data without lists -/
def AccL (H : Hp) (D : Addr) (ds : List PyData) : Prop := ∃ acc, H D = some (.lst acc) ∧ DtAll H acc ds ∧ noLs ds = true
theorem noLs_app {a b : List PyData} (h1 : noLs a = true) (h2 : noLs b = true) : noLs (a ++ b) = true := noLs_of fun d hd => by
  rcases List.mem_append.mp hd with e | e
  · exact noLs_mem h1 d e
  · exact noLs_mem h2 d e
theorem AccL.new {H : Hp} {D : Addr} : AccL (upd H D (.lst [])) D [] := ⟨[], upd_same, .nil, rfl⟩
theorem AccL.up {H H' : Hp} {D : Addr} {ds : List PyData} (h : AccL H D ds) (e : Ex H H') : AccL H' D ds := by
  obtain ⟨acc, h1, h2, h3⟩ := h
  exact ⟨acc, e _ _ h1, h2.up e, h3⟩
theorem AccL.app {H H2 : Hp} {D : Addr} {ds : List PyData} {v : V} {d : PyData} (h : AccL H D ds) (e : Ex H H2) (hv : Dt H2 v d) (nd : noL d = true) : ∃ acc, H2 D = some (.lst acc) ∧ acc.length = ds.length ∧ AccL (upd H2 D (.lst (acc ++ [v]))) D (ds ++ [d]) := by
  obtain ⟨acc, h1, h2, h3⟩ := h
  have hD := e _ _ h1
  have hL : IsL H2 D := ⟨acc, hD⟩
  refine ⟨acc, hD, h2.len, acc ++ [v], upd_same, DtAll.app ?_ (.cons ?_ .nil), noLs_app h3 ?_⟩
  · exact DtAll.monoB hL ExB.upd ds acc h3 (h2.up e)
  · exact Dt.monoB hL ExB.upd d v nd hv
  · show (noL d && true) = true
    rw [nd]
    rfl
theorem AccL.dt {H : Hp} {D : Addr} {ds : List PyData} (h : AccL H D ds) : Dt H (.ref D) (.list ds) := by
  obtain ⟨acc, h1, h2, _⟩ := h
  exact .lst h1 h2
/-! ### the draws -/
def PoolB (H : Hp) (pa : Addr) (n : Nat) : Prop := ∃ a b c : Int, H pa = some (.lst [.int a, .int b, .int c]) ∧ 0 ≤ c ∧ c + n ≤ 1099511627776
theorem PoolB.isL {H : Hp} {pa : Addr} {n : Nat} (h : PoolB H pa n) : IsL H pa := by
  obtain ⟨a, b, c, h, _⟩ := h
  exact ⟨_, h⟩
theorem PoolB.up {H H' : Hp} {pa : Addr} {n : Nat} (h : PoolB H pa n) (e : Ex H H') : PoolB H' pa n := by
  obtain ⟨a, b, c, h, h2⟩ := h
  exact ⟨a, b, c, e _ _ h, h2⟩
theorem PoolB.less {H : Hp} {pa : Addr} {n m : Nat} (h : PoolB H pa n) (l : m ≤ n) : PoolB H pa m := by
  obtain ⟨a, b, c, h, h2, h3⟩ := h
  exact ⟨a, b, c, h, h2, by omega⟩
theorem ExB.free {B : Addr} {H H' : Hp} (e : ExB B H H') (hB : IsL H' B) {p : Addr} (h : H' p = none) : H p = none := by
  cases q : H p with
  | none => rfl
  | some o =>
    by_cases z : p = B
    · obtain ⟨xs, hx⟩ := hB
      rw [z, hx] at h
      cases h
    · rw [e p o z q] at h
      cases h
theorem Dt.dr {B : Addr} {H H' : Hp} {v : V} {d : PyData} (h : Dt H v d) (hB : IsL H B) (e : ExB B H H') (n : noL d = true) : Dt H' v d := Dt.monoB hB e d v n h
/-! ### picked ones, in order -/
def sel (f : Nat → Bool) (g : Nat → PyData) : Nat → List PyData
  | 0 => []
  | n + 1 => sel f g n ++ (if f n = true then [g n] else [])
theorem sel_yes {f : Nat → Bool} {g : Nat → PyData} {n : Nat} (h : f n = true) : sel f g (n + 1) = sel f g n ++ [g n] := by
  show sel f g n ++ (if f n = true then [g n] else []) = _
  rw [if_pos h]
theorem sel_no {f : Nat → Bool} {g : Nat → PyData} {n : Nat} (h : f n = false) : sel f g (n + 1) = sel f g n := by
  show sel f g n ++ (if f n = true then [g n] else []) = _
  rw [if_neg (by rw [h]; exact Bool.false_ne_true), List.append_nil]
theorem sel_len (f : Nat → Bool) (g : Nat → PyData) : ∀ n : Nat, (sel f g n).length ≤ n
  | 0 => Nat.le_refl 0
  | n + 1 => by
    have h := sel_len f g n
    cases e : f n with
    | true => rw [sel_yes e, List.length_append]; exact Nat.add_le_add h (Nat.le_refl 1)
    | false => rw [sel_no e]; omega
theorem sel_congr {f f' : Nat → Bool} {g g' : Nat → PyData} : ∀ n : Nat, (∀ i, i < n → f i = f' i) → (∀ i, i < n → g i = g' i) → sel f g n = sel f' g' n
  | 0, _, _ => rfl
  | n + 1, h1, h2 => by
    show sel f g n ++ (if f n = true then [g n] else []) = sel f' g' n ++ (if f' n = true then [g' n] else [])
    rw [sel_congr n (fun i hi => h1 i (by omega)) (fun i hi => h2 i (by omega)), h1 n (by omega), h2 n (by omega)]
theorem _root_.Evl.Ex.keepB {B : Addr} {H0 H H' : Hp} (a : Ex H0 H) (n : H0 B = none) (b : ExB B H H') : Ex H0 H' := fun x o h => b x o (ne_of_none h n) (a x o h)
/-! ### what an expression is worth, as data -/
def EvD (te : TE) (σ : L2.St) (H : Hp) (d : PyData) : Prop := ∀ H1, Ex H H1 → ∀ Q : VK, (∀ v H2, Ex H1 H2 → Dt H2 v d → Q v H2) → te σ H1 Q
def EvN (te : TE) (σ : L2.St) (H : Hp) (ds : List PyData) : Prop := ∀ H1, Ex H H1 → ∀ Q : VK, (∀ p H2, H1 p = none → Ex H1 H2 → AccL H2 p ds → Q (.ref p) H2) → te σ H1 Q
def EvDA (ta : TA) (σ : L2.St) (H : Hp) (ds : List PyData) : Prop := ∀ H1, Ex H H1 → ∀ Q : List V → Hp → Prop, (∀ vs H2, Ex H1 H2 → DtAll H2 vs ds → Q vs H2) → ta σ H1 Q
section
variable {K : PySem.W.Frag} {σ : L2.St} {H H' : Hp} {ta tb te tl : TE} {t u : TT} {d : PyData} {ds : List PyData}
theorem EvD.mono (e : Ex H H') (h : EvD te σ H d) : EvD te σ H' d := fun H1 a Q q => h H1 (e.trans a) Q q
theorem EvN.mono (e : Ex H H') (h : EvN te σ H ds) : EvN te σ H' ds := fun H1 a Q q => h H1 (e.trans a) Q q
theorem EvN.ed (h : EvN te σ H ds) : EvD te σ H (.list ds) := fun H1 e Q q => h H1 e Q fun p H2 _ e2 a => q _ H2 e2 a.dt
theorem ed_of {v : V} (h : Ev te σ H v) (hd : Dt H v d) : EvD te σ H d := fun H1 e Q q => h H1 e Q fun H2 e2 => q v H2 e2 (hd.up (e.trans e2))
theorem ed_var {v : V} {i : Nat} (h : σ[i]? = some (some v)) (hd : Dt H v d) : EvD (tVar i) σ H d := ed_of (ev_var h) hd
theorem ed_int {i : Int} (h : Ev te σ H (.int i)) : EvD te σ H (.int i) := ed_of h (.int i)
theorem ev_int {i : Int} (h : EvD te σ H (.int i)) : Ev te σ H (.int i) := fun H1 e Q q => h H1 e Q fun v H2 e2 hd => by
  rw [hd.int_eq]
  exact q H2 e2
theorem ev_bl {b : Bool} (h : EvD te σ H (.bool b)) : Ev te σ H (.bl b) := fun H1 e Q q => h H1 e Q fun v H2 e2 hd => by
  rw [hd.bl_eq]
  exact q H2 e2
theorem eda_nil : EvDA tNil σ H [] := fun H1 _ _ q => q [] H1 (Ex.refl H1) .nil
theorem eda_cons {tr : TA} (h : EvD te σ H d) (hr : EvDA tr σ H ds) : EvDA (tCons te tr) σ H (d :: ds) := fun H1 e _ q =>
  h H1 e _ fun v H2 e2 hv => hr H2 (e.trans e2) _ fun vs H3 e3 hvs => q (v :: vs) H3 (e2.trans e3) (.cons (hv.up e3) hvs)
theorem ed_tup {tr : TA} (h : EvDA tr σ H ds) (hl : ds.length ≤ 100000) : EvD (tTup tr) σ H (.tuple ds) := fun H1 e _ q =>
  h H1 e _ fun vs H2 e2 hv => ⟨sz_of (by rw [hv.len]; exact hl), fun p hp => q _ _ (e2.trans (Ex.new hp)) (.tup upd_same (hv.up (Ex.new hp)))⟩
theorem en_lst {tr : TA} (h : EvDA tr σ H ds) (hl : ds.length ≤ 100000) (hn : noLs ds = true) : EvN (tLst tr) σ H ds := fun H1 e _ q =>
  h H1 e _ fun vs H2 e2 hv => ⟨sz_of (by rw [hv.len]; exact hl), fun p hp => q p _ (fresh_back e2 hp) (e2.trans (Ex.new hp)) ⟨vs, upd_same, hv.up (Ex.new hp), hn⟩⟩
/-- one turn of a comprehension -/
theorem lc_turn {H1 H2 : Hp} {D : Addr} {dsi : List PyData} {b : Bool} {σ2 : L2.St} (p : Ex H1 H2 ∧ AccL H2 D dsi) (hD : H1 D = none) (hz : dsi.length < 50000) (ht : EvT t σ2 H1 b) (he : b = true → EvD te σ2 H1 d) (nd : b = true → noL d = true) :
    t σ2 H2 fun c H3 => if c = true then te σ2 H3 fun y H4 => ∃ acc, H4 D = some (.lst acc) ∧ acc.length < sizeLine ∧ (Ex H1 (upd H4 D (.lst (acc ++ [y]))) ∧ AccL (upd H4 D (.lst (acc ++ [y]))) D (dsi ++ (if b = true then [d] else []))) else (Ex H1 H3 ∧ AccL H3 D (dsi ++ (if b = true then [d] else []))) := by
  obtain ⟨e1, a1⟩ := p
  refine ht H2 e1 _ fun H3 e3 => ?_
  cases b with
  | true =>
    refine itT rfl (he rfl H3 (e1.trans e3) _ fun v H4 e4 hv => ?_)
    obtain ⟨acc, h1, h2, h3⟩ := a1.app (e3.trans e4) hv (nd rfl)
    exact ⟨acc, h1, sz_lt (by omega), Ex.mut ((e1.trans e3).trans e4) hD, h3⟩
  | false =>
    refine itF rfl ⟨e1.trans e3, ?_⟩
    rw [if_neg Bool.false_ne_true, List.append_nil]
    exact a1.up e3
theorem take_flt {α β : Type} (f : α → Bool) (g : α → β) {ds : List α} {i : Nat} {d : α} (h : ds[i]? = some d) : ((ds.take (i + 1)).filter f).map g = ((ds.take i).filter f).map g ++ (if f d = true then [g d] else []) := by
  rw [List.take_add_one, h, List.filter_append, List.map_append]
  congr 1
  cases e : f d with
  | true => simp [e]
  | false => simp [e]
theorem flt_len {α β : Type} (f : α → Bool) (g : α → β) (ds : List α) (i : Nat) : (((ds.take i).filter f).map g).length ≤ ds.length := by
  rw [List.length_map]
  have h1 := List.length_filter_le f (ds.take i)
  have h2 : (ds.take i).length ≤ ds.length := by
    rw [List.length_take]
    exact Nat.min_le_right _ _
  omega
/-- [te for x in tl if t] over a list of data -/
theorem en_lcD {j : Nat} {vs : List Nat} (f : PyData → Bool) (g : PyData → PyData) (h : EvD tl σ H (.list ds)) (hz : ds.length ≤ 40000) (hw : ∀ x, wipe ((wipe σ vs).set j (some x)) vs = wipe σ vs)
    (ht : ∀ H1 v d, Ex H H1 → d ∈ ds → Dt H1 v d → EvT t ((wipe σ vs).set j (some v)) H1 (f d)) (he : ∀ H1 v d, Ex H H1 → d ∈ ds → Dt H1 v d → f d = true → EvD te ((wipe σ vs).set j (some v)) H1 (g d)) (hn : ∀ d, d ∈ ds → f d = true → noL (g d) = true) :
    EvN (tLc (iList K tl) (gName j) t te vs) σ H ((ds.filter f).map g) := fun H0 e Q q => h H0 e _ fun v H1 e1 hv => by
  obtain ⟨a, xs, rfl, ha, hx⟩ := hv.lst_get
  refine ⟨a, rfl, ⟨xs, sq_of ha⟩, fun D hD => lc_list (xs := xs) (fun i H' => Ex H1 H' ∧ AccL H' D (((ds.take i).filter f).map g)) ⟨Ex.new hD, AccL.new⟩ (fun i H' _ p => sq_of (p.1 a _ ha)) (fun i x H' hi p => ?_) (fun H' p => ?_)⟩
  · obtain ⟨d, hd, hxd⟩ := hx.get i hi
    have hm := List.mem_of_getElem? hd
    refine ⟨hw x, ?_⟩
    show t _ H' fun c H3 => if c = true then te _ H3 fun y H4 => ∃ acc, H4 D = some (.lst acc) ∧ acc.length < sizeLine ∧ (Ex H1 (upd H4 D (.lst (acc ++ [y]))) ∧ AccL (upd H4 D (.lst (acc ++ [y]))) D (((ds.take (i + 1)).filter f).map g)) else (Ex H1 H3 ∧ AccL H3 D (((ds.take (i + 1)).filter f).map g))
    rw [take_flt f g hd]
    exact lc_turn p hD (by have := flt_len f g ds i; omega) (ht H1 x d (e.trans e1) hm hxd) (fun hf => he H1 x d (e.trans e1) hm hxd hf) (hn d hm)
  · rw [hx.len, List.take_length] at p
    exact q D H' (fresh_back e1 hD) (e1.trans p.1) p.2
/-- .. over a tuple of data -/
theorem en_lcT {j : Nat} {vs : List Nat} (f : PyData → Bool) (g : PyData → PyData) (h : EvD tl σ H (.tuple ds)) (hz : ds.length ≤ 40000) (hw : ∀ x, wipe ((wipe σ vs).set j (some x)) vs = wipe σ vs)
    (ht : ∀ H1 v d, Ex H H1 → d ∈ ds → Dt H1 v d → EvT t ((wipe σ vs).set j (some v)) H1 (f d)) (he : ∀ H1 v d, Ex H H1 → d ∈ ds → Dt H1 v d → f d = true → EvD te ((wipe σ vs).set j (some v)) H1 (g d)) (hn : ∀ d, d ∈ ds → f d = true → noL (g d) = true) :
    EvN (tLc (iTup K tl) (gName j) t te vs) σ H ((ds.filter f).map g) := fun H0 e Q q => h H0 e _ fun v H1 e1 hv => by
  obtain ⟨a, xs, rfl, ha, hx⟩ := hv.tup_get
  refine ⟨a, rfl, ⟨xs, st_of ha⟩, fun D hD => lc_tup (xs := xs) (fun i H' => Ex H1 H' ∧ AccL H' D (((ds.take i).filter f).map g)) ⟨Ex.new hD, AccL.new⟩ (fun i H' _ p => st_of (p.1 a _ ha)) (fun i x H' hi p => ?_) (fun H' p => ?_)⟩
  · obtain ⟨d, hd, hxd⟩ := hx.get i hi
    have hm := List.mem_of_getElem? hd
    refine ⟨hw x, ?_⟩
    show t _ H' fun c H3 => if c = true then te _ H3 fun y H4 => ∃ acc, H4 D = some (.lst acc) ∧ acc.length < sizeLine ∧ (Ex H1 (upd H4 D (.lst (acc ++ [y]))) ∧ AccL (upd H4 D (.lst (acc ++ [y]))) D (((ds.take (i + 1)).filter f).map g)) else (Ex H1 H3 ∧ AccL H3 D (((ds.take (i + 1)).filter f).map g))
    rw [take_flt f g hd]
    exact lc_turn p hD (by have := flt_len f g ds i; omega) (ht H1 x d (e.trans e1) hm hxd) (fun hf => he H1 x d (e.trans e1) hm hxd hf) (hn d hm)
  · rw [hx.len, List.take_length] at p
    exact q D H' (fresh_back e1 hD) (e1.trans p.1) p.2
/-- .. over a range -/
def irng (lo hi : Int) : List Int := (List.range (hi - lo).toNat).map fun (i : Nat) => lo + (i : Int)
theorem irng_get {lo hi : Int} {i : Nat} (h : i < (hi - lo).toNat) : (irng lo hi)[i]? = some (lo + (i : Int)) := by
  unfold irng
  rw [List.getElem?_map, List.getElem?_range h]
  rfl
theorem irng_len (lo hi : Int) : (irng lo hi).length = (hi - lo).toNat := by
  unfold irng
  rw [List.length_map, List.length_range]
theorem irng_mem {lo hi x : Int} : x ∈ irng lo hi ↔ lo ≤ x ∧ x < hi := by
  unfold irng
  rw [List.mem_map]
  constructor
  · rintro ⟨i, hi, rfl⟩
    have := List.mem_range.mp hi
    omega
  · rintro ⟨h1, h2⟩
    exact ⟨(x - lo).toNat, List.mem_range.mpr (by omega), by omega⟩
theorem en_lcR2 {ta : TA} {j : Nat} {vs : List Nat} {lo hi : Int} (f : Int → Bool) (g : Int → PyData) (h : EvA ta σ H [.int lo, .int hi]) (hz : -1000000 ≤ lo ∧ hi ≤ 1000000 ∧ hi - lo ≤ 40000 ∧ lo ≤ 1000000 ∧ -1000000 ≤ hi) (hw : ∀ x, wipe ((wipe σ vs).set j (some x)) vs = wipe σ vs)
    (ht : ∀ x, lo ≤ x → x < hi → EvT t ((wipe σ vs).set j (some (.int x))) H (f x)) (he : ∀ x, lo ≤ x → x < hi → f x = true → EvD te ((wipe σ vs).set j (some (.int x))) H (g x)) (hn : ∀ x, lo ≤ x → x < hi → f x = true → noL (g x) = true) :
    EvN (tLc (iRng2 ta) (gName j) t te vs) σ H (((irng lo hi).filter f).map g) := fun H0 e Q q => h H0 e _ fun H1 e1 => by
  refine ⟨lo, hi, rfl, ⟨by omega, by omega, by omega, by omega⟩, fun D hD => lc_range (lo := lo) (n := (hi - lo).toNat) (fun i H' => Ex H1 H' ∧ AccL H' D ((((irng lo hi).take i).filter f).map g)) ⟨Ex.new hD, AccL.new⟩ (fun i H' hi' p => ?_) (fun H' p => ?_)⟩
  · refine ⟨hw _, ?_⟩
    show t _ H' fun c H3 => if c = true then te _ H3 fun y H4 => ∃ acc, H4 D = some (.lst acc) ∧ acc.length < sizeLine ∧ (Ex H1 (upd H4 D (.lst (acc ++ [y]))) ∧ AccL (upd H4 D (.lst (acc ++ [y]))) D ((((irng lo hi).take (i + 1)).filter f).map g)) else (Ex H1 H3 ∧ AccL H3 D ((((irng lo hi).take (i + 1)).filter f).map g))
    rw [take_flt f g (irng_get hi')]
    refine lc_turn p hD ?_ ((ht _ (by omega) (by omega)).mono (e.trans e1)) (fun hf => (he _ (by omega) (by omega) hf).mono (e.trans e1)) (hn _ (by omega) (by omega))
    have := flt_len f g (irng lo hi) i
    rw [irng_len] at this
    omega
  · rw [List.take_of_length_le (by rw [irng_len]; exact Nat.le_refl _)] at p
    exact q D H' (fresh_back e1 hD) (e1.trans p.1) p.2
theorem en_lcR1 {ta : TA} {j : Nat} {vs : List Nat} {hi : Int} (f : Int → Bool) (g : Int → PyData) (h : EvA ta σ H [.int hi]) (hz : -1000000 ≤ hi ∧ hi ≤ 40000) (hw : ∀ x, wipe ((wipe σ vs).set j (some x)) vs = wipe σ vs)
    (ht : ∀ x, 0 ≤ x → x < hi → EvT t ((wipe σ vs).set j (some (.int x))) H (f x)) (he : ∀ x, 0 ≤ x → x < hi → f x = true → EvD te ((wipe σ vs).set j (some (.int x))) H (g x)) (hn : ∀ x, 0 ≤ x → x < hi → f x = true → noL (g x) = true) :
    EvN (tLc (iRng1 ta) (gName j) t te vs) σ H (((irng 0 hi).filter f).map g) := fun H0 e Q q => h H0 e _ fun H1 e1 => by
  refine ⟨hi, rfl, by omega, by omega, fun D hD => lc_range (lo := 0) (n := hi.toNat) (fun i H' => Ex H1 H' ∧ AccL H' D ((((irng 0 hi).take i).filter f).map g)) ⟨Ex.new hD, AccL.new⟩ (fun i H' hi' p => ?_) (fun H' p => ?_)⟩
  · refine ⟨hw _, ?_⟩
    show t _ H' fun c H3 => if c = true then te _ H3 fun y H4 => ∃ acc, H4 D = some (.lst acc) ∧ acc.length < sizeLine ∧ (Ex H1 (upd H4 D (.lst (acc ++ [y]))) ∧ AccL (upd H4 D (.lst (acc ++ [y]))) D ((((irng 0 hi).take (i + 1)).filter f).map g)) else (Ex H1 H3 ∧ AccL H3 D ((((irng 0 hi).take (i + 1)).filter f).map g))
    rw [take_flt f g (irng_get (lo := 0) (hi := hi) (by omega))]
    refine lc_turn p hD ?_ ((ht _ (by omega) (by omega)).mono (e.trans e1)) (fun hf => (he _ (by omega) (by omega) hf).mono (e.trans e1)) (hn _ (by omega) (by omega))
    have := flt_len f g (irng 0 hi) i
    rw [irng_len] at this
    omega
  · rw [List.take_of_length_le (by rw [irng_len]; omega)] at p
    exact q D H' (fresh_back e1 hD) (e1.trans p.1) p.2
end
/-! ### == of data -/
mutual
def flat1 : PyData → Bool
  | .none | .bool _ | .int _ => true
  | _ => false
end
theorem canLay_ints : ∀ ns : List Int, PyData.canLayAll0 (ns.map PyData.int) = true
  | [] => rfl
  | n :: ns => by
    show ((PyData.int n).canLay0 && PyData.canLayAll0 (ns.map PyData.int)) = true
    rw [canLay_ints ns]
    rfl
theorem depth_ints : ∀ ns : List Int, PyData.depthAll (ns.map PyData.int) = 0
  | [] => rfl
  | n :: ns => by
    show max (PyData.depth (.int n)) (PyData.depthAll (ns.map PyData.int)) = 0
    rw [depth_ints ns]
    rfl
theorem shaped_ints (ns : List Int) : SeqAt.shaped (.list (ns.map PyData.int)) = true := by
  show (PyData.canLayAll0 (ns.map PyData.int) && decide (PyData.depthAll (ns.map PyData.int) + 1 ≤ 64)) = true
  rw [canLay_ints, depth_ints]
  rfl
theorem shaped_intsT (ns : List Int) : SeqAt.shaped (.tuple (ns.map PyData.int)) = true := by
  show (PyData.canLayAll0 (ns.map PyData.int) && decide (PyData.depthAll (ns.map PyData.int) + 1 ≤ 64)) = true
  rw [canLay_ints, depth_ints]
  rfl
/-- a list (tuple) of things of at most k deep -/
theorem lay_all {ds : List PyData} {k : Nat} (h : ∀ d ∈ ds, d.canLay0 = true ∧ d.depth ≤ k) : PyData.canLayAll0 ds = true ∧ PyData.depthAll ds ≤ k := by
  induction ds with
  | nil => exact ⟨rfl, Nat.zero_le _⟩
  | cons d ds ih =>
    obtain ⟨h1, h2⟩ := h d List.mem_cons_self
    obtain ⟨h3, h4⟩ := ih fun x hx => h x (List.mem_cons_of_mem _ hx)
    refine ⟨?_, ?_⟩
    · show (d.canLay0 && PyData.canLayAll0 ds) = true
      rw [h1, h3]
      rfl
    · show max d.depth (PyData.depthAll ds) ≤ k
      omega
theorem lay_list {ds : List PyData} {k : Nat} (h : ∀ d ∈ ds, d.canLay0 = true ∧ d.depth ≤ k) : (PyData.list ds).canLay0 = true ∧ (PyData.list ds).depth ≤ k + 1 := by
  obtain ⟨h1, h2⟩ := lay_all h
  exact ⟨h1, Nat.succ_le_succ h2⟩
theorem lay_tup {ds : List PyData} {k : Nat} (h : ∀ d ∈ ds, d.canLay0 = true ∧ d.depth ≤ k) : (PyData.tuple ds).canLay0 = true ∧ (PyData.tuple ds).depth ≤ k + 1 := by
  obtain ⟨h1, h2⟩ := lay_all h
  exact ⟨h1, Nat.succ_le_succ h2⟩
theorem lay_pair (a b : Int) : (PyData.tuple [.int a, .int b]).canLay0 = true ∧ (PyData.tuple [.int a, .int b]).depth ≤ 1 := ⟨rfl, Nat.le_refl 1⟩
theorem shaped_of {d : PyData} {k : Nat} (h : d.canLay0 = true ∧ d.depth ≤ k) (hk : k ≤ 64) : SeqAt.shaped d = true := by
  show (d.canLay0 && decide (d.depth ≤ 64)) = true
  rw [h.1, decide_eq_true (by omega)]
  rfl
theorem eqv_self {d : PyData} (h : d.canLay0 = true) : PyData.eqv d d = true := SeqAt.eqv_refl d h
section
variable {K : PySem.W.Frag} {σ : L2.St} {H H' : Hp} {ta tb te tl : TE} {t u : TT} {d e : PyData} {ds : List PyData}
theorem rv_eqD {x y : V} (hx : Dt H x d) (hy : Dt H y e) (sd : SeqAt.shaped d = true) (se : SeqAt.shaped e = true) : RV (rEqD K) x y H (.bl (PyData.eqv d e)) := fun H1 a _ q =>
  ⟨d, e, (hx.up a).dp _ _ (SeqAt.canLay_of_shaped sd), (hy.up a).dp _ _ (SeqAt.canLay_of_shaped se), sd, se, q H1 (Ex.refl H1)⟩
theorem rv_neD {x y : V} (hx : Dt H x d) (hy : Dt H y e) (sd : SeqAt.shaped d = true) (se : SeqAt.shaped e = true) : RV (rNeD K) x y H (.bl (!PyData.eqv d e)) := fun H1 a _ q =>
  ⟨d, e, (hx.up a).dp _ _ (SeqAt.canLay_of_shaped sd), (hy.up a).dp _ _ (SeqAt.canLay_of_shaped se), sd, se, q H1 (Ex.refl H1)⟩
theorem ev_eqD (h1 : EvD ta σ H d) (h2 : EvD tb σ H e) (sd : SeqAt.shaped d = true) (se : SeqAt.shaped e = true) : Ev (tOp (rEqD K) ta tb) σ H (.bl (PyData.eqv d e)) := fun H1 a Q q =>
  h1 H1 a _ fun x H2 e2 hx => h2 H2 (a.trans e2) _ fun y H3 e3 hy => rv_eqD (hx.up e3) hy sd se H3 (Ex.refl H3) Q fun H4 e4 => q H4 ((e2.trans e3).trans e4)
theorem ev_neD (h1 : EvD ta σ H d) (h2 : EvD tb σ H e) (sd : SeqAt.shaped d = true) (se : SeqAt.shaped e = true) : Ev (tOp (rNeD K) ta tb) σ H (.bl (!PyData.eqv d e)) := fun H1 a Q q =>
  h1 H1 a _ fun x H2 e2 hx => h2 H2 (a.trans e2) _ fun y H3 e3 hy => rv_neD (hx.up e3) hy sd se H3 (Ex.refl H3) Q fun H4 e4 => q H4 ((e2.trans e3).trans e4)
/-- [..] == [], [..] != [] -/
theorem eqv_nil : PyData.eqv (.list ds) (.list []) = ds.isEmpty := by
  cases ds with
  | nil => rfl
  | cons d ds => rfl
theorem ev_eqNil (h1 : EvN ta σ H ds) (sd : SeqAt.shaped (.list ds) = true) : Ev (tOp (rEqD K) ta (tLst tNil)) σ H (.bl ds.isEmpty) := by
  have h := ev_eqD (K := K) h1.ed (EvN.ed (en_lst (H := H) (σ := σ) eda_nil (by decide) rfl)) sd rfl
  rw [eqv_nil] at h
  exact h
theorem ev_neNil (h1 : EvN ta σ H ds) (sd : SeqAt.shaped (.list ds) = true) : Ev (tOp (rNeD K) ta (tLst tNil)) σ H (.bl (!ds.isEmpty)) := by
  have h := ev_neD (K := K) h1.ed (EvN.ed (en_lst (H := H) (σ := σ) eda_nil (by decide) rfl)) sd rfl
  rw [eqv_nil] at h
  exact h
theorem ev_isi {c : String} {b : Bool} {v : V} (h : Ev te σ H v) (hd : Dt H v d) (k : kitB (tyN d) c = some b) : Ev (tCB (rIsi K) (tCons te (tCons (tC (.ty c)) tNil))) σ H (.bl b) := fun H1 a Q q =>
  h H1 a _ fun H2 e2 => rIsi_of (hd.up (a.trans e2)) k (q H2 e2)
end
/-! ### loops -/
theorem s_forZ {ta : TA} {j : Nat} {lo hi : Int} {tu : TS} {D : Ends} {σ : L2.St} {H : Hp} (h : EvA ta σ H [.int lo, .int hi]) (hb : -1000000 ≤ lo ∧ lo ≤ 1000000 ∧ -1000000 ≤ hi ∧ hi ≤ 1000000) (Pv : Nat → L2.St → Hp → Prop) (h0 : ∀ H1, Ex H H1 → Pv 0 σ H1)
    (hs : ∀ (i : Nat) σ' H', lo + (i : Int) < hi → Pv i σ' H' → tu { D with nx := Pv (i + 1), ct := Pv (i + 1), bk := D.nx } (σ'.set j (some (.int (lo + (i : Int))))) H') (hd : ∀ σ' H', Pv (hi - lo).toNat σ' H' → D.nx σ' H') : tFor (iRng2 ta) (gName j) tu D σ H :=
  h H (Ex.refl H) _ fun H1 e => ⟨lo, hi, rfl, ⟨by omega, by omega, by omega, by omega⟩, for_range (lo := lo) (n := (hi - lo).toNat) Pv (h0 H1 e) (fun i σ' H' hi p => hs i σ' H' (by omega) p) hd⟩
/-! ### the fractions within bounds -/
/-- the row of the fractions with the bottom b, tops from -n on, j of them looked at; all rows to the bottom i -/
def frow (n b : Int) (j : Nat) : List PyData := sel (fun t => decide (Int.gcd (-n + (t : Int)) b = 1)) (fun t => .tuple [.int (-n + (t : Int)), .int b]) j
def frows (n : Int) : Nat → List PyData
  | 0 => []
  | i + 1 => frows n i ++ frow n (1 + (i : Int)) (2 * n + 1).toNat
theorem frows_len {n : Int} (h0 : 0 ≤ n) (h : n ≤ 60) : ∀ i : Nat, (frows n i).length ≤ 121 * i
  | 0 => Nat.le_refl 0
  | i + 1 => by
    show (frows n i ++ frow n (1 + (i : Int)) (2 * n + 1).toNat).length ≤ _
    have h1 := frows_len h0 h i
    have h2 : (frow n (1 + (i : Int)) (2 * n + 1).toNat).length ≤ (2 * n + 1).toNat := sel_len _ _ _
    rw [List.length_append]
    omega
/-! ### statements over data -/
section
variable {K : PySem.W.Frag} {σ : L2.St} {H H' : Hp} {ta tb te tl : TE} {t u : TT} {d e : PyData} {ds : List PyData} {D : Ends} {tz : TS}
theorem q_asgN {i : Nat} (h : EvN te σ H ds) (k : ∀ p H1, H p = none → Ex H H1 → AccL H1 p ds → tz D (σ.set i (some (.ref p))) H1) : tSeq (tAsg te (gName i)) tz D σ H := h H (Ex.refl H) _ k
theorem s_asgN {i : Nat} (h : EvN te σ H ds) (k : ∀ p H1, H p = none → Ex H H1 → AccL H1 p ds → D.nx (σ.set i (some (.ref p))) H1) : tAsg te (gName i) D σ H := h H (Ex.refl H) _ k
theorem q_asgD {i : Nat} (h : EvD te σ H d) (k : ∀ v H1, Ex H H1 → Dt H1 v d → tz D (σ.set i (some v)) H1) : tSeq (tAsg te (gName i)) tz D σ H := h H (Ex.refl H) _ k
theorem s_asgD {i : Nat} (h : EvD te σ H d) (k : ∀ v H1, Ex H H1 → Dt H1 v d → D.nx (σ.set i (some v)) H1) : tAsg te (gName i) D σ H := h H (Ex.refl H) _ k
theorem s_retN (h : EvN te σ H ds) (k : ∀ p H1, H p = none → Ex H H1 → AccL H1 p ds → D.rt (.ref p) H1) : tRet te D σ H := h H (Ex.refl H) _ k
theorem s_retD (h : EvD te σ H d) (k : ∀ v H1, Ex H H1 → Dt H1 v d → D.rt v H1) : tRet te D σ H := h H (Ex.refl H) _ k
end
/-! ### the layer's rules, the written part told by name -/
section
variable {X : Cx} {tg l e : Expr} {tl te : TE} {pos : Pos}
theorem pi_listK (K : PySem.W.Frag) (hl : PE X l tl) (hK : X.K = K := by rfl) : PI X tg l (iList K tl) := by
  subst hK
  exact pi_list hl
theorem pi_tupK (K : PySem.W.Frag) (hl : PE X l tl) (hK : X.K = K := by rfl) : PI X tg l (iTup K tl) := by
  subst hK
  exact pi_tup hl
theorem pe_revLK {k : Nat} {p1 p2 p3 : Pos} (K : PySem.W.Frag) (he : PE X e te) (hK : X.K = K := by rfl) : PE X (.Subscript e (.Slice none none (some (.UnaryOp .USub (.Constant (.int 1) k p1) p2)) p3) pos) (tRevL K te) := by
  subst hK
  exact pe_revL he
end
/-! ### how many turns a law takes -/
theorem turns_ok (m L : Int) (hm : 1 ≤ m) (hL : 0 ≤ L) : 1 ≤ (if (if L < m then L else m) > 1 then (if L < m then L else m) else 1) ∧ (if (if L < m then L else m) > 1 then (if L < m then L else m) else 1) ≤ m := by
  split <;> split <;> omega
theorem PoolB.dr {H : Hp} {pa : Addr} {n : Nat} {p : Addr} {o : HO} (h : PoolB H pa n) (hp : H p = none) : PoolB (upd H p o) pa n := h.up (Ex.new hp)
/-! ### sizes of drawn numbers -/
def big (i : Nat) : Int := 1000000 ^ i
theorem big_succ (i : Nat) : big (i + 1) = big i * 1000000 := Int.pow_succ 1000000 i
theorem big_pos (i : Nat) : 0 < big i := Int.pow_pos (by decide)
theorem big_le : ∀ i : Nat, i < 6 → big i ≤ 1000000000000000000000000000000 := by decide +kernel
theorem big_far {v w : Int} {i : Nat} (h0 : 0 ≤ v) (h : v < big i) (w0 : 0 ≤ w) (w1 : w < 1000000) : 0 ≤ v * 1000000 + w ∧ v * 1000000 + w < big (i + 1) := by
  rw [big_succ]
  omega
/-! ### the primes below a thousand, as the laws find them -/
def primesL : List Int := (irng 2 1000).filter fun p => ((irng 2 32).filter fun d => decide (p % d = 0) && decide (d < p)).isEmpty
theorem primesL_len : primesL.length = 168 := by decide +kernel
/-- what is_prime reckons -/
def primeB (n : Int) : Bool := decide (2 ≤ n) && decide (n < 1000) && (irng 2 32).all fun k => decide (n < k * k) || !decide (n % k = 0)
theorem primesL_prime : ∀ p ∈ primesL, primeB p = true := by decide +kernel
theorem primeB_lo {n : Int} (h : primeB n = true) : 2 ≤ n ∧ n < 1000 := by
  unfold primeB at h
  obtain ⟨h, _⟩ := Bool.and_eq_true_iff.mp h
  obtain ⟨h1, h2⟩ := Bool.and_eq_true_iff.mp h
  exact ⟨of_decide_eq_true h1, of_decide_eq_true h2⟩
theorem primesL_lo {p : Int} (h : p ∈ primesL) : 2 ≤ p ∧ p < 1000 := primeB_lo (primesL_prime p h)
theorem primesL_get {i : Nat} (h : i < 168) : ∃ p, (primesL.map V.int)[i]? = some (.int p) ∧ p ∈ primesL := by
  have h2 : i < primesL.length := by rw [primesL_len]; exact h
  refine ⟨primesL[i], ?_, List.getElem_mem h2⟩
  rw [List.getElem?_map, List.getElem?_eq_getElem h2]
  rfl
/-! ### fractions and primes as data -/
def dFrac : PyData → Bool
  | .tuple [.int t, .int b] => decide (1 ≤ b) && decide (Int.gcd t b = 1)
  | _ => false
def dPrime : PyData → Bool
  | .int n => primeB n
  | _ => false
theorem dFrac_pair {d : PyData} (h : dPair d = false) : dFrac d = false := by
  match d, h with
  | .tuple [], _ => simp [dFrac]
  | .tuple [_], _ => simp [dFrac]
  | .tuple [_, _], h => exact nomatch h
  | .tuple (_ :: _ :: _ :: _), _ => simp [dFrac]
  | .none, _ => rfl
  | .bool _, _ => rfl
  | .int _, _ => rfl
  | .str _, _ => rfl
  | .list _, _ => rfl
  | .dict _, _ => rfl
theorem dFrac_get {d : PyData} (h : dFrac d = true) : ∃ t b : Int, d = .tuple [.int t, .int b] ∧ 1 ≤ b ∧ Int.gcd t b = 1 := by
  unfold dFrac at h
  split at h
  · obtain ⟨h1, h2⟩ := Bool.and_eq_true_iff.mp h
    exact ⟨_, _, rfl, of_decide_eq_true h1, of_decide_eq_true h2⟩
  · cases h
theorem dFrac_of {t b : Int} (h1 : 1 ≤ b) (h2 : Int.gcd t b = 1) : dFrac (.tuple [.int t, .int b]) = true := by
  show (decide (1 ≤ b) && decide (Int.gcd t b = 1)) = true
  rw [decide_eq_true h1, decide_eq_true h2]
  rfl
theorem primeB_no {n k : Int} (h1 : 2 ≤ k) (h2 : k * k ≤ n) (h3 : n % k = 0) : primeB n = false := by
  cases e : primeB n with
  | false => rfl
  | true =>
    have hn := primeB_lo e
    have hk : k < 32 := by
      by_cases z : k < 32
      · exact z
      · have : 32 * 32 ≤ k * k := Int.mul_le_mul (by omega) (by omega) (by decide) (by omega)
        omega
    unfold primeB at e
    obtain ⟨_, e⟩ := Bool.and_eq_true_iff.mp e
    have e := List.all_eq_true.mp e k (irng_mem.mpr ⟨h1, hk⟩)
    rw [decide_eq_false (by omega), decide_eq_true h3] at e
    exact nomatch e
theorem primeB_yes {n k : Int} (h0 : 2 ≤ n) (h1 : n < 1000) (hk : 2 ≤ k) (h2 : n < k * k) (h3 : ∀ j : Int, 2 ≤ j → j < k → n % j ≠ 0) : primeB n = true := by
  unfold primeB
  rw [decide_eq_true h0, decide_eq_true h1, Bool.true_and, Bool.true_and]
  refine List.all_eq_true.mpr fun j hj => ?_
  obtain ⟨j0, j1⟩ := irng_mem.mp hj
  by_cases z : j < k
  · rw [decide_eq_false (h3 j j0 z)]
    exact Bool.or_true _
  · have : k * k ≤ j * j := Int.mul_le_mul (by omega) (by omega) (by omega) (by omega)
    rw [decide_eq_true (by omega)]
    rfl
/-! a prime that does not divide has nothing in common -/
theorem primeB_div {p g : Int} (hp : primeB p = true) (hg : g ∣ p) (g0 : 0 < g) : g = 1 ∨ g = p := by
  obtain ⟨lo, hi⟩ := primeB_lo hp
  obtain ⟨c, hc⟩ := hg
  have hg2 : g ≤ p := Int.le_of_dvd (by omega) ⟨c, hc⟩
  have c0 : 0 < c := by
    by_cases z : 0 < c
    · exact z
    · have : g * c ≤ g * 0 := Int.mul_le_mul_of_nonneg_left (by omega) (by omega)
      omega
  by_cases z1 : g = 1
  · exact .inl z1
  · by_cases z2 : c = 1
    · rw [z2] at hc
      exact .inr (by omega)
    · exfalso
      by_cases z : g * g ≤ p
      · have := primeB_no (k := g) (by omega) z (Int.emod_eq_zero_of_dvd ⟨c, hc⟩)
        rw [hp] at this
        cases this
      · have hcg : c ≤ g := by
          by_cases y : c ≤ g
          · exact y
          · have : g * g ≤ g * c := Int.mul_le_mul_of_nonneg_left (by omega) (by omega)
            omega
        have : c * c ≤ g * c := Int.mul_le_mul_of_nonneg_right hcg (by omega)
        have := primeB_no (k := c) (n := p) (by omega) (by omega) (Int.emod_eq_zero_of_dvd ⟨g, by rw [hc, Int.mul_comm]⟩)
        rw [hp] at this
        cases this
theorem primeB_gcd {p b : Int} (hp : primeB p = true) (h : b % p ≠ 0) : Int.gcd b p = 1 := by
  have lo := primeB_lo hp
  have h0 : Int.gcd b p ≠ 0 := fun e => by
    have := Int.gcd_dvd_right b p
    rw [e] at this
    have := Int.zero_dvd.mp this
    omega
  rcases primeB_div hp (Int.gcd_dvd_right b p) (by omega) with e | e
  · omega
  · have hd := Int.gcd_dvd_left b p
    rw [e] at hd
    exact absurd (Int.emod_eq_zero_of_dvd hd) h
theorem dvd_left_of {p a b : Int} (d : p ∣ a * b) (h : Int.gcd p b = 1) : p ∣ a := by
  rw [← Int.natAbs_dvd_natAbs] at d ⊢
  rw [Int.natAbs_mul] at d
  rw [Int.gcd_eq_natAbs_gcd_natAbs] at h
  exact Nat.Coprime.dvd_of_dvd_mul_right h d
/-! ### Euclid's rows -/
structure EInv (m n ab l fa f t ta s : Int) : Prop where
  hl : l = f * n + t * m
  ha : ab = fa * n + ta * m
  hs : f * ta - fa * t = s
  sg : s = 1 ∨ s = -1
  l0 : 0 ≤ l
  la : l < ab
  am : ab ≤ m
  f1 : 1 ≤ s * f
  fa0 : s * fa ≤ 0
theorem EInv.tot {m n ab l fa f t ta s : Int} (h : EInv m n ab l fa f t ta s) : s * f * ab + (-(s * fa)) * l = m := by
  obtain ⟨hl, ha, hs, sg, _⟩ := h
  have e1 : f * ab - fa * l = m * s := by
    rw [ha, hl]
    grind
  rcases sg with rfl | rfl
  · grind
  · grind
theorem EInv.step {m n ab l fa f t ta s : Int} (h : EInv m n ab l fa f t ta s) (hl : 0 < l) : EInv m n l (ab - ab / l * l) f (fa - ab / l * f) (ta - ab / l * t) t (-s) := by
  obtain ⟨h1, h2, h3, sg, l0, la, am, f1, fa0⟩ := h
  have e := Int.emod_add_ediv_mul ab l
  have m0 := Int.emod_nonneg ab (show l ≠ 0 by omega)
  have m1 := Int.emod_lt_of_pos ab hl
  have q1 : 1 ≤ ab / l := by
    have := Int.ediv_le_ediv hl (show l ≤ ab by omega)
    rw [Int.ediv_self (by omega)] at this
    exact this
  refine ⟨?_, h1, ?_, ?_, by omega, by omega, by omega, ?_, ?_⟩
  · generalize ab / l = q at *
    grind
  · generalize ab / l = q at *
    grind
  · rcases sg with rfl | rfl
    · exact .inr rfl
    · exact .inl rfl
  · have : 1 * 1 ≤ ab / l * (s * f) := Int.mul_le_mul q1 f1 (by decide) (by omega)
    generalize ab / l = q at *
    have e2 : -s * (fa - q * f) = -(s * fa) + q * (s * f) := by grind
    rw [e2]
    omega
  · rw [Int.neg_mul]
    omega
theorem EInv.size {m n ab l fa f t ta s : Int} (h : EInv m n ab l fa f t ta s) : f.natAbs ≤ m.natAbs ∧ (0 < l → fa.natAbs ≤ m.natAbs) := by
  have tot := h.tot
  obtain ⟨_, _, _, sg, l0, la, am, f1, fa0⟩ := h
  have a1 : s * f * 1 ≤ s * f * ab := Int.mul_le_mul_of_nonneg_left (by omega) (by omega)
  have a2 : 0 ≤ -(s * fa) * l := Int.mul_nonneg (by omega) l0
  refine ⟨?_, fun hl => ?_⟩
  · rcases sg with rfl | rfl <;> omega
  · have a3 : -(s * fa) * 1 ≤ -(s * fa) * l := Int.mul_le_mul_of_nonneg_left (by omega) (by omega)
    rcases sg with rfl | rfl <;> omega
def Row (m n k l f : Int) : Prop := ∃ ab fa t ta s : Int, EInv m n ab l fa f t ta s ∧ l ≤ k ∧ (k < ab ∨ (f = 1 ∧ fa = 0 ∧ ab = m))
theorem row_inv {p a l f : Int} (h : Row p (a % p) 1 l f) (hp : 1 < p) (hg : Int.gcd a p = 1) : l = 1 ∧ f % p * a % p = 1 := by
  obtain ⟨ab, fa, t, ta, s, I, hk, hx⟩ := h
  have tot := I.tot
  have hl0 := I.l0
  have hg2 : Int.gcd p (a % p) = 1 := by rw [gcd_step, hg]
  have l1 : l = 1 := by
    by_cases z : l = 1
    · exact z
    · exfalso
      have z : l = 0 := by omega
      subst z
      have e := I.hl
      have d : p ∣ f * (a % p) := ⟨-t, by rw [Int.mul_neg, Int.mul_comm p t]; omega⟩
      have df : p ∣ f := dvd_left_of d hg2
      obtain ⟨c, hc⟩ := df
      have f1 := I.f1
      have sfp : p ≤ s * f := by
        refine Int.le_of_dvd (by omega) ⟨s * c, ?_⟩
        rw [hc]
        grind
      rw [Int.mul_zero, Int.add_zero] at tot
      rcases hx with h | ⟨rfl, _, _⟩
      · have : s * f * 2 ≤ s * f * ab := Int.mul_le_mul_of_nonneg_left (by omega) (by omega)
        omega
      · rcases I.sg with rfl | rfl <;> omega
  refine ⟨l1, ?_⟩
  have e := I.hl
  rw [l1] at e
  have h1 : f % p * a % p = f * (a % p) % p := by
    rw [Int.mul_emod, Int.emod_emod_of_dvd f (Int.dvd_refl p), ← Int.mul_emod, Int.mul_emod f (a % p), Int.emod_emod_of_dvd a (Int.dvd_refl p), ← Int.mul_emod]
  rw [h1, show f * (a % p) = 1 + p * (-t) by rw [Int.mul_neg, Int.mul_comm p t]; omega, Int.add_mul_emod_self_left]
  exact Int.emod_eq_of_lt (by decide) hp
/-! ### the rest of a fraction by a prime -/
def restI (t b p : Int) : Int := ((irng 0 p).find? fun r => decide ((r * b - t) % p = 0)).getD 0
def restD (t b p : Int) : PyData := if b % p = 0 then .none else .int (restI t b p)
theorem restI_eq {t b p r : Int} (hg : Int.gcd b p = 1) (r0 : 0 ≤ r) (r1 : r < p) (h : (r * b - t) % p = 0) : restI t b p = r := by
  unfold restI
  cases e : (irng 0 p).find? fun r => decide ((r * b - t) % p = 0) with
  | none =>
    have := List.find?_eq_none.mp e r (irng_mem.mpr ⟨r0, r1⟩)
    rw [decide_eq_true h] at this
    exact absurd rfl this
  | some x =>
    have h1 := List.find?_some e
    have h1 : (x * b - t) % p = 0 := of_decide_eq_true h1
    obtain ⟨x0, x1⟩ := irng_mem.mp (List.mem_of_find?_eq_some e)
    have d : p ∣ (x - r) * b := by
      have d1 := Int.dvd_sub (Int.dvd_of_emod_eq_zero h1) (Int.dvd_of_emod_eq_zero h)
      have : x * b - t - (r * b - t) = (x - r) * b := by grind
      rw [this] at d1
      exact d1
    have d2 : p ∣ x - r := dvd_left_of d (by rw [Int.gcd_comm]; exact hg)
    obtain ⟨c, hc⟩ := d2
    show x = r
    rcases Int.lt_trichotomy c 0 with z | z | z
    · have : p * c ≤ p * (-1) := Int.mul_le_mul_of_nonneg_left (by omega) (by omega)
      omega
    · rw [z] at hc
      omega
    · have : p * 1 ≤ p * c := Int.mul_le_mul_of_nonneg_left (by omega) (by omega)
      omega
theorem rest_ok {t b p i : Int} (hp : primeB p = true) (hb : b % p ≠ 0) (hi : i * b % p = 1) : restD t b p = .int (t * i % p) ∧ 0 ≤ t * i % p ∧ t * i % p < p ∧ (t * i % p * b - t) % p = 0 := by
  have lo := primeB_lo hp
  have r0 := Int.emod_nonneg (t * i) (show p ≠ 0 by omega)
  have r1 := Int.emod_lt_of_pos (t * i) (show 0 < p by omega)
  have h : (t * i % p * b - t) % p = 0 := by
    have e1 := Int.emod_add_mul_ediv (t * i) p
    have e2 := Int.emod_add_mul_ediv (i * b) p
    rw [hi] at e2
    generalize t * i / p = x at e1
    generalize i * b / p = y at e2
    generalize t * i % p = r at e1
    refine Int.emod_eq_zero_of_dvd ⟨t * y - x * b, ?_⟩
    grind
  refine ⟨?_, r0, r1, h⟩
  unfold restD
  rw [if_neg hb, restI_eq (primeB_gcd hp hb) r0 r1 h]
def dI0 : PyData → Int
  | .int i => i
  | _ => 0
theorem flt_ints (f : Int → Bool) (F : PyData → Bool) (h : ∀ n, F (.int n) = f n) (g : PyData → PyData) (hg : ∀ n, g (.int n) = .int n) : ∀ ns : List Int, ((ns.map PyData.int).filter F).map g = (ns.filter f).map PyData.int
  | [] => rfl
  | n :: ns => by
    rw [List.map_cons, List.filter_cons, List.filter_cons, h]
    cases f n with
    | true => simp only [if_true, List.map_cons]; rw [flt_ints f F h g hg ns, hg]
    | false => simp only [Bool.false_eq_true, if_false]; exact flt_ints f F h g hg ns
/-! ### what is sure to be there: a number that times another leaves 1 -/
theorem bez : ∀ (n : Nat) (a b : Int), 0 ≤ b → b.toNat ≤ n → ∃ x y : Int, a * x + b * y = (Int.gcd a b : Int)
  | 0, a, b, h0, h1 => by
    have e : b = 0 := by omega
    subst e
    rw [Int.gcd_zero_right]
    rcases Int.natAbs_eq a with z | z
    · exact ⟨1, 0, by omega⟩
    · exact ⟨-1, 0, by omega⟩
  | n + 1, a, b, h0, h1 => by
    by_cases z : b = 0
    · exact bez 0 a b h0 (by omega)
    · have m0 := Int.emod_nonneg a z
      have m1 := Int.emod_lt_of_pos a (show 0 < b by omega)
      obtain ⟨x, y, e⟩ := bez n b (a % b) m0 (by omega)
      rw [gcd_step] at e
      refine ⟨y, x - a / b * y, ?_⟩
      rw [← e]
      have := Int.emod_add_mul_ediv a b
      generalize a % b = r at *
      generalize a / b = q at *
      grind
theorem inv_ex {b p : Int} (hp : 1 < p) (hg : Int.gcd b p = 1) : ∃ i : Int, i * b % p = 1 := by
  obtain ⟨x, y, e⟩ := bez p.toNat b p (by omega) (Nat.le_refl _)
  rw [hg] at e
  refine ⟨x, ?_⟩
  rw [show x * b = 1 + p * (-y) by grind, Int.add_mul_emod_self_left]
  exact Int.emod_eq_of_lt (by decide) hp
theorem restD_ok {t b p : Int} (hp : primeB p = true) (hb : b % p ≠ 0) : ∃ r : Int, restD t b p = .int r ∧ 0 ≤ r ∧ r < p ∧ (r * b - t) % p = 0 := by
  have lo := primeB_lo hp
  obtain ⟨i, hi⟩ := inv_ex (by omega) (primeB_gcd hp hb)
  obtain ⟨h1, h2, h3, h4⟩ := rest_ok (t := t) hp hb hi
  exact ⟨_, h1, h2, h3, h4⟩
theorem restD_none {t b p : Int} (hb : b % p = 0) : restD t b p = .none := by
  unfold restD
  rw [if_pos hb]
/-! ### lists of drawn primes -/
def PrL (H : Hp) (a : Addr) (m : Nat) : Prop := ∃ qs : List Int, H a = some (.lst (qs.map V.int)) ∧ qs.length ≤ m ∧ ∀ x ∈ qs, x ∈ primesL
theorem PrL.up {H H' : Hp} {a : Addr} {m : Nat} (h : PrL H a m) (e : Ex H H') : PrL H' a m := by
  obtain ⟨qs, h1, h2, h3⟩ := h
  exact ⟨qs, e _ _ h1, h2, h3⟩
theorem PrL.dr {H H' : Hp} {a B : Addr} {m : Nat} (h : PrL H a m) (n : a ≠ B) (e : ExB B H H') : PrL H' a m := by
  obtain ⟨qs, h1, h2, h3⟩ := h
  exact ⟨qs, e _ _ n h1, h2, h3⟩
theorem PrL.less {H : Hp} {a : Addr} {m k : Nat} (h : PrL H a m) (l : m ≤ k) : PrL H a k := by
  obtain ⟨qs, h1, h2, h3⟩ := h
  exact ⟨qs, h1, by omega, h3⟩
theorem PoolB.ne {H : Hp} {pa p : Addr} {n : Nat} (h : PoolB H pa n) (hp : H p = none) : p ≠ pa := fun z => by
  obtain ⟨xs, hx⟩ := h.isL
  rw [z, hx] at hp
  cases hp
theorem cut_map (qs : List Int) (lo hi : Option Int) : ∃ rs : List Int, cutV (qs.map V.int) lo hi = rs.map V.int ∧ rs.length ≤ qs.length ∧ ∀ x ∈ rs, x ∈ qs := by
  unfold cutV
  rw [← List.map_drop, ← List.map_take]
  refine ⟨_, rfl, ?_, fun x hx => List.mem_of_mem_drop (List.mem_of_mem_take hx)⟩
  rw [List.length_take, List.length_drop]
  omega
theorem atI_of {α : Type} {xs : List α} {x : Int} {v : α} (h0 : 0 ≤ x) (h : xs[x.toNat]? = some v) : atI xs x = some v := by
  have e : x = ((x.toNat : Nat) : Int) := by omega
  rw [e]
  exact atI_nat (j := x.toNat) h
/-! ### one piece of a reading at its head -/
theorem gName_app {i : Nat} {v : V} {σ : L2.St} {H : Hp} {Q : L2.St → Hp → Prop} : gName i v σ H Q = Q (σ.set i (some v)) H := rfl
theorem go_asg {te : TE} {i : Nat} {tz : TS} {D : Ends} {σ : L2.St} {H : Hp} (h : te σ H fun x H1 => tz D (σ.set i (some x)) H1) : tSeq (tAsg te (gName i)) tz D σ H := h
theorem go_asgL {te : TE} {i : Nat} {D : Ends} {σ : L2.St} {H : Hp} (h : te σ H fun x H1 => D.nx (σ.set i (some x)) H1) : tAsg te (gName i) D σ H := h
theorem go_cons {te : TE} {tr : TA} {σ : L2.St} {H : Hp} {Q : List V → Hp → Prop} (h : te σ H fun x H1 => tr σ H1 fun xs H2 => Q (x :: xs) H2) : tCons te tr σ H Q := h
theorem go_cb {te : TE} {r : List V → Hp → VK → Prop} {σ : L2.St} {H : Hp} {Q : VK} (h : te σ H fun x H1 => r [x] H1 Q) : tCB r (tCons te tNil) σ H Q := h
/-- a drawn fraction -/
def FracOk (t b : Int) : Prop := 1 ≤ b ∧ b < 1000000000000000000000000000000 ∧ t < 1000000000000000000000000000000 ∧ -1000000000000000000000000000000 < t ∧ Int.gcd t b = 1
/-! ### whole numbers below a limit, primes from 3 to 97, degrees -/
def dBelow (m : Int) : PyData → Bool
  | .int r => decide (0 ≤ r) && decide (r < m)
  | _ => false
theorem dBelow_of {m r : Int} (h0 : 0 ≤ r) (h1 : r < m) : dBelow m (.int r) = true := by
  show (decide (0 ≤ r) && decide (r < m)) = true
  rw [decide_eq_true h0, decide_eq_true h1]
  rfl
theorem dBelow_get {m : Int} {d : PyData} (h : dBelow m d = true) : ∃ r : Int, d = .int r ∧ 0 ≤ r ∧ r < m := by
  cases d with
  | int r =>
    obtain ⟨h1, h2⟩ := Bool.and_eq_true_iff.mp (show (decide (0 ≤ r) && decide (r < m)) = true from h)
    exact ⟨r, rfl, of_decide_eq_true h1, of_decide_eq_true h2⟩
  | _ => exact nomatch h
def dField : PyData → Bool
  | .int n => primeB n && decide (3 ≤ n) && decide (n ≤ 97)
  | _ => false
theorem dField_get {d : PyData} (h : dField d = true) : ∃ n : Int, d = .int n ∧ primeB n = true ∧ 3 ≤ n ∧ n ≤ 97 := by
  cases d with
  | int n =>
    obtain ⟨h1, h3⟩ := Bool.and_eq_true_iff.mp (show (primeB n && decide (3 ≤ n) && decide (n ≤ 97)) = true from h)
    obtain ⟨h1, h2⟩ := Bool.and_eq_true_iff.mp h1
    exact ⟨n, rfl, h1, of_decide_eq_true h2, of_decide_eq_true h3⟩
  | _ => exact nomatch h
def dDegs : PyData → Bool
  | .tuple [a, b] => dBelow 5 a && dBelow 5 b
  | _ => false
theorem dDegs_pair {d : PyData} (h : dPair d = false) : dDegs d = false := by
  match d, h with
  | .tuple [], _ => simp [dDegs]
  | .tuple [_], _ => simp [dDegs]
  | .tuple [_, _], h => exact nomatch h
  | .tuple (_ :: _ :: _ :: _), _ => simp [dDegs]
  | .none, _ => rfl
  | .bool _, _ => rfl
  | .int _, _ => rfl
  | .str _, _ => rfl
  | .list _, _ => rfl
  | .dict _, _ => rfl
/-- the primes from 3 to 97, as the laws write them -/
def fieldL : List Int := [3, 5, 7, 11, 13, 17, 19, 23, 29, 31, 37, 41, 43, 47, 53, 59, 61, 67, 71, 73, 79, 83, 89, 97]
theorem fieldL_ok : ∀ p ∈ fieldL, dField (.int p) = true := by decide +kernel
theorem fieldL_len : fieldL.length = 24 := rfl
theorem fieldL_get {x : Int} (h0 : 0 ≤ x) (h : x < 24) : ∃ p, atI (fieldL.map V.int) x = some (.int p) ∧ p ∈ fieldL := by
  have h2 : x.toNat < fieldL.length := by rw [fieldL_len]; omega
  refine ⟨fieldL[x.toNat], ?_, List.getElem_mem h2⟩
  refine atI_of h0 ?_
  rw [List.getElem?_map, List.getElem?_eq_getElem h2]
  rfl
/-! ### repr of data: what stands in the model's heap -/
section
variable {X : Cx} {pins : List (Addr × Obj)} {σ : L2.St} {H : Hp} {s : Shared}
theorem kv_reads {h : Heap} : ∀ (ns : List (Int × Option Int)) (es : List DictEntry) (ws : List (Key × Value)), KV (ns.map fun p => ((Sum.inl p.1 : Key), oV p.2)) ws → Pairs (mixKind X.prog X.w) es ws →
    ReadsAll h (es.map (·.key)) (ns.map fun p => PyData.int p.1) [] ∧ ReadsAll h (es.map (·.val)) (ns.map fun p => oD p.2) []
  | [], _, _, .nil, .nil => ⟨.nil, .nil⟩
  | _ :: _, [], _, hk, hp => by
    cases hp
    exact nomatch hk
  | (a, b) :: ns, e :: es, kv :: ws, .cons r rs, .cons hk hv ps => by
    obtain ⟨i1, i2⟩ := kv_reads (h := h) ns es ws rs ps
    obtain ⟨r1, r2⟩ := r
    have k1 : keyIs kv.1 e.key = true := hk
    rw [← r1] at k1
    rcases keyIs_shape k1 with ⟨i, t2, e1, e2⟩ | ⟨x, t2, e1, _⟩
    · have e1 : a = i := Sum.inl.inj e1
      subst e1
      refine ⟨?_, ?_⟩
      · show ReadsAll h (e.key :: es.map (·.key)) (PyData.int a :: ns.map fun p => PyData.int p.1) ([] ++ [])
        rw [e2]
        exact .cons (.int a t2) i1
      · show ReadsAll h (e.val :: es.map (·.val)) (oD b :: ns.map fun p => oD p.2) ([] ++ [])
        rw [hv]
        cases b with
        | none =>
          rw [show kv.2 = Value.none from r2]
          exact .cons .none i2
        | some b =>
          obtain ⟨t, r2⟩ := r2
          rw [r2]
          exact .cons (.int b t) i2
    · exact nomatch e1
mutual
theorem Dt.reads (I : Inv X pins σ H s) : ∀ (d : PyData) (v : V) (u : Value), Dt H v d → RelV v u → ∃ as, Reads s.heap u d as ∧ (noL d = true → sysModules ∉ as)
  | .none, _, _, h, r => by
    cases h
    cases r
    exact ⟨_, .none, fun _ z => nomatch z⟩
  | .bool b, _, _, h, r => by
    cases h
    cases r
    exact ⟨_, .bool b, fun _ z => nomatch z⟩
  | .int i, _, _, h, r => by
    cases h
    obtain ⟨t, rfl⟩ := r
    exact ⟨_, .int i t, fun _ z => nomatch z⟩
  | .str x, _, _, h, r => by
    cases h
    obtain ⟨t, rfl⟩ := r
    exact ⟨_, .str x t, fun _ z => nomatch z⟩
  | .list ds, _, _, h, r => by
    cases h with
    | lst hs ha =>
      cases r
      obtain ⟨its, rv, ⟨o, n, ho, hc, _, hd⟩, _⟩ := I.list (sq_of hs)
      obtain ⟨as, hr, _⟩ := DtAll.reads I ds _ its ha rv
      exact ⟨_, .list ho hc hd hr, fun z => nomatch z⟩
  | .tuple ds, _, _, h, r => by
    cases h with
    | tup hs ha =>
      cases r
      obtain ⟨its, rv, ⟨o, ho, hc, n, hd⟩, _⟩ := I.tuple (st_of hs)
      obtain ⟨as, hr, hn⟩ := DtAll.reads I ds _ its ha rv
      exact ⟨_, .tuple ho hc hd hr, hn⟩
  | .dict _, _, _, h, r => by
    cases h with
    | @dic a ns hs =>
      cases r
      obtain ⟨_, hsm, ws, kv, o, es, ep, h1, h2, h3, _, h5, _⟩ := (show ObjOk X.prog X.w H s.heap a (.dK (ns.map fun p => ((Sum.inl p.1 : Key), oV p.2))) from I.hok a _ hs)
      obtain ⟨q1, q2⟩ := kv_reads (X := X) (h := s.heap) _ _ _ kv h5
      refine ⟨_, .dict (kvs := ns.map fun p => (PyData.int p.1, oD p.2)) h1 h2.1 h3 (by rw [List.map_map]; exact q1) (by rw [List.map_map]; exact q2), fun _ z => ?_⟩
      have z : sysModules ∈ [a] := z
      have z := List.mem_singleton.mp z
      rw [← z] at hsm
      exact absurd hsm (by simp)
theorem DtAll.reads (I : Inv X pins σ H s) : ∀ (ds : List PyData) (vs : List V) (us : List Value), DtAll H vs ds → Vals vs us → ∃ as, ReadsAll s.heap us ds as ∧ (noLs ds = true → sysModules ∉ as)
  | [], _, _, h, r => by
    cases h
    cases r
    exact ⟨_, .nil, fun _ z => nomatch z⟩
  | d :: ds, _, _, h, r => by
    cases h with
    | cons h1 h2 =>
      cases r with
      | cons r1 r2 =>
        obtain ⟨as, q1, n1⟩ := Dt.reads I d _ _ h1 r1
        obtain ⟨bs, q2, n2⟩ := DtAll.reads I ds _ _ h2 r2
        refine ⟨_, .cons q1 q2, fun z m => ?_⟩
        obtain ⟨z1, z2⟩ := Bool.and_eq_true_iff.mp (show (noL d && noLs ds) = true from z)
        rcases List.mem_append.mp m with m | m
        · exact n1 z1 m
        · exact n2 z2 m
end
/-- what may be shown: sizes, and no list beside a dict -/
structure Shows (d : PyData) : Prop where
  sh : d.showable = true
  dp : d.depth ≤ 60
  ln : d.shown.length ≤ sizeLine
  dl : d.hasDict = true → noL d = true
def rRepr : List V → Hp → VK → Prop := fun xs H Q => ∃ v d, xs = [v] ∧ Dt H v d ∧ Shows d ∧ Q (.str d.shown) H
theorem call_reprD (hG : X.A.guards = some []) (hu : X.A.units + 64 < cLine) : CallR X (.builtin "repr") rRepr := by
  intro pins s σ H xs us Q I r h
  obtain ⟨v, d, rfl, hd, hs, q⟩ := h
  obtain ⟨u, rfl, rv⟩ := vals1 r
  have fin : ∀ (a : Addr), v = .ref a → wpAny (model X.prog X.w) X.A (call (.builtin "repr") [u]) (EP X pins σ Q) X.xe s := fun a e => by
    subst e
    have e2 : u = Value.ref a := rv
    subst e2
    obtain ⟨as, hr, hn⟩ := Dt.reads I d _ _ hd rv
    have := hs.dp
    refine repr_of_reads' hr hs.sh (fun z => hn (hs.dl z)) hG (by omega) (fun _ _ z => z) (fun h' t tk hk => ?_) hs.ln
    exact ⟨.str d.shown, H, I.kept (t' := tk) hk, ⟨t, rfl⟩, q⟩
  cases hd with
  | non =>
    cases (show u = Value.none from rv)
    exact PySem.P.repr_of_none ⟨.str _, H, I.tok _, ⟨_, rfl⟩, q⟩
  | bl b =>
    cases (show u = Value.bool b from rv)
    exact PySem.P.repr_of_bool ⟨.str _, H, I.tok _, ⟨_, rfl⟩, q⟩
  | int i =>
    obtain ⟨t, rfl⟩ := (show ∃ t, u = Value.int i t from rv)
    exact PySem.P.repr_of_int (of_decide_eq_true hs.sh) ⟨.str _, H, I.tok _, ⟨_, rfl⟩, q⟩
  | str x =>
    obtain ⟨t, rfl⟩ := (show ∃ t, u = Value.str x t from rv)
    exact PySem.P.repr_of_str ⟨.str _, H, I.tok _, ⟨_, rfl⟩, q⟩ hs.ln
  | lst a b => exact fin _ rfl
  | tup a b => exact fin _ rfl
  | dic a => exact fin _ rfl
end
/-! ### defs that are called where no repr is under way -/
structure FnG (P : Program) (w : World) (K : PySem.W.Frag) (mg : Str → Option Value) (base : Heap) (CX : CXT) (k : Nat) (f : Addr) (fd : FuncData) (ps : List Str) (sp : Sp) : Prop where
  len : ∀ vs H Q E, sp vs H Q E → vs.length = ps.length
  go : ∀ (A : Around) (out : List Env) (s : Shared) (H : Hp) (ar : Args) (us : List Value) (vs : List V) (Q : VK) (E : XK), A.guards = some [] → Room k A → Env0 P w K mg base A out s H →
    BindsTo s fd ar (ps.zip us) → Vals vs us → sp vs H Q E → codeAny (model P w) A (.call (.ref f) ar) (CR CX out P w H s Q E) s
section
variable {P : Program} {w : World} {K : PySem.W.Frag} {mg : Str → Option Value} {base : Heap} {x qual : Str} {params : Arguments} {body : List Stmt} {scope : Scope} {dvs : List V} {kws : List (Str × V)} {f : Addr} {fd : FuncData}
theorem okG {CX : CXT} {N ps : List Str} {k : Nat} {sp : Sp} (F : FunD K x qual params body scope dvs kws f fd) (S : FnScope N ps scope) (len : ∀ vs H Q E, sp vs H Q E → vs.length = ps.length)
    (hbody : ∀ (cdv : Value) (A : Around) (outer : List Env) (s : Shared) (H : Hp) (vs : List V) (Q : VK) (E : XK), A.guards = some [] → Room k (A.deeper (envOfC qual scope s.heap.objs.size f cdv)) → sp vs H Q E →
      ∃ t, PSs (cxOf CX P w K mg base N qual scope f cdv A outer s H E) body t ∧ t { nx := fun _ H' => Q .non H', rt := Q } (start N vs) H) : FnG P w K mg base CX (k + 1) f fd ps sp := by
  obtain ⟨oc, od, dV, kV, doc, pm, an, cdv, ct, osl, rfl, lk, hcd, _, _⟩ := F.ex
  refine ⟨len, fun A out s H ar us vs Q E hG hr e0 hb rv hs => ?_⟩
  have keep : ∀ b o, base.get? b = some o → s.heap.get? b = some o := fun b o e => (e0.bs b o e).1
  have KX := e0.mod.kin.keeps keep
  have kinds : ∀ y ∈ ps.zip us, scope.names.lookup y.1 = some .local ∨ (scope.names.lookup y.1 = some .cell ∧ ((cellsFrom (s.heap.objs.size + 1) scope.names []).lookup y.1).isSome = true) := by
    rintro ⟨n, v⟩ hy
    rcases S.par n (List.of_mem_zip hy).1 with c | c
    · exact .inl c
    · exact .inr ⟨c, PySem.W.cellsFrom_some _ _ _ (.inl c)⟩
  refine codeAny_call_function hr.depth (KX _ _ lk) rfl S.co S.gen rfl (PySem.W.codeRec_of KX hcd) (hb _ _ _ _ (wpAny_newFunctionEnv_cells S.kind kinds fun env he s1 x1 => ?_))
  subst he
  obtain ⟨t, ht, hq⟩ := hbody cdv A out s H vs Q E hG (hr.deeper _) hs
  refine ⟨(e0.mod.nolimit.keeps keep).keeps x1.toInCall.keep, codeAny_func ?_⟩
  refine wpAny_mono (ht.run [] s1 (start N vs) H _ (inv_start S hr.hd e0 (len _ _ _ _ hs) rv x1) hq) (fun fl s2 h2 => ?_) fun _ _ z => z
  cases fl with
  | ret u =>
    obtain ⟨v, σ2, H2, J, r2, q2⟩ := h2
    exact ⟨v, H2, J.os, J.bare, J.base, J.hok, r2, q2⟩
  | next =>
    obtain ⟨σ2, H2, J, q2⟩ := h2
    exact ⟨.non, H2, J.os, J.bare, J.base, J.hok, rfl, q2⟩
  | brk =>
    obtain ⟨_, _, _, z⟩ := h2
    exact z.elim
  | cont =>
    obtain ⟨_, _, _, z⟩ := h2
    exact z.elim
end
section
variable {X : Cx} {CX : CXT} {k : Nat} {f : Addr} {fd : FuncData} {ps : List Str} {sp : Sp} {dvs : List V} {ds : List Value} {E : XK} {x : Str} {p pos : Pos} {e : Expr} {es : List Expr} {t : TA}
theorem goG {pins : List (Addr × Obj)} {σ : L2.St} {H : Hp} {s : Shared} {Q : VK} {us : List Value} {vs : List V} (F : FnG X.prog X.w X.K X.mg X.base CX k f fd ps sp) (hG : X.A.guards = some []) (hr : Room k X.A) (hb : Binds X.K fd ps ds) (hd : Vals dvs ds) (hx : Passes CX X E)
    (I : Inv X pins σ H s) (r : Vals vs us) (h : sp (vs ++ dvs) H Q E) : wpAny (model X.prog X.w) X.A (call (.ref f) us) (EP X pins σ Q) X.xe s := by
  have rr : Vals (vs ++ dvs) (us ++ ds) := r.append hd
  have ll : (us ++ ds).length = ps.length := rr.length.symm.trans (F.len _ _ _ _ h)
  refine wpAny_call (codeAny_mono (F.go X.A X.stack s H ⟨us, []⟩ (us ++ ds) (vs ++ dvs) Q E hG hr I.env0 (hb s us I.kIn ll) rr h) fun res s2 h2 => ?_)
  match res, h2 with
  | .error er, h2 => exact hx pins σ H s er s2 I h2
  | .ok (.ret u), h2 => exact I.after h2
  | .ok .next, h2 => exact h2.elim
  | .ok .brk, h2 => exact h2.elim
  | .ok .cont, h2 => exact h2.elim
theorem pe_callG (F : FnG X.prog X.w X.K X.mg X.base CX k f fd ps sp) (hG : X.A.guards = some []) (hr : Room k X.A) (hg : Gl X x) (hm : X.mg x = some (.ref f)) (hk : PySem.W.keepIn X.K (.ref f) = true) (hb : Binds X.K fd ps ds) (hd : Vals dvs ds) (hx : Passes CX X E) (ha : PA X (e :: es) t)
    (hdb : (x == ("__debug__" : Str)) = false := by decide) (he : starEach (e :: es) X.env = (false, eval e X.env) :: starEach es X.env := by rfl) (hpl : (backTo pos (starEach es X.env)).any (·.1) = false := by rfl) :
    PE X (.Call (.Name x p) (e :: es) [] pos) (tCall sp dvs E t) := ⟨fun pins s σ H Q I h =>
  wpAny_Call_Name_kw (ld_glob I hg hm (PySem.W.callWith_K (h₀ := X.base) I.ok.mod.kin hk (thn (ha.run pos pins s σ H _ I h) fun _ _ ⟨_, _, I1, r, q⟩ => ⟨I1.kIn, goG F hG hr hb hd hx I1 r q⟩) he hpl) hdb)⟩
theorem pe_callG0 (F : FnG X.prog X.w X.K X.mg X.base CX k f fd ps sp) (hG : X.A.guards = some []) (hr : Room k X.A) (hg : Gl X x) (hm : X.mg x = some (.ref f)) (hk : PySem.W.keepIn X.K (.ref f) = true) (hb : Binds X.K fd ps ds) (hd : Vals dvs ds) (hx : Passes CX X E)
    (hdb : (x == ("__debug__" : Str)) = false := by decide) : PE X (.Call (.Name x p) [] [] pos) (tCall sp dvs E tNil) := ⟨fun pins s σ H Q I h =>
  wpAny_Call_Name_kw (ld_glob I hg hm (PySem.W.callWith_K0 I.kIn hk (goG (us := []) F hG hr hb hd hx I .nil h)) hdb)⟩
end
/-! ### the law's own call -/
theorem law_go {P : Program} {w : World} {K : PySem.W.Frag} {mg mb : Str → Option Value} {k : Nat} {fa a : Addr} {fd : FuncData} {x : Str} {sp : Sp} {s1 : Shared} {vs : List Value} {ns : List Int} (KX : K.In s1.heap) (hns : s1.heap.Ns mainGlobals mg)
    (hb : s1.heap.Ns builtinsNs mb) (hbb : ∀ x : Str, x ≠ "__name__" → mb x = bootBuiltins x) (hlim : s1.heap.NoLimit) (hg : s1.gens = #[]) (ha : s1.heap.get? a = some { cls := .type "list", data := .seq vs.toArray }) (hi : IntsAre vs ns) (hl : ns.length ≤ sizeLine) (hr : Room k callerA)
    (F : ∀ base : Heap, K.In base → base.Ns mainGlobals mg → FnG P w K mg base CX0 k fa fd [x] sp) (hbind : ∀ (s : Shared) (u : Value), BindsTo s fd ⟨[u], []⟩ [(x, u)])
    (hsp : ∀ H : Hp, Only H → SqL K H a (ns.map V.int) → sp [.ref a] H (fun v _ => v = .bl true) fun _ _ _ => False) :
    codeAny (model P w) callerA (.call (.ref fa) ⟨[.ref a], []⟩) (fun r s2 => r = .ok (.ret (.bool true)) ∧ OldK s1.heap s2.heap ∧ s2.os = s1.os ∧ AllBare s2.gens) s1 := by
  have rv := vals_ints hi
  have lenV := hi.length
  have main : ∀ H : Hp, Only H → SqL K H a (ns.map V.int) → HOk P w H s1.heap → (∀ b, H b ≠ none → b = a) → (H a ≠ none → K.lookup a = none) →
      codeAny (model P w) callerA (.call (.ref fa) ⟨[.ref a], []⟩) (fun r s2 => r = .ok (.ret (.bool true)) ∧ OldK s1.heap s2.heap ∧ s2.os = s1.os ∧ AllBare s2.gens) s1 := by
    intro H hO hS hok only hK
    have free : ∀ {b : Addr}, b ≠ a → H b = none := fun {b} z => by
      cases q : H b with
      | none => rfl
      | some u => exact absurd (only b (by rw [q]; exact Option.some_ne_none u)) z
    have dictFree : ∀ {b : Addr} {o : Obj} {es : Array DictEntry} {ep : Nat}, s1.heap.get? b = some o → o.data = .dict es ep → H b = none := fun {b o es ep} e d => free fun z => by
      rw [z, ha] at e
      cases e
      exact Data.noConfusion d
    have nsH : ∀ {b : Addr} {m : Str → Option Value}, s1.heap.Ns b m → (hidT s1.heap H).Ns b m := fun {b m} ⟨o, es, ep, e, d, r⟩ => ⟨o, es, ep, hidT_get e (dictFree e d), d, r⟩
    have KH : K.In (hidT s1.heap H) := fun b o e => hidT_get (KX b o e) (by
      cases q : H b with
      | none => rfl
      | some u =>
        have z : b = a := only b (by rw [q]; exact Option.some_ne_none u)
        rw [z] at q e
        rw [hK (by rw [q]; exact Option.some_ne_none u)] at e
        cases e)
    have lim : (hidT s1.heap H).NoLimit := by
      obtain ⟨mc, l1, l2⟩ := hlim
      exact ⟨mc, nsH l1, l2⟩
    have e0 : Env0 P w K mg (hidT s1.heap H) callerA [] s1 H := ⟨rfl, ⟨KH, nsH hns, ⟨mb, nsH hb, hbb⟩, lim⟩, fun b o e => of_hidT e, Nat.le_of_eq (hidT_size _ _), trivial, (fun b z => nomatch z), hok, .of_eq hg⟩
    refine codeAny_mono ((F _ KH (nsH hns)).go callerA [] s1 H ⟨[.ref a], []⟩ [.ref a] [.ref a] _ _ rfl hr e0 (hbind s1 (.ref a)) (.cons rfl .nil) (hsp H hO hS)) fun res s2 h2 => ?_
    match res, h2 with
    | .error _, h2 => exact h2.elim
    | .ok .next, h2 => exact h2.elim
    | .ok .brk, h2 => exact h2.elim
    | .ok .cont, h2 => exact h2.elim
    | .ok (.ret u), h2 =>
      obtain ⟨v, H2, os, bare, un, hok2, r2, q2⟩ := h2
      have q2 : v = .bl true := q2
      subst q2
      have r2 : u = Value.bool true := r2
      subst r2
      refine ⟨rfl, OldK.of_keep fun b o e => ?_, os, bare⟩
      rcases hO b with z | ⟨ob, xs, z⟩
      · exact un.keep b o e z (fun y => nomatch y) (fun y => nomatch y)
      · have f2 := un.frzs b ob _ z
        have c1 := (hok b _ z).1
        rw [e] at c1
        rw [Option.some.inj c1]
        exact (hok2 b _ f2).1
  cases hk : K.lookup a with
  | some o =>
    have e := (KX a o hk).symm.trans ha
    cases e
    refine main (fun _ => none) (fun _ => .inl rfl) (.inr ⟨_, vs.toArray, _, hk, rfl, rfl, rfl, ?_, ?_⟩) (fun _ _ z => nomatch z) (fun _ z => absurd rfl z) (fun z => absurd rfl z)
    · rw [List.size_toArray, lenV]
      exact hl
    · simpa using rv
  | none =>
    have at_a : ∀ {o : HO}, (fun b => if b = a then some o else none : Hp) a = some o := if_pos rfl
    refine main (fun b => if b = a then some (.frz { cls := .type "list", data := .seq vs.toArray } (.lst (ns.map V.int))) else none) (fun b => ?_) (.inl (.inr ⟨_, at_a⟩)) (fun b u z => ?_) (fun b z => ?_) (fun _ => hk)
    · by_cases y : b = a
      · exact .inr ⟨_, _, if_pos y⟩
      · exact .inl (if_neg y)
    · by_cases y : b = a
      · subst y
        cases at_a.symm.trans z
        exact ⟨ha, by rw [List.length_map]; exact hl, vs, _, rv, ha⟩
      · exact nomatch (if_neg y).symm.trans z
    · by_cases y : b = a
      · exact y
      · exact absurd (if_neg y) z
theorem walkG {l : PySem.W.OpenLaw} {n k : Nat} {q : Program} {loose : List Str} {XP : (Str → Option Value) → Heap → Prop} {YP : World → Heap → Prop} {d : DefRec} {x : Str} (hn : l.most = some n) (hn2 : n ≤ sizeLine) (hdf : d.params.defaults = []) (hr : Room k callerA)
    (F : ∀ (w : World) (mg : Str → Option Value) (fa : Addr) (h : Heap), YP w h → h.Ns mainGlobals mg → mg d.name = some (.ref fa) → ∃ (K : PySem.W.Frag) (fd : FuncData) (sp : Sp), K.In h ∧ (∀ (s : Shared) (u : Value), BindsTo s fd ⟨[u], []⟩ [(x, u)]) ∧
        (∀ (H : Hp) (a : Addr) (ns : List Int), ns.length ≤ n → Only H → SqL K H a (ns.map V.int) → sp [.ref a] H (fun v _ => v = .bl true) fun _ _ _ => False) ∧ ∀ base : Heap, K.In base → base.Ns mainGlobals mg → FnG l.prog w K mg base CX0 k fa fd [x] sp) :
    PySem.W.WalkO q loose XP YP l.row.toRowW d [] (fun f vs => PySem.call f vs) := by
  refine Att.attach_call hn hdf fun w s0 s1 mg mb fa o pm cd doc a vs ns G Y ho hd hcd hmg hobj hints hlen hg => ?_
  obtain ⟨K, fd, sp, KX, hb, hsp, hF⟩ := F w mg fa _ Y G.T.g hmg
  exact law_go KX G.T.g G.T.b G.T.builtins G.T.nolimit hg hobj hints (Nat.le_trans hlen hn2) hr hF hb (fun H hO hS => hsp H a ns hlen hO hS)
/-! ### how long what is shown is -/
def okS (x : Str) : Prop := ∀ c ∈ x.cps.toList, c < 16 ^ 8
theorem okS_of (z : String) : okS (Str.ofString z) := fun c hc => by
  rw [Str.ofString_eq_toList] at hc
  simp only [List.toList_toArray] at hc
  obtain ⟨a, _, rfl⟩ := List.mem_map.mp hc
  have h : a.toNat < 1114112 := by
    have := a.valid
    unfold Char.toNat
    rcases this with h | ⟨_, h⟩
    · exact Nat.lt_trans h (by decide)
    · exact h
  exact Nat.lt_trans h (by decide)
theorem okS_app {x y : Str} (hx : okS x) (hy : okS y) : okS (x ++ y) := fun c hc => by
  have hc : c ∈ (x.cps ++ y.cps).toList := hc
  rw [Array.toList_append] at hc
  rcases List.mem_append.mp hc with z | z
  · exact hx c z
  · exact hy c z
mutual
def wdt : PyData → Nat
  | .none => 4
  | .bool _ => 5
  | .int _ => 1921
  | .str x => 10 * x.length + 2
  | .list ds => 2 + wdts ds
  | .tuple ds => 3 + wdts ds
  | .dict kvs => 2 + wdtk kvs
def wdts : List PyData → Nat
  | [] => 0
  | d :: ds => wdt d + 2 + wdts ds
def wdtk : List (PyData × PyData) → Nat
  | [] => 0
  | (a, b) :: r => wdt a + wdt b + 4 + wdtk r
end
mutual
def txtOk : PyData → Prop
  | .str x => okS x
  | .list ds => txtOks ds
  | .tuple ds => txtOks ds
  | .dict kvs => txtOkk kvs
  | _ => True
def txtOks : List PyData → Prop
  | [] => True
  | d :: ds => txtOk d ∧ txtOks ds
def txtOkk : List (PyData × PyData) → Prop
  | [] => True
  | (a, b) :: r => txtOk a ∧ txtOk b ∧ txtOkk r
end
theorem from_len : ∀ (ts : List Str) (k : Nat) (acc : Str), (textFrom k acc ts).length ≤ acc.length + piled ts
  | [], k, acc => Nat.le_add_right _ _
  | t :: ts, k, acc => by
    have h := from_len ts (k + 1) (acc ++ (if k > 0 then ", " else "" : String) ++ t)
    rw [strLen_append, strLen_append] at h
    have e : (Str.ofString (if k > 0 then ", " else "")).length ≤ 2 := by
      split
      · exact Nat.le_of_ble_eq_true rfl
      · exact Nat.le_of_ble_eq_true rfl
    rw [piled_cons]
    show (textFrom (k + 1) _ ts).length ≤ _
    omega
theorem join_le (ts : List Str) : (Str.join ", " ts).length ≤ piled ts := by
  by_cases h : ts = []
  · subst h
    exact Nat.le_refl 0
  · have := join_length_add ts h
    omega
mutual
theorem shown_le : ∀ d : PyData, d.showable = true → txtOk d → d.shown.length ≤ wdt d
  | .none, _, _ => Nat.le_of_ble_eq_true rfl
  | .bool b, _, _ => by
    cases b
    · exact Nat.le_of_ble_eq_true rfl
    · exact Nat.le_of_ble_eq_true rfl
  | .int i, h, _ => by
    have h : i.natAbs.log2 < 1920 := of_decide_eq_true h
    exact PyProof.Rows.int_text_len_1921 h
  | .str x, _, h => StrLaws.reprText_len x h
  | .list ds, h, t => by
    have i := showns_le ds h t
    show (textFrom 0 "[" (PyData.shownAll ds) ++ "]").length ≤ 2 + wdts ds
    rw [strLen_append]
    have := from_len (PyData.shownAll ds) 0 "["
    have e1 : (Str.ofString "[").length = 1 := rfl
    have e2 : (Str.ofString "]").length = 1 := rfl
    omega
  | .tuple ds, h, t => by
    have i := showns_le ds h t
    show (tupleText (PyData.shownAll ds)).length ≤ 3 + wdts ds
    unfold tupleText
    rw [strLen_append, strLen_append]
    have := join_le (PyData.shownAll ds)
    have e1 : (Str.ofString "(").length = 1 := rfl
    have e2 : (Str.ofString (if (PyData.shownAll ds).length == 1 then ",)" else ")")).length ≤ 2 := by
      split
      · exact Nat.le_of_ble_eq_true rfl
      · exact Nat.le_of_ble_eq_true rfl
    omega
  | .dict kvs, h, t => by
    have i := shownk_le kvs h t
    show (dictText (PyData.shownKv kvs)).length ≤ 2 + wdtk kvs
    unfold dictText
    rw [strLen_append, strLen_append]
    have := join_le (PyData.shownKv kvs)
    have e1 : (Str.ofString "{").length = 1 := rfl
    have e2 : (Str.ofString "}").length = 1 := rfl
    omega
theorem showns_le : ∀ ds : List PyData, PyData.showableAll ds = true → txtOks ds → piled (PyData.shownAll ds) ≤ wdts ds
  | [], _, _ => Nat.le_refl 0
  | d :: ds, h, t => by
    obtain ⟨h1, h2⟩ := Bool.and_eq_true_iff.mp (show (d.showable && PyData.showableAll ds) = true from h)
    have i1 := shown_le d h1 t.1
    have i2 := showns_le ds h2 t.2
    show piled (d.shown :: PyData.shownAll ds) ≤ wdt d + 2 + wdts ds
    rw [piled_cons]
    omega
theorem shownk_le : ∀ kvs : List (PyData × PyData), PyData.showableKv kvs = true → txtOkk kvs → piled (PyData.shownKv kvs) ≤ wdtk kvs
  | [], _, _ => Nat.le_refl 0
  | (a, b) :: r, h, t => by
    obtain ⟨h1, h2⟩ := Bool.and_eq_true_iff.mp (show (a.showable && b.showable && PyData.showableKv r) = true from h)
    obtain ⟨h3, h4⟩ := Bool.and_eq_true_iff.mp h1
    have i1 := shown_le a h3 t.1
    have i2 := shown_le b h4 t.2.1
    have i3 := shownk_le r h2 t.2.2
    show piled ((a.shown ++ ": " ++ b.shown) :: PyData.shownKv r) ≤ wdt a + wdt b + 4 + wdtk r
    rw [piled_cons, strLen_append, strLen_append]
    have e1 : (Str.ofString ": ").length = 2 := rfl
    omega
end
theorem Shows.of {d : PyData} (h : d.showable = true) (t : txtOk d) (k : d.depth ≤ 60) (n : wdt d ≤ 100000) (l : d.hasDict = true → noL d = true) : Shows d := ⟨h, k, sz_of (Nat.le_trans (shown_le d h t) n), l⟩
theorem showI {i : Int} (h : i.natAbs.log2 < 1920) : (PyData.int i).showable = true := decide_eq_true h
theorem log_of {i : Int} {k : Nat} (h : i.natAbs < 2 ^ k) (hk : 0 < k) (hl : k ≤ 1920) : i.natAbs.log2 < 1920 := Nat.lt_of_lt_of_le (PySem.Flt.log2_lt_of hk h) hl
theorem shows_int {i : Int} (h : i.natAbs.log2 < 1920) : Shows (.int i) := .of (showI h) trivial (Nat.zero_le _) (Nat.le_of_ble_eq_true rfl) (fun z => nomatch z)
theorem shows_pair {a b : Int} (ha : a.natAbs.log2 < 1920) (hb : b.natAbs.log2 < 1920) : Shows (.tuple [.int a, .int b]) := .of (by
  show ((PyData.int a).showable && ((PyData.int b).showable && true)) = true
  rw [showI ha, showI hb]
  rfl) ⟨trivial, trivial, trivial⟩ (Nat.le_of_ble_eq_true rfl) (Nat.le_of_ble_eq_true rfl) (fun _ => rfl)
/-! ### displays -/
section
variable {K : PySem.W.Frag} {σ : L2.St} {H : Hp} {ta tb te : TE} {ds : List PyData}
theorem ed_lst {tr : TA} (h : EvDA tr σ H ds) (hl : ds.length ≤ 100000) : EvD (tLst tr) σ H (.list ds) := fun H1 e _ q =>
  h H1 e _ fun vs H2 e2 hv => ⟨sz_of (by rw [hv.len]; exact hl), fun p hp => q _ _ (e2.trans (Ex.new hp)) (.lst upd_same (hv.up (Ex.new hp)))⟩
theorem ed_str {x : Str} : EvD (tC (.str x)) σ H (.str x) := ed_of ev_c (.str x)
theorem ed_non : EvD (tC .non) σ H .none := ed_of ev_c .non
theorem ed_bl {b : Bool} : EvD (tC (.bl b)) σ H (.bool b) := ed_of ev_c (.bl b)
theorem ed_dict0 : EvD (fun _ H Q => ∀ p, H p = none → Q (.ref p) (upd H p (.dK []))) σ H (.dict []) := fun H1 _ _ q p hp => q _ _ (Ex.new hp) (.dic (ns := []) upd_same)
theorem ed_dict1 {a b : Int} (h1 : ∀ H, Ev ta σ H (.int a)) (h2 : ∀ H, Ev tb σ H (.int b)) : EvD (tDisp [(ta, tb)]) σ H (.dict [(.int a, .int b)]) := fun H1 e Q q p hp =>
  h1 _ _ (Ex.refl _) _ fun H2 e2 => h2 _ _ (Ex.refl _) _ fun H3 e3 => ⟨e3 _ _ (e2 _ _ upd_same), [((Sum.inl a : Key), V.int b)], rfl, Nat.le_of_ble_eq_true rfl, q _ _ (Ex.mut (((Ex.new hp).trans e2).trans e3) hp) (.dic (ns := [(a, some b)]) upd_same)⟩
theorem ed_repr {d : PyData} (h : EvD te σ H d) (hs : Shows d) : EvD (tCB rRepr (tCons te tNil)) σ H (.str d.shown) := fun H1 e Q q =>
  h H1 e _ fun v H2 e2 hv => ⟨v, d, rfl, hv, hs, q _ H2 e2 (.str _)⟩
theorem ed_stri {i : Int} (h : Ev te σ H (.int i)) (hl : i.natAbs.log2 < 1920) : EvD (tCB (fun xs H Q => ∃ i, xs = [.int i] ∧ i.natAbs.log2 < 1920 ∧ Q (.str (toString i)) H) (tCons te tNil)) σ H (.str (toString i)) := fun H1 e Q q =>
  h H1 e _ fun H2 e2 => ⟨i, rfl, hl, q _ H2 e2 (.str _)⟩
theorem ev_pow {a b : Int} (h : CPow a b) : Ev (tOp (rI CPow fun i j => .int (i ^ j.toNat)) (tC (.int a)) (tC (.int b))) σ H (.int (a ^ b.toNat)) := ev_op ev_c ev_c (rv_I h)
theorem ev_add {a b : Int} (h1 : Ev ta σ H (.int a)) (h2 : Ev tb σ H (.int b)) : Ev (tOp (rI0 fun i j => .int (i + j)) ta tb) σ H (.int (a + b)) := ev_op h1 h2 rv_I0
theorem ev_sub {a b : Int} (h1 : Ev ta σ H (.int a)) (h2 : Ev tb σ H (.int b)) : Ev (tOp (rI0 fun i j => .int (i - j)) ta tb) σ H (.int (a - b)) := ev_op h1 h2 rv_I0
theorem ev_mulW {a b : Int} (h1 : Ev ta σ H (.int a)) (h2 : Ev tb σ H (.int b)) (h : CMulW a b) : Ev (tOp (rI CMulW fun i j => .int (i * j)) ta tb) σ H (.int (a * b)) := ev_op h1 h2 (rv_I h)
theorem ev_mulC {a b : Int} (h1 : Ev ta σ H (.int a)) (h2 : Ev tb σ H (.int b)) (h : CMul a b) : Ev (tOp (rI CMul fun i j => .int (i * j)) ta tb) σ H (.int (a * b)) := ev_op h1 h2 (rv_I h)
/-- some + [..], both lists of data -/
theorem ed_cat {es : List PyData} (h1 : EvD ta σ H (.list ds)) (h2 : EvD tb σ H (.list es)) (hl : ds.length + es.length ≤ 100000) : EvD (tOp rCat ta tb) σ H (.list (ds ++ es)) := fun H1 e Q q =>
  h1 H1 e _ fun v H2 e2 hv => h2 H2 (e.trans e2) _ fun u H3 e3 hu => by
    obtain ⟨a, xs, rfl, ha, hx⟩ := (hv.up e3).lst_get
    obtain ⟨b, ys, rfl, hb, hy⟩ := hu.lst_get
    refine ⟨a, b, xs, ys, rfl, rfl, ha, hb, sz_of (by rw [hx.len, hy.len]; exact hl), fun p hp => q _ _ ((e2.trans e3).trans (Ex.new hp)) (.lst upd_same ((hx.up (Ex.new hp)).app (hy.up (Ex.new hp))))⟩
end
/-- for x in [..]: a loop over a display of data, in which the heap grows alone -/
theorem q_forD {K : PySem.W.Frag} {tr : TA} {ds : List PyData} {j : Nat} {tu tz : TS} {D : Ends} {σ : L2.St} {H : Hp} (h : EvDA tr σ H ds) (hl : ds.length ≤ 100000) (Pv : Nat → L2.St → Hp → Prop) (h0 : ∀ H1, Ex H H1 → Pv 0 σ H1)
    (hs : ∀ i x d σ' H', ds[i]? = some d → Dt H' x d → Pv i σ' H' → tu { D with nx := fun σ3 H3 => Pv (i + 1) σ3 H3 ∧ Ex H' H3, ct := fun σ3 H3 => Pv (i + 1) σ3 H3 ∧ Ex H' H3, bk := tz D } (σ'.set j (some x)) H')
    (hd : ∀ σ' H', Pv ds.length σ' H' → tz D σ' H') : tSeq (tFor (iList K (tLst tr)) (gName j) tu) tz D σ H :=
  h H (Ex.refl H) _ fun vs H2 e2 hv => ⟨sz_of (by rw [hv.len]; exact hl), fun p hp => by
    have hp2 : (upd H2 p (.lst vs)) p = some (.lst vs) := upd_same
    have x2 : Ex H2 (upd H2 p (.lst vs)) := Ex.new hp
    refine ⟨p, rfl, ⟨_, sq_of hp2⟩, fun i m σ' H' => m = vs.length - i ∧ i ≤ vs.length ∧ Pv i σ' H' ∧ Ex (upd H2 p (.lst vs)) H', ⟨vs.length, rfl, Nat.zero_le _, h0 _ (e2.trans x2), Ex.refl _⟩, fun i m σ' H' hW => ?_⟩
    obtain ⟨rfl, hi, hP, eW⟩ := hW
    have hS : SqL K H' p vs := sq_of (eW _ _ hp2)
    by_cases z : i < vs.length
    · obtain ⟨d, hd1, hd2⟩ := hv.get i (List.getElem?_eq_getElem z)
      refine .inr ⟨⟨vs, vs[i], hS, List.getElem?_eq_getElem z⟩, fun σ3 H3 => Pv (i + 1) σ3 H3 ∧ Ex H' H3, fun σ3 H3 hN => ⟨vs.length - (i + 1), by omega, rfl, z, hN.1, eW.trans hN.2⟩, fun x H3 y => ?_⟩
      obtain ⟨rfl, y⟩ := y
      have ex : x = vs[i] := Option.some.inj ((y vs hS).symm.trans (List.getElem?_eq_getElem z))
      rw [ex]
      exact hs i _ d σ' _ hd1 (hd2.up (x2.trans eW)) hP
    · have e : i = vs.length := by omega
      subst e
      rw [hv.len] at hP
      exact .inl ⟨⟨vs, hS, Nat.le_refl _⟩, hd σ' H' hP⟩⟩
/-! ### what is seen of a heap, where some lists of it may change -/
/-- the heap without its lists -/
def hideL (H : Hp) : Hp := fun x => match H x with
  | some (.lst _) => none
  | o => o
theorem hideL_ex (H : Hp) : Ex (hideL H) H := fun a o h => by
  unfold hideL at h
  split at h
  · cases h
  · exact h
theorem hideL_of {H : Hp} {a : Addr} {o : HO} (h : H a = some o) (n : ∀ xs, o ≠ .lst xs) : hideL H a = some o := by
  unfold hideL
  split
  · rename_i xs e
    rw [h] at e
    exact absurd (Option.some.inj e) (n xs)
  · exact h
theorem hideL_lst {H : Hp} {a : Addr} (h : IsL H a) : hideL H a = none := by
  obtain ⟨xs, h⟩ := h
  unfold hideL
  rw [h]
mutual
theorem Dt.hid {H : Hp} : ∀ (d : PyData) (v : V), noL d = true → Dt H v d → Dt (hideL H) v d
  | .none, _, _, h => by cases h; exact .non
  | .bool b, _, _, h => by cases h; exact .bl b
  | .int i, _, _, h => by cases h; exact .int i
  | .str x, _, _, h => by cases h; exact .str x
  | .list ds, _, n, h => nomatch n
  | .tuple ds, _, n, h => by
    cases h with
    | tup hs ha => exact .tup (hideL_of hs fun _ z => nomatch z) (DtAll.hid ds _ n ha)
  | .dict _, _, _, h => by
    cases h with
    | dic hs => exact .dic (hideL_of hs fun _ z => nomatch z)
theorem DtAll.hid {H : Hp} : ∀ (ds : List PyData) (vs : List V), noLs ds = true → DtAll H vs ds → DtAll (hideL H) vs ds
  | [], _, _, h => by cases h; exact .nil
  | d :: ds, _, n, h => by
    obtain ⟨n1, n2⟩ := Bool.and_eq_true_iff.mp (show (noL d && noLs ds) = true from n)
    cases h with
    | cons h1 h2 => exact .cons (Dt.hid d _ n1 h1) (DtAll.hid ds _ n2 h2)
end
/-- W2 is W with what is new in H2 -/
structure Grow (W H1 W2 H2 : Hp) : Prop where
  w : Ex W W2
  h : Ex W2 H2
  hh : Ex H1 H2
  n : ∀ b, H1 b ≠ none → W b = none → W2 b = none
theorem Grow.refl {W H : Hp} (e : Ex W H) : Grow W H W H := ⟨Ex.refl W, e, Ex.refl H, fun _ _ z => z⟩
theorem Grow.trans {W H W1 H1 W2 H2 : Hp} (a : Grow W H W1 H1) (b : Grow W1 H1 W2 H2) : Grow W H W2 H2 := ⟨a.w.trans b.w, b.h, a.hh.trans b.hh, fun x h z => b.n x (fun y => h (fresh_back a.hh y)) (a.n x h z)⟩
theorem Grow.new {W H : Hp} (e : Ex W H) {p : Addr} {o : HO} (hp : H p = none) : Grow W H (upd W p o) (upd H p o) := by
  have hw : W p = none := fresh_back e hp
  refine ⟨Ex.new hw, fun a u h => ?_, Ex.new hp, fun b h z => ?_⟩
  · by_cases y : a = p
    · subst y
      rw [upd_same] at h ⊢
      exact h
    · rw [upd_ne y] at h ⊢
      exact e _ _ h
  · have y : b ≠ p := fun y => by
      rw [y] at h
      exact h hp
    rw [upd_ne y]
    exact z
def EvF (te : TE) (σ : L2.St) (W0 : Hp) (d : PyData) : Prop := ∀ W H1, Ex W0 W → Ex W H1 → ∀ Q : VK, (∀ v W2 H2, Grow W H1 W2 H2 → Dt W2 v d → Q v H2) → te σ H1 Q
def EvFA (ta : TA) (σ : L2.St) (W0 : Hp) (ds : List PyData) : Prop := ∀ W H1, Ex W0 W → Ex W H1 → ∀ Q : List V → Hp → Prop, (∀ vs W2 H2, Grow W H1 W2 H2 → DtAll W2 vs ds → Q vs H2) → ta σ H1 Q
section
variable {K : PySem.W.Frag} {σ : L2.St} {W0 : Hp} {ta tb te : TE} {d : PyData} {ds es : List PyData}
theorem ef_var {v : V} {i : Nat} (h : σ[i]? = some (some v)) (hd : Dt W0 v d) : EvF (tVar i) σ W0 d := fun W H1 e0 e1 Q q => ⟨v, h, q v W H1 (.refl e1) (hd.up e0)⟩
theorem ef_c {v : V} (hd : ∀ H, Dt H v d) : EvF (tC v) σ W0 d := fun W H1 _ e1 Q q => q v W H1 (.refl e1) (hd W)
/-- a number that is reckoned without a new object -/
theorem ef_int {i : Int} (h : ∀ (H : Hp) (Q : VK), Q (.int i) H → te σ H Q) : EvF te σ W0 (.int i) := fun W H1 _ e1 Q q => h H1 Q (q _ W H1 (.refl e1) (.int i))
theorem ef_str {x : Str} (h : ∀ (H : Hp) (Q : VK), Q (.str x) H → te σ H Q) : EvF te σ W0 (.str x) := fun W H1 _ e1 Q q => h H1 Q (q _ W H1 (.refl e1) (.str x))
theorem efa_nil : EvFA tNil σ W0 [] := fun W H1 _ e1 _ q => q [] W H1 (.refl e1) .nil
theorem efa_cons {tr : TA} (h : EvF te σ W0 d) (hr : EvFA tr σ W0 ds) : EvFA (tCons te tr) σ W0 (d :: ds) := fun W H1 e0 e1 _ q =>
  h W H1 e0 e1 _ fun v W2 H2 g2 hv => hr W2 H2 (e0.trans g2.w) g2.h _ fun vs W3 H3 g3 hvs => q (v :: vs) W3 H3 (g2.trans g3) (.cons (hv.up g3.w) hvs)
theorem ef_tup {tr : TA} (h : EvFA tr σ W0 ds) (hl : ds.length ≤ 100000) : EvF (tTup tr) σ W0 (.tuple ds) := fun W H1 e0 e1 _ q =>
  h W H1 e0 e1 _ fun vs W2 H2 g2 hv => ⟨sz_of (by rw [hv.len]; exact hl), fun p hp => by
    have g3 := Grow.new (o := .tup vs) g2.h hp
    exact q _ _ _ (g2.trans g3) (.tup upd_same (hv.up g3.w))⟩
theorem ef_lst {tr : TA} (h : EvFA tr σ W0 ds) (hl : ds.length ≤ 100000) : EvF (tLst tr) σ W0 (.list ds) := fun W H1 e0 e1 _ q =>
  h W H1 e0 e1 _ fun vs W2 H2 g2 hv => ⟨sz_of (by rw [hv.len]; exact hl), fun p hp => by
    have g3 := Grow.new (o := .lst vs) g2.h hp
    exact q _ _ _ (g2.trans g3) (.lst upd_same (hv.up g3.w))⟩
theorem ef_dict0 : EvF tDNewK σ W0 (.dict []) := fun W H1 e0 e1 _ q p hp => q _ _ _ (Grow.new e1 hp) (.dic (ns := []) upd_same)
theorem ef_dict1 {a b : Int} (h1 : ∀ (H : Hp) (Q : VK), Q (.int a) H → ta σ H Q) (h2 : ∀ (H : Hp) (Q : VK), Q (.int b) H → tb σ H Q) : EvF (tDisp [(ta, tb)]) σ W0 (.dict [(.int a, .int b)]) := fun W H1 e0 e1 Q q p hp =>
  h1 _ _ (h2 _ _ ⟨upd_same, [((Sum.inl a : Key), V.int b)], rfl, Nat.le_of_ble_eq_true rfl, by
    rw [show upd (upd H1 p (.dK [])) p (.dK (mergeK [] [((Sum.inl a : Key), V.int b)])) = upd H1 p (.dK [((Sum.inl a : Key), V.int b)]) from upd_upd]
    exact q _ _ _ (Grow.new e1 hp) (.dic (ns := [(a, some b)]) upd_same)⟩)
theorem ef_dictO {a : Int} {b : Option Int} (h1 : ∀ (H : Hp) (Q : VK), Q (.int a) H → ta σ H Q) (h2 : ∀ (H : Hp) (Q : VK), Q (oV b) H → tb σ H Q) : EvF (tDisp [(ta, tb)]) σ W0 (.dict [(.int a, oD b)]) := fun W H1 e0 e1 Q q p hp =>
  h1 _ _ (h2 _ _ ⟨upd_same, [((Sum.inl a : Key), oV b)], rfl, Nat.le_of_ble_eq_true rfl, by
    rw [show upd (upd H1 p (.dK [])) p (.dK (mergeK [] [((Sum.inl a : Key), oV b)])) = upd H1 p (.dK [((Sum.inl a : Key), oV b)]) from upd_upd]
    exact q _ _ _ (Grow.new e1 hp) (.dic (ns := [(a, b)]) upd_same)⟩)
theorem ef_cat (h1 : EvF ta σ W0 (.list ds)) (h2 : EvF tb σ W0 (.list es)) (hl : ds.length + es.length ≤ 100000) : EvF (tOp rCat ta tb) σ W0 (.list (ds ++ es)) := fun W H1 e0 e1 Q q =>
  h1 W H1 e0 e1 _ fun v W2 H2 g2 hv => h2 W2 H2 (e0.trans g2.w) g2.h _ fun u W3 H3 g3 hu => by
    obtain ⟨a, xs, rfl, ha, hx⟩ := (hv.up g3.w).lst_get
    obtain ⟨b, ys, rfl, hb, hy⟩ := hu.lst_get
    refine ⟨a, b, xs, ys, rfl, rfl, g3.h _ _ ha, g3.h _ _ hb, sz_of (by rw [hx.len, hy.len]; exact hl), fun p hp => ?_⟩
    have g4 := Grow.new (o := .lst (xs ++ ys)) g3.h hp
    exact q _ _ _ ((g2.trans g3).trans g4) (.lst upd_same ((hx.up g4.w).app (hy.up g4.w)))
end
theorem rep_dt {H : Hp} {vs : List V} {ds : List PyData} (h : DtAll H vs ds) : ∀ n : Nat, DtAll H (List.replicate n vs).flatten (List.replicate n ds).flatten
  | 0 => .nil
  | n + 1 => by
    rw [List.replicate_succ, List.replicate_succ, List.flatten_cons, List.flatten_cons]
    exact h.app (rep_dt h n)
/-! ### [..] != [], whatever stands in the list -/
def rNeE : R2 := fun x y H Q => ∃ a b xs, x = .ref a ∧ y = .ref b ∧ H a = some (.lst xs) ∧ H b = some (.lst []) ∧ Q (.bl (!xs.isEmpty)) H
theorem op_neE {X : Cx} (hu : X.A.units + 64 < cLine) : OpR X (compareOp .NotEq) rNeE := by
  intro pins s σ H x y v u Q I rx ry h
  obtain ⟨a, b, xs, rfl, rfl, ha, hb, q⟩ := h
  cases (show v = Value.ref a from rx)
  cases (show u = Value.ref b from ry)
  obtain ⟨_, its, n, r, hl, e⟩ := I.lstM ha
  obtain ⟨_, its2, n2, r2, hl2, e2⟩ := I.lstM hb
  cases r2
  have L1 : s.heap.IsList a its.toArray := ⟨_, e, rfl, n, rfl⟩
  have L2 : s.heap.IsList b ([] : List Value).toArray := ⟨_, e2, rfl, n2, rfl⟩
  cases xs with
  | nil =>
    cases r
    exact SeqAt.RcNeAt.lists (e := fun _ => true) L1 L2 rfl (by omega) (fun j h1 _ => absurd h1 (Nat.not_lt_zero j)) X.prog X.w X.xe _ ⟨.bl false, H, I, rfl, q⟩
  | cons x0 xs0 =>
    refine SeqAt.RcNeAt.lists_lengths L1 L2 ?_ (by omega) X.prog X.w X.xe _ ⟨.bl true, H, I, rfl, q⟩
    cases r
    simp
/-! ### what may be shown, built piece by piece -/
structure Sh (k n : Nat) (d : PyData) : Prop where
  sh : d.showable = true
  tx : txtOk d
  dp : d.depth ≤ k
  wd : wdt d ≤ n
  nd : d.hasDict = false
structure ShA (k n : Nat) (ds : List PyData) : Prop where
  sh : PyData.showableAll ds = true
  tx : txtOks ds
  dp : PyData.depthAll ds ≤ k
  wd : wdts ds ≤ n
  nd : PyData.hasDictAll ds = false
theorem Sh.shows {k n : Nat} {d : PyData} (h : Sh k n d) (hk : k ≤ 60) (hn : n ≤ 100000) : Shows d := .of h.sh h.tx (Nat.le_trans h.dp hk) (Nat.le_trans h.wd hn) (fun z => by rw [h.nd] at z; cases z)
theorem sh_int {i : Int} (h : i.natAbs.log2 < 1920) : Sh 0 1921 (.int i) := ⟨showI h, trivial, Nat.le_refl 0, Nat.le_refl _, rfl⟩
theorem sh_non : Sh 0 4 .none := ⟨rfl, trivial, Nat.le_refl 0, Nat.le_refl _, rfl⟩
theorem sh_bl {b : Bool} : Sh 0 5 (.bool b) := ⟨rfl, trivial, Nat.le_refl 0, Nat.le_refl _, rfl⟩
theorem sh_str {x : Str} {m : Nat} (h : okS x) (hl : x.length ≤ m) : Sh 0 (10 * m + 2) (.str x) := ⟨rfl, h, Nat.le_refl 0, (show 10 * x.length + 2 ≤ 10 * m + 2 by omega), rfl⟩
theorem sha_nil : ShA 0 0 [] := ⟨rfl, trivial, Nat.le_refl 0, Nat.le_refl _, rfl⟩
theorem sha_cons {k n k2 m : Nat} {d : PyData} {ds : List PyData} (h : Sh k n d) (r : ShA k2 m ds) : ShA (max k k2) (n + 2 + m) (d :: ds) := by
  refine ⟨?_, ⟨h.tx, r.tx⟩, ?_, ?_, ?_⟩
  · show (d.showable && PyData.showableAll ds) = true
    rw [h.sh, r.sh]
    rfl
  · show max d.depth (PyData.depthAll ds) ≤ max k k2
    have := h.dp
    have := r.dp
    omega
  · show wdt d + 2 + wdts ds ≤ n + 2 + m
    have := h.wd
    have := r.wd
    omega
  · show (d.hasDict || PyData.hasDictAll ds) = false
    rw [h.nd, r.nd]
    rfl
theorem sh_tup {k n : Nat} {ds : List PyData} (h : ShA k n ds) : Sh (k + 1) (3 + n) (.tuple ds) := ⟨h.sh, h.tx, Nat.succ_le_succ h.dp, Nat.add_le_add_left h.wd 3, h.nd⟩
theorem sh_lst {k n : Nat} {ds : List PyData} (h : ShA k n ds) : Sh (k + 1) (2 + n) (.list ds) := ⟨h.sh, h.tx, Nat.succ_le_succ h.dp, Nat.add_le_add_left h.wd 2, h.nd⟩
theorem shows_dict1 {a b : Int} (ha : a.natAbs.log2 < 1920) (hb : b.natAbs.log2 < 1920) : Shows (.dict [(.int a, .int b)]) := .of (by
  show ((PyData.int a).showable && (PyData.int b).showable && true) = true
  rw [showI ha, showI hb]
  rfl) ⟨trivial, trivial, trivial⟩ (Nat.le_of_ble_eq_true rfl) (Nat.le_of_ble_eq_true rfl) (fun z => rfl)
section
variable {K : PySem.W.Frag} {σ : L2.St} {W0 H : Hp} {ta tb te : TE} {d : PyData} {ds es : List PyData} {D : Ends} {tz : TS}
theorem ef_rep {k : Nat} (h : EvF ta σ W0 (.list ds)) (hl : ds.length * k ≤ 100000) (hk : k ≤ 1000) : EvF (tOp rRep ta (tC (.int (k : Int)))) σ W0 (.list (List.replicate k ds).flatten) := fun W H1 e0 e1 Q q =>
  h W H1 e0 e1 _ fun v W2 H2 g2 hv => by
    obtain ⟨a, xs, rfl, ha, hx⟩ := hv.lst_get
    refine ⟨a, (k : Int), xs, rfl, rfl, g2.h _ _ ha, by omega, by omega, sz_of (by rw [hx.len]; exact hl), fun p hp => ?_⟩
    have g3 := Grow.new (o := .lst (List.replicate ((k : Int)).toNat xs).flatten) g2.h hp
    exact q _ _ _ (g2.trans g3) (.lst upd_same ((rep_dt hx k).up g3.w))
theorem q_asgF {i : Nat} (h : EvF te σ W0 d) (e : Ex W0 H) (k : ∀ v W2 H2, Grow W0 H W2 H2 → Dt W2 v d → tz D (σ.set i (some v)) H2) : tSeq (tAsg te (gName i)) tz D σ H := h W0 H (Ex.refl W0) e _ k
theorem ef_stri {i : Int} {j : Nat} (h : σ[j]? = some (some (.int i))) (hl : i.natAbs.log2 < 1920) : EvF (tCB (fun xs H Q => ∃ i, xs = [.int i] ∧ i.natAbs.log2 < 1920 ∧ Q (.str (toString i)) H) (tCons (tVar j) tNil)) σ W0 (.str (toString i)) :=
  ef_str fun H Q q => ⟨_, h, i, rfl, hl, q⟩
theorem ef_vi {i : Int} {j : Nat} (h : σ[j]? = some (some (.int i))) : EvF (tVar j) σ W0 (.int i) := ef_int fun H Q q => ⟨_, h, q⟩
theorem ef_ci {i : Int} : EvF (tC (.int i)) σ W0 (.int i) := ef_int fun H Q q => q
theorem ef_cb {b : Bool} : EvF (tC (.bl b)) σ W0 (.bool b) := ef_c fun _ => .bl b
theorem ef_cn : EvF (tC .non) σ W0 .none := ef_c fun _ => .non
theorem ef_cs {x : Str} : EvF (tC (.str x)) σ W0 (.str x) := ef_c fun _ => .str x
/-- a comprehension over a tuple of whatever data: whether it gives any -/
theorem lcT_any {a : Addr} {xs : List V} {tl : TE} {t : TT} {j : Nat} {vs : List Nat} {Q : VK} (f : PyData → Bool) (h : Ev tl σ H (.ref a)) (ha : H a = some (.tup xs)) (hx : DtAll H xs ds) (hz : ds.length ≤ 40000) (hw : ∀ x, wipe ((wipe σ vs).set j (some x)) vs = wipe σ vs) (hj : ∀ x, ((wipe σ vs).set j (some x))[j]? = some (some x))
    (ht : ∀ H1 v d, Ex H H1 → d ∈ ds → Dt H1 v d → EvT t ((wipe σ vs).set j (some v)) H1 (f d)) (q : ∀ p H2 acc, H p = none → Ex H H2 → H2 p = some (.lst acc) → acc.length = (ds.filter f).length → Q (.ref p) H2) : tLc (iTup K tl) (gName j) t (tVar j) vs σ H Q :=
  h H (Ex.refl H) _ fun H1 e1 => ⟨a, rfl, ⟨xs, st_of (e1 _ _ ha)⟩, fun Dl hD => lc_tup (xs := xs) (fun i H' => Ex H1 H' ∧ ∃ acc, H' Dl = some (.lst acc) ∧ acc.length = ((ds.take i).filter f).length) ⟨Ex.new hD, [], upd_same, rfl⟩ (fun i H' _ p => st_of (p.1 _ _ (e1 _ _ ha))) (fun i x H' hi p => ⟨hw x, by
      obtain ⟨p1, acc, p2, p3⟩ := p
      obtain ⟨d, hd, hxd⟩ := hx.get i hi
      have hm := List.mem_of_getElem? hd
      have hlen : ((ds.take i).filter f).length ≤ ds.length := by
        have h1 := List.length_filter_le f (ds.take i)
        rw [List.length_take] at h1
        omega
      have hstep : ((ds.take (i + 1)).filter f).length = ((ds.take i).filter f).length + (if f d = true then 1 else 0) := by
        rw [List.take_add_one, hd, List.filter_append, List.length_append]
        congr 1
        cases z : f d with
        | true => simp [z]
        | false => simp [z]
      refine ht H1 x d e1 hm (hxd.up e1) H' p1 _ fun H3 e3 => ?_
      cases z : f d with
      | true =>
        refine itT rfl ⟨x, hj x, acc, e3 _ _ p2, sz_lt (by omega), Ex.mut (p1.trans e3) hD, acc ++ [x], upd_same, ?_⟩
        rw [hstep, z, List.length_append, p3]
        rfl
      | false =>
        refine itF rfl ⟨p1.trans e3, acc, e3 _ _ p2, ?_⟩
        rw [hstep, z, p3]
        rfl⟩) (fun H' p => by
      obtain ⟨p1, acc, p2, p3⟩ := p
      rw [hx.len, List.take_length] at p3
      exact q Dl H' acc (fresh_back e1 hD) (e1.trans p1) p2 p3)⟩
end
theorem tNext_app {D : Ends} {σ : L2.St} {H : Hp} : tNext D σ H = D.nx σ H := rfl
theorem go_ifop {r : R2} {ta tb : TE} {t1 t2 tz : TS} {D : Ends} {σ : L2.St} {H : Hp} (h : ta σ H fun x H1 => tb σ H1 fun y H2 => r x y H2 fun z H3 => ∃ k, z = .bl k ∧ if k = true then t1 { D with nx := tz D } σ H3 else t2 { D with nx := tz D } σ H3) : tSeq (tIfS (tTest (tOp r ta tb)) t1 t2) tz D σ H := h
/-! ### loops in which the heap grows alone -/
theorem loopK {K : PySem.W.Frag} {a : Addr} {vs : List V} {j : Nat} {tu : TS} {D : Ends} {σ : L2.St} {H : Hp} (ha : H a = some (.lst vs)) (Pv : Nat → L2.St → Hp → Prop) (h0 : Pv 0 σ H)
    (hs : ∀ i x σ' H', vs[i]? = some x → Ex H H' → Pv i σ' H' → tu { D with nx := fun σ3 H3 => Pv (i + 1) σ3 H3 ∧ Ex H' H3, ct := fun σ3 H3 => Pv (i + 1) σ3 H3 ∧ Ex H' H3, bk := D.nx } (σ'.set j (some x)) H')
    (hd : ∀ σ' H', Pv vs.length σ' H' → Ex H H' → D.nx σ' H') : tFor (fun _ H R => R (Itl K a) H) (gName j) tu D σ H := by
  refine ⟨fun i m σ' H' => m = vs.length - i ∧ i ≤ vs.length ∧ Pv i σ' H' ∧ Ex H H', ⟨vs.length, rfl, Nat.zero_le _, h0, Ex.refl _⟩, fun i m σ' H' hW => ?_⟩
  obtain ⟨rfl, hi, hP, eW⟩ := hW
  have hS : SqL K H' a vs := sq_of (eW _ _ ha)
  by_cases z : i < vs.length
  · refine .inr ⟨⟨vs, vs[i], hS, List.getElem?_eq_getElem z⟩, fun σ3 H3 => Pv (i + 1) σ3 H3 ∧ Ex H' H3, fun σ3 H3 hN => ⟨vs.length - (i + 1), by omega, rfl, z, hN.1, eW.trans hN.2⟩, fun x H3 y => ?_⟩
    obtain ⟨rfl, y⟩ := y
    have ex : x = vs[i] := Option.some.inj ((y vs hS).symm.trans (List.getElem?_eq_getElem z))
    rw [ex]
    exact hs i _ σ' _ (List.getElem?_eq_getElem z) eW hP
  · have e : i = vs.length := by omega
    subst e
    exact .inl ⟨⟨vs, hS, Nat.le_refl _⟩, hd σ' H' hP eW⟩
theorem go_forI {K : PySem.W.Frag} {tl : TE} {g : TG} {tu tz : TS} {D : Ends} {σ : L2.St} {H : Hp} (h : tl σ H fun x H1 => ∃ a, x = .ref a ∧ (∃ xs, SqL K H1 a xs) ∧ tFor (fun _ H R => R (Itl K a) H) g tu { D with nx := tz D } σ H1) : tSeq (tFor (iList K tl) g tu) tz D σ H := h
theorem q_forE {K : PySem.W.Frag} {tl : TE} {ds : List PyData} {j : Nat} {tu tz : TS} {D : Ends} {σ : L2.St} {H : Hp} (h : EvD tl σ H (.list ds)) (Pv : Nat → L2.St → Hp → Prop) (h0 : ∀ H1, Ex H H1 → Pv 0 σ H1)
    (hs : ∀ i x d σ' H', ds[i]? = some d → Dt H' x d → Pv i σ' H' → tu { D with nx := fun σ3 H3 => Pv (i + 1) σ3 H3 ∧ Ex H' H3, ct := fun σ3 H3 => Pv (i + 1) σ3 H3 ∧ Ex H' H3, bk := tz D } (σ'.set j (some x)) H')
    (hd : ∀ σ' H', Pv ds.length σ' H' → tz D σ' H') : tSeq (tFor (iList K tl) (gName j) tu) tz D σ H :=
  go_forI (h H (Ex.refl H) _ fun v H2 e2 hv => by
    obtain ⟨a, xs, rfl, ha, hx⟩ := hv.lst_get
    refine ⟨a, rfl, ⟨_, sq_of ha⟩, loopK (D := { D with nx := tz D }) ha Pv (h0 H2 e2) (fun i x σ' H' hi e hP => ?_) (fun σ' H' hP e => ?_)⟩
    · obtain ⟨d, hd1, hd2⟩ := hx.get i hi
      exact hs i x d σ' H' hd1 (hd2.up e) hP
    · rw [hx.len] at hP
      exact hd σ' H' hP)
theorem s_forE {K : PySem.W.Frag} {tl : TE} {ds : List PyData} {j : Nat} {tu : TS} {D : Ends} {σ : L2.St} {H : Hp} (h : EvD tl σ H (.list ds)) (Pv : Nat → L2.St → Hp → Prop) (h0 : ∀ H1, Ex H H1 → Pv 0 σ H1)
    (hs : ∀ i x d σ' H', ds[i]? = some d → Dt H' x d → Pv i σ' H' → tu { D with nx := fun σ3 H3 => Pv (i + 1) σ3 H3 ∧ Ex H' H3, ct := fun σ3 H3 => Pv (i + 1) σ3 H3 ∧ Ex H' H3, bk := D.nx } (σ'.set j (some x)) H')
    (hd : ∀ σ' H', Pv ds.length σ' H' → D.nx σ' H') : tFor (iList K tl) (gName j) tu D σ H := q_forE (tz := tNext) h Pv h0 hs hd
/-! ### an error that was caught, kept as a value -/
/-- an error's object of the class cls, behind the clause that caught it -/
def ExK (cls : Value) (a : Addr) : HO := .ext fun h => ∃ (oe : Obj) (vs : Array Value), h.get? a = some oe ∧ Zc cls none oe ∧ oe.data = .fields vs
theorem exK_ok {P : Program} {w : World} {H : Hp} {h : Heap} {a : Addr} {cls : Value} {oe : Obj} {vs : Array Value} (e : h.get? a = some oe) (z : Zc cls none oe) (d : oe.data = .fields vs) : ObjOk P w H h a (ExK cls a) :=
  ⟨⟨oe, vs, e, z, d⟩, ⟨oe, e⟩, fun _ _ ⟨o, v, q, r⟩ k => ⟨o, v, k o q, r⟩⟩
section
variable {X : Cx} {pins : List (Addr × Obj)} {σ : L2.St} {H : Hp} {s : Shared}
/-- an object that lies there untracked, made behind the entry, is tracked -/
theorem inv_track {a : Addr} {o : HO} {oe : Obj} {vs : Array Value} (I : Inv X pins σ H s) (hn : H a = none) (h0 : X.s_0.heap.get? a = none) (ha : s.heap.get? a = some oe) (hd : oe.data = .fields vs) (nL : a ≠ X.env.locals)
    (np : ∀ p ∈ X.pn ++ pins, p.1 ≠ a) (new : ObjOk X.prog X.w (upd H a o) s.heap a o) : Inv X pins σ (upd H a o) s := by
  have ne0 : ∀ b u, X.s_0.heap.get? b = some u → b ≠ a := fun b u e z => by
    rw [z, h0] at e
    cases e
  have neC : ∀ x c, X.env.cells.lookup x = some c → c ≠ a := fun x c e z => by
    obtain ⟨v, oc, hc, dc⟩ := I.cell x c e
    rw [z, ha] at hc
    cases hc
    rw [hd] at dc
    cases dc
  refine ⟨I.ok, I.os, I.bare, ⟨I.base.keep, I.base.slot, fun b u e n hx => ?_, I.base.there, fun b xs e => ?_, fun b u xs e => ?_, fun b ps e => ?_⟩, I.loc, I.cell, ?_, fun x c e => ?_, fun p hp => ?_, fun b u e => ?_, I.len⟩
  · rw [upd_ne (ne0 b u e)]
    exact I.base.free b u e n hx
  · have q := I.base.tups b xs e
    rw [upd_ne (ne_of_none q hn)]
    exact q
  · have q := I.base.frzs b u xs e
    rw [upd_ne (ne_of_none q hn)]
    exact q
  · obtain ⟨m, q⟩ := I.base.tbls b ps e
    exact ⟨m, by rw [upd_ne (ne_of_none q hn)]; exact q⟩
  · rw [upd_ne (Ne.symm nL)]
    exact I.free
  · rw [upd_ne (neC x c e)]
    exact I.freeC x c e
  · obtain ⟨e, n, r⟩ := I.pin p hp
    exact ⟨e, by rw [upd_ne (np p hp)]; exact n, r⟩
  · by_cases hb : b = a
    · subst hb
      rw [upd_same] at e
      cases e
      exact new
    · rw [upd_ne hb] at e
      exact (I.hok b u e).stay (fun c v _ q => q) (fun c q => by rw [upd_ne (ne_of_none q hn)]; exact q) fun c xs q => by rw [upd_ne (ne_of_none q hn)]; exact q
end
/-- what the clause 'except x as n' wishes, where the error stays a value behind it -/
def wKeep (K : PySem.W.Frag) (c : Value) (i : Nat) (ts : Addr → Value → TS) (Wout : WX) (D : Ends) : WX := fun cls d σ H =>
  ∃ b, PySem.W.exmOne K cls c = some b ∧ (b = true → d = none ∧ ∀ a, H a = none → ts a cls { nx := fun σ' H' => D.nx (σ'.set i none) (upd H' a (ExK cls a)), rt := fun (y : V) (H' : Hp) => (D.rt y) (upd H' a (ExK cls a)), bk := fun σ' H' => D.bk (σ'.set i none) (upd H' a (ExK cls a)), ct := fun σ' H' => D.ct (σ'.set i none) (upd H' a (ExK cls a)) } (σ.set i (some (.ref a))) H) ∧ (b = false → Wout cls d σ H)
section
variable {X : Cx} {x n : Str} {c : Value} {i : Nat} {body suite : List Stmt} {b₀ : Stmt} {npp pos pos' : Pos} {tb : WX → TS} {ts : Addr → Value → TS} {Wout : WX}
theorem ps_try_keep (hs : X.stack = X.env :: X.outer) (hf : X.env.frame = some X.env.locals) (hex : X.ex = []) (hN : X.N.Nodup) (hi : X.N[i]? = some n) (hln : X.env.kindOf n = some .local) (hc : Names X x c) (tk : Takes X Wout)
    (hb : ∀ (W : WX) (pn : List (Addr × Obj)) (xe : Value → Shared → Prop), Takes (X.tr pn xe) W → PassesOwn (model X.prog X.w) X.A X.env xe → PSs (X.tr pn xe) body (tb W))
    (hsu : ∀ (a : Addr) (oe : Obj) (cls : Value) (pn : List (Addr × Obj)), PSs (X.suite a ((a, oe) :: pn)) (b₀ :: suite) (ts a cls)) :
    PS X (.Try body [.ExceptHandler (some (.Name x npp)) (some n) (b₀ :: suite) pos'] [] [] pos) (fun D σ H => tb (wKeep X.K c i ts Wout D) D σ H) := by
  refine ⟨fun pins s σ H D I h => ?_⟩
  have ok := I.ok
  have hfr : X.A.frames = some (X.env :: X.outer) := by rw [ok.frames, hs]
  have hloc : Loc X.env.scope n := .inl hln
  refine wpAny_Try_except ?_
  refine wpAny_mono ((hb (wKeep X.K c i ts Wout D) (X.pn ++ pins) (fun e s₁ => wpAny (model X.prog X.w) X.A (noteFrame e X.env) (fun _ s₂ => wpAny (model X.prog X.w) X.A (setFlight e none) (fun _ s₃ =>
    wpAny (model X.prog X.w) X.A (handleBy e X.env [.ExceptHandler (some (.Name x npp)) (some n) (b₀ :: suite) pos']) (SP X pins D) X.xe s₃) X.xe s₂) X.xe s₁) (fun u s' xx => ?_) PassesOwn.looking).run [] s σ H D (I.toTry _) h) (fun f s1 hsp => ?_) (fun e s1 he => he)
  · obtain ⟨a, B, sI, pins', σ', H', cls, d, rfl, J', nb, up, sky, na, os, ag, b, hb1, hyes, hno⟩ := xx
    have J : Inv X pins σ' H' sI := J'.ofTry ok
    have sky' : Sky B (X.env :: X.outer) a (Zc cls d) X.env.locals s'.heap := by rw [← hs]; exact sky
    show wpAny (model X.prog X.w) X.A (noteFrame (.ref a) X.env) _ _ _
    refine Sky.land Zc.steady hfr hf sky' fun h3 fl3 up3 => ?_
    have J3 : Inv X pins σ' H' { s' with heap := h3 } := J.landed nb fl3.1 (up.trans up3) os ag
    obtain ⟨oe3, vs3, he3, hz3, hd3⟩ := fl3.there
    have notFr : ∀ {h : Heap} {o : Obj} {vs : Array Value}, h.FunFrames B (X.env :: X.outer) → h.get? a = some o → o.data = .fields vs → a ∉ frs (X.env :: X.outer) := fun {h o vs} ff e dd hm => by
      obtain ⟨_, o', e', hnf⟩ := ff.mem hm
      rw [e] at e'; cases e'
      exact hnf _ dd
    have nfr := notFr fl3.2.2.1 he3 hd3
    have nI : sI.heap.get? a = none := by
      cases e : sI.heap.get? a with
      | none => rfl
      | some o =>
        have z := nb a o e (by rw [hs]; exact nfr)
        rw [fl3.2.1] at z
        cases z
    have n0 : X.s_0.heap.get? a = none := by
      cases e : X.s_0.heap.get? a with
      | none => rfl
      | some o =>
        obtain ⟨o', z⟩ := J.base.there a o e (by rw [hex]; exact fun z => nomatch z)
        rw [nI] at z
        cases z
    have np : ∀ p ∈ X.pn ++ pins, p.1 ≠ a := fun p hp z => by
      have q := (J.pin p hp).1
      rw [z, nI] at q
      cases q
    have nL : a ≠ X.env.locals := fun z => nfr (List.mem_filterMap.mpr ⟨X.env, List.mem_cons_self, by rw [hf, z]⟩)
    have nF : a ∉ X.fs := fun hm => by
      obtain ⟨e, he, q⟩ := List.mem_filterMap.mp hm
      exact nfr (List.mem_filterMap.mpr ⟨e, List.mem_cons_of_mem _ he, q⟩)
    have S3 := J3.suite he3 hd3 na nL nF
    refine wpAny_handleBy_cons (codeAny_handlers_test ?_) (by intro q; cases q)
    have LT : PySem.W.Looks (model X.prog X.w) h3 (typeOf (.ref a)) cls := fun A Q E s k q => wpAny_typeOf_ref (k _ _ he3) (by rw [hz3.1]; exact q)
    have LM := PySem.W.exm_one (M := model X.prog X.w) (J3.kIn) LT hb1
    have test : ∀ {Q : Value → Shared → Prop} {E : Value → Shared → Prop}, Q c { s' with heap := h3 } → wpAny (model X.prog X.w) (X.A.mark (some (.ref a))) (eval (.Name x npp) X.env) Q E { s' with heap := h3 } := fun {Q E} q => by
      obtain ⟨hg, hdbg, hm | ⟨hm, hv, hnn⟩⟩ := hc
      · exact ld_glob (X := X.suite a ((a, oe3) :: (X.pn ++ pins))) S3 hg hm q hdbg
      · exact ld_blt (X := X.suite a ((a, oe3) :: (X.pn ++ pins))) S3 hg hm hv q hnn hdbg
    refine test (LM.here ?_)
    cases b with
    | true =>
      refine codeAny_handlers_suite_as ?_
      refine HandSPX.lands_againZ fl3 fun h4 fl4 up4 => ?_
      have J4 : Inv X pins σ' H' { s' with heap := h4 } := J.landed nb fl4.1 ((up.trans up3).trans up4) os ag
      obtain ⟨oe4, vs4, he4, hz4, hd4⟩ := fl4.there
      have S4 := J4.suite he4 hd4 na nL nF
      obtain ⟨ed, hyes⟩ := hyes rfl
      rw [ed] at hz4
      refine store_ok (X := X.suite a ((a, oe4) :: (X.pn ++ pins))) (v := .ref a) S4 hN hi hloc rfl (fun s5 S5 => ?_) (.inr hln)
      refine wpAny_mono ((hsu a oe4 cls (X.pn ++ pins)).run [] s5 _ H' _ S5 (hyes a na)) (fun f s6 hsp => ?_) (fun _ _ z => False.elim z)
      have end_ : ∀ {σ6 : L2.St} {H6 : Hp} {Q : Shared → Prop}, Inv (X.suite a ((a, oe4) :: (X.pn ++ pins))) [] σ6 H6 s6 → (∀ s7, Inv X pins (σ6.set i none) (upd H6 a (ExK cls a)) s7 → Q s7) →
          wpAny (model X.prog X.w) X.A (do bindName X.env n .none; unbindBehindTheSuite X.env n pos') (fun _ s7 => Q s7) X.xe s6 := fun {σ6 H6 Q} S6 hq => by
        have pa := S6.pin (a, oe4) (List.mem_append.mpr (.inl List.mem_cons_self))
        have U : Inv X pins σ6 H6 s6 := S6.unsuite ok
        have V : Inv X ((a, oe4) :: pins) σ6 H6 s6 := ⟨U.ok, U.os, U.bare, U.base, U.loc, U.cell, U.free, U.freeC, fun p hp => by
          rcases List.mem_append.mp hp with h1 | h1
          · exact U.pin p (List.mem_append.mpr (.inl h1))
          · rcases List.mem_cons.mp h1 with h2 | h2
            · rw [h2]
              exact pa
            · exact U.pin p (List.mem_append.mpr (.inr h2)), U.hok, U.len⟩
        refine gone_ok V hN hi hln fun s7 V7 => hq s7 ?_
        have p7 := V7.pin (a, oe4) (List.mem_append.mpr (.inr List.mem_cons_self))
        have U7 : Inv X pins (σ6.set i none) H6 s7 := ⟨V7.ok, V7.os, V7.bare, V7.base, V7.loc, V7.cell, V7.free, V7.freeC, fun p hp => by
          rcases List.mem_append.mp hp with h1 | h1
          · exact V7.pin p (List.mem_append.mpr (.inl h1))
          · exact V7.pin p (List.mem_append.mpr (.inr (List.mem_cons_of_mem _ h1))), V7.hok, V7.len⟩
        exact inv_track U7 p7.2.1 n0 p7.1 hd4 nL np (exK_ok p7.1 hz4 hd4)
      cases f with
      | next =>
        obtain ⟨σ6, H6, S6, q6⟩ := hsp
        exact end_ S6 fun s7 J7 => ⟨_, _, J7, q6⟩
      | brk =>
        obtain ⟨σ6, H6, S6, q6⟩ := hsp
        exact end_ S6 fun s7 J7 => ⟨_, _, J7, q6⟩
      | cont =>
        obtain ⟨σ6, H6, S6, q6⟩ := hsp
        exact end_ S6 fun s7 J7 => ⟨_, _, J7, q6⟩
      | ret u =>
        obtain ⟨v6, σ6, H6, S6, r6, q6⟩ := hsp
        exact end_ S6 fun s7 J7 => ⟨_, _, _, J7, r6, q6⟩
    | false =>
      show wpAny _ X.A (handleBy (.ref a) X.env []) _ _ _
      refine wpAny_handleBy_nil ?_
      obtain ⟨k1, k2, k3, oe, vs, T, oT, ts', he, hz, hd, h1, hr⟩ := id fl3
      unfold PySem.passOn
      refine wpAny_bind (wpAny_field he hd h1 ?_)
      rw [if_neg (show ¬ ((Value.ref T == Value.none) = true) from by simp)]
      have fin : wpAny (model X.prog X.w) X.A (setFlight (.ref a) X.env.frame) (fun _ s4 => wpAny (model X.prog X.w) X.A (throw (.ref a) : Sem Flow) (SP X pins D) X.xe s4) X.xe { s' with heap := h3 } := by
        rw [hf]
        refine HandSPX.setFlight_upZ fl3 fun h4 hh4 up4 => wpAny_throw (tk _ _ ?_)
        exact ⟨a, B, sI, pins, σ', H', cls, d, rfl, J, nb, (up.trans up3).trans up4, .inr (.inr (by rw [hs]; exact hh4)), na, os, ag, hno rfl⟩
      first
        | exact wpAny_bind (wpAny_pure (wpAny_bind fin))
        | exact wpAny_bind fin
  · cases f with
    | next =>
      obtain ⟨σ', H', J', q⟩ := hsp
      exact wpAny_execs_nil ⟨σ', H', J'.ofTry ok, q⟩
    | brk =>
      obtain ⟨σ', H', J', q⟩ := hsp
      exact ⟨σ', H', J'.ofTry ok, q⟩
    | cont =>
      obtain ⟨σ', H', J', q⟩ := hsp
      exact ⟨σ', H', J'.ofTry ok, q⟩
    | ret u =>
      obtain ⟨v, σ', H', J', r, q⟩ := hsp
      exact ⟨v, σ', H', J'.ofTry ok, r, q⟩
end
/-! ### isinstance of it -/
/-- isinstance(caught, c), c one class; isinstance(caught, (c1, ..)) -/
def rIsX (K : PySem.W.Frag) : List V → Hp → VK → Prop := fun xs H Q => ∃ (a D : Addr) (c : V) (b : Bool), xs = [.ref a, c] ∧ H a = some (ExK (.ref D) a) ∧ L2.ExcC K D ∧
  ((∃ u, ClsV c u ∧ PySem.W.kitOne K (.ref D) u = some b) ∨ ∃ tp cs us, c = .ref tp ∧ H tp = some (.tup cs) ∧ Paired ClsV cs us ∧ PySem.W.kitAny K (.ref D) us = some b) ∧ Q (.bl b) H
theorem call_isX {X : Cx} : CallR X (.builtin "isinstance") (rIsX X.K) := by
  intro pins s σ H xs us Q I r h
  obtain ⟨a, D, c, b, rfl, ha, C, hc, q⟩ := h
  obtain ⟨u1, u2, rfl, r1, r2⟩ := vals2 r
  cases (show u1 = Value.ref a from r1)
  obtain ⟨⟨oe, vs, ho, hz, hv⟩, _, _⟩ := I.hok a _ ha
  have J : PySem.W.InstAt s.heap a oe D none := by
    obtain ⟨oc, od, oda, osl⟩ := oe
    obtain ⟨h1, h2⟩ := hz
    dsimp only at h1 h2 hv
    subst h1 h2 hv
    exact ⟨ho, rfl, rfl, trivial⟩
  have Z := PySem.W.handS_kitx_exc (K := X.K) (x := a) (ox := oe) C.hg C.hk C.hs C.hd C.ha C.hn C.ht C.hm
  rcases hc with ⟨u, k, e⟩ | ⟨tp, cs, ws, rfl, hT, k, e⟩
  · have e2 := k.eq r2
    subst e2
    exact PySem.W.kia_one Z I.kIn J e (fun z => nomatch z) fun tk => ⟨.bl b, H, I.tok tk, rfl, q⟩
  · cases (show u2 = Value.ref tp from r2)
    obtain ⟨_, its, rv, o, h1, h2, n, h3⟩ := (show ObjOk X.prog X.w H s.heap tp (.tup cs) from I.hok tp _ hT)
    have e3 := ClsV.all k rv
    subst e3
    obtain ⟨oc, od, dt, sl⟩ := o
    simp only at h2 h3
    subst h2 h3
    exact PySem.W.kia_tup Z I.kIn J h1 e (fun z => nomatch z) fun tk => ⟨.bl b, H, I.tok tk, rfl, q⟩
/-! ### making one, raising it -/
section
variable {X : Cx} {C : Addr} {bmB : List Value} {B newId initId : String}
/-- C(e), to be raised -/
theorem pmk_any {x : Str} {e : Expr} {ta : TE} {p pos : Pos} (F : ExcBaseFacts B newId initId bmB) (q : PySem.W.excIn X.K C bmB newId = true) (gC : X.mg x = some (.ref C)) (kC : PySem.W.keepIn X.K (.ref C) = true) (r : Raises X (.ref C)) (hg : Gl X x)
    (he : PE X e ta) (hs : starEach [e] X.env = (false, eval e X.env) :: starEach [] X.env := by rfl) (hdb : (x == ("__debug__" : Str)) = false := by decide) : PMk X (.Call (.Name x p) [e] [] pos) (fun σ H Q => ta σ H fun _ H1 => Q (.ref C) none H1) := by
  intro pins s σ H Q I h
  refine wpAny_Call_Name_kw (ld_glob I hg gC ?_ hdb)
  refine PySem.W.callWith_K (h₀ := X.base) I.ok.mod.kin kC ?_ hs (by rfl)
  rw [hs]
  show wpAny _ _ (spliced ((false, eval e X.env) :: backTo pos (starEach [] X.env))) _ _ s
  refine Calls.spliced_cons (thn (he.run pins s σ H _ I h) fun u s1 ⟨v, H1, I1, r1, q1⟩ => ?_)
  refine Calls.spliced_nil ⟨I1.kIn, ?_⟩
  show wpAny _ _ (call (.ref C) [u]) _ _ _
  obtain ⟨bm, N, nm, qn, bs, hdct, sn, sub, ab, col, dd, k0, k1, k2, k3, k5, mN, hC, hN, hni, T⟩ := exc_obj I1.kIn q
  exact wpAny_call_exc_subT F T hC hN hni (fun h' e hm => mk_of I1 hm r q1 (I1.hok.gone hm.new)) (by show 1 ≤ sizeLine; rw [sizeLine_eq]; omega)
/-- an error's object whose args are the tuple at t -/
def ExA (cls : Value) (t a : Addr) : HO := .ext fun h => ∃ (oe : Obj) (vs : Array Value), h.get? a = some oe ∧ oe.cls = cls ∧ oe.data = .fields vs ∧ vs[0]? = some (.ref t)
/-- C(e), as a value -/
theorem pe_excA {x : Str} {e : Expr} {ta : TE} {p pos : Pos} (F : ExcBaseFacts B newId initId bmB) (q : PySem.W.excIn X.K C bmB newId = true) (gC : X.mg x = some (.ref C)) (kC : PySem.W.keepIn X.K (.ref C) = true) (hg : Gl X x)
    (he : PE X e ta) (hs : starEach [e] X.env = (false, eval e X.env) :: starEach [] X.env := by rfl) (hdb : (x == ("__debug__" : Str)) = false := by decide) :
    PE X (.Call (.Name x p) [e] [] pos) (fun σ H Q => ta σ H fun v H1 => ∀ t a, H1 t = none → H1 a = none → t ≠ a → Q (.ref a) (upd (upd H1 t (.tup [v])) a (ExA (.ref C) t a))) := by
  refine ⟨fun pins s σ H Q I h => ?_⟩
  refine wpAny_Call_Name_kw (ld_glob I hg gC ?_ hdb)
  refine PySem.W.callWith_K (h₀ := X.base) I.ok.mod.kin kC ?_ hs (by rfl)
  rw [hs]
  show wpAny _ _ (spliced ((false, eval e X.env) :: backTo pos (starEach [] X.env))) _ _ s
  refine Calls.spliced_cons (thn (he.run pins s σ H _ I h) fun u s1 ⟨v, H1, I1, r1, q1⟩ => ?_)
  refine Calls.spliced_nil ⟨I1.kIn, ?_⟩
  show wpAny _ _ (call (.ref C) [u]) _ _ _
  obtain ⟨bm, N, nm, qn, bs, hdct, sn, sub, ab, col, dd, k0, k1, k2, k3, k5, mN, hC, hN, hni, T⟩ := exc_obj I1.kIn q
  refine wpAny_call_exc_subT F T hC hN hni (fun h' a hm => ?_) (by show 1 ≤ sizeLine; rw [sizeLine_eq]; omega)
  obtain ⟨t, ha, nt, ht⟩ := hm.there
  have hna : H1 a = none := I1.hok.gone hm.new
  have hnt : H1 t = none := I1.hok.gone nt
  have hta : t ≠ a := fun z => by
    rw [z, ha] at ht
    cases ht
  refine ⟨.ref a, _, ?_, rfl, q1 t a hnt hna hta⟩
  have old : ∀ {b : Addr} {o : HO}, H1 b = some o → upd (upd H1 t (.tup [v])) a (ExA (.ref C) t a) b = some o := fun {b o} e => by
    rw [upd_ne (ne_of_none e hna), upd_ne (ne_of_none e hnt)]
    exact e
  refine I1.un (t' := s1.toks) ⟨fun b o e _ _ _ => hm.keeps b o e, fun b o e _ _ _ => ⟨o.slots, hm.keeps b o e⟩, fun b o e n _ => ?_, fun b o e _ => ⟨o, hm.keeps b o e⟩, fun b xs e => old e, fun b o xs e => old e, fun b ps e => ⟨#[], by rw [old e]; simp⟩⟩ fun b o e => ?_
  · rw [upd_ne (fun z => by rw [z, hm.new] at e; cases e), upd_ne (fun z => by rw [z, nt] at e; cases e)]
    exact n
  · by_cases hba : b = a
    · subst hba
      rw [upd_same] at e
      cases e
      exact ⟨⟨_, _, ha, rfl, rfl, rfl⟩, ⟨_, ha⟩, fun _ _ ⟨o, w, z, z2⟩ k => ⟨o, w, k o z, z2⟩⟩
    · rw [upd_ne hba] at e
      by_cases hbt : b = t
      · subst hbt
        rw [upd_same] at e
        cases e
        exact ⟨by show 1 ≤ sizeLine; rw [sizeLine_eq]; omega, [u], .cons r1 .nil, _, ht, rfl, _, rfl⟩
      · rw [upd_ne hbt] at e
        exact (I1.hok b o e).stay (fun c w _ z => hm.keeps c w z) (fun c z => old z) fun c xs z => old z
end
/-- str of one that was made with a text -/
def rStrX (K : PySem.W.Frag) : List V → Hp → VK → Prop := fun xs H Q => ∃ (a t D : Addr) (m : Str), xs = [.ref a] ∧ H a = some (ExA (.ref D) t a) ∧ H t = some (.tup [.str m]) ∧
  PySem.W.findIn K (.ref D) "__str__" = some (some (.builtin "BaseException.__str__")) ∧ PySem.W.subIn K (.ref D) (.type "BaseException") = some true ∧ Q (.str m) H
theorem call_strX {X : Cx} (hu : X.A.units + 64 < cLine) : CallR X (.type "str") (rStrX X.K) := by
  intro pins s σ H xs us Q I r h
  obtain ⟨a, t, D, m, rfl, ha, ht, hs, hB, q⟩ := h
  obtain ⟨u, rfl, r1⟩ := vals1 r
  cases (show u = Value.ref a from r1)
  obtain ⟨⟨oe, vs, ho, hc, hd, h0⟩, _, _⟩ := I.hok a _ ha
  obtain ⟨_, its, rv, o, h1, h2, n, h3⟩ := (show ObjOk X.prog X.w H s.heap t (.tup [.str m]) from I.hok t _ ht)
  obtain ⟨tk, rfl⟩ : ∃ tk, its = [.str m tk] := by
    obtain ⟨u, rfl, tk, e⟩ := vals1 rv
    exact ⟨tk, by rw [e]⟩
  exact PySem.P.str_of_C_one (by omega) ⟨I.kIn, oe, vs, ho, hc, hd, h0⟩ ⟨o, n, h1, h2, h3⟩ hs hB ⟨.str m, H, I, ⟨tk, rfl⟩, q⟩
/-! ### a def that raises -/
theorem takes_cx {P : Program} {w : World} {K : PySem.W.Frag} {mg : Str → Option Value} {base : Heap} {N : List Str} {qual : Str} {scope : Scope} {f : Addr} {cd : Value} {A : Around} {outer : List Env} {s : Shared} {H : Hp} {E : XK} :
    Takes (cxOf (L2.CX P w) P w K mg base N qual scope f cd A outer s H E) (fun cls d _ H => E cls d H) := takes_of rfl rfl rfl rfl
theorem passes_cx {P : Program} {w : World} {K : PySem.W.Frag} {mg : Str → Option Value} {base : Heap} {N : List Str} {qual : Str} {scope : Scope} {f : Addr} {cd : Value} {A : Around} {outer : List Env} {s : Shared} {H : Hp} {E : XK} :
    Passes (L2.CX P w) (cxOf (L2.CX P w) P w K mg base N qual scope f cd A outer s H E) E := passes_call (W := fun cls d _ H => E cls d H) takes_cx fun _ _ _ _ h => h
theorem pass_own {P : Program} {w : World} {K : PySem.W.Frag} {mg : Str → Option Value} {base : Heap} {N : List Str} {qual : Str} {scope : Scope} {f : Addr} {cd : Value} {A : Around} {outer : List Env} {s : Shared} {H : Hp} {E : XK} :
    PassesOwn (model P w) (cxOf (L2.CX P w) P w K mg base N qual scope f cd A outer s H E).A (cxOf (L2.CX P w) P w K mg base N qual scope f cd A outer s H E).env (cxOf (L2.CX P w) P w K mg base N qual scope f cd A outer s H E).xe := passes_of rfl
/-- code that isn't reached -/
theorem pss_dead {X : Cx} {b : List Stmt} : PSs X b (fun _ _ _ => False) := ⟨fun _ _ _ _ _ _ h => h.elim⟩
/-- raise C(e) -/
theorem ps_raiseX {X : Cx} {C : Addr} {x : Str} {e : Expr} {ta : TE} {p pos pos2 : Pos} {W : WX} (hc : X.calm = true) (tk : Takes X W) (F : ExcFacts X.K C) (gC : X.mg x = some (.ref C)) (hg : Gl X x) (he : PE X e ta)
    (hs : starEach [e] X.env = (false, eval e X.env) :: starEach [] X.env := by rfl) (hdb : (x == ("__debug__" : Str)) = false := by decide) :
    PS X (.Raise (some (.Call (.Name x p) [e] [] pos)) none pos2) (fun _ σ H => ta σ H fun _ H1 => W (.ref C) none σ H1) :=
  ps_raise hc tk (pmk_any PySem.F.excBase_ValueError F.1 gC F.2.1 (raises_own F.2.2.1 F.2.2.2) hg he hs hdb)
/-! ### a heap without one of its lists -/
def rmv (H : Hp) (B : Addr) : Hp := fun a => if a = B then none else H a
theorem rmv_at {H : Hp} {B : Addr} : rmv H B B = none := if_pos rfl
theorem rmv_ne {H : Hp} {B a : Addr} (h : a ≠ B) : rmv H B a = H a := if_neg h
theorem rmv_ex (H : Hp) (B : Addr) : Ex (rmv H B) H := fun a o h => by
  by_cases z : a = B
  · rw [z, rmv_at] at h
    cases h
  · rw [rmv_ne z] at h
    exact h
theorem rmv_b (H : Hp) (B : Addr) : ExB B H (rmv H B) := fun a o n h => by
  rw [rmv_ne n]
  exact h
theorem rmv_in {W H : Hp} {B : Addr} (e : Ex W H) (n : W B = none) : Ex W (rmv H B) := fun a o h => by
  rw [rmv_ne (ne_of_none h n)]
  exact e _ _ h
theorem rmv_up {H : Hp} {B : Addr} {o : HO} : rmv (upd H B o) B = rmv H B := funext fun a => by
  by_cases z : a = B
  · rw [z, rmv_at, rmv_at]
  · rw [rmv_ne z, rmv_ne z, upd_ne z]
theorem rmv_mono {H H' : Hp} {B : Addr} (e : Ex H H') : Ex (rmv H B) (rmv H' B) := rmv_in ((rmv_ex H B).trans e) rmv_at
theorem rmv_dr {H H' : Hp} {B : Addr} (e : ExB B H H') : Ex (rmv H B) (rmv H' B) := rmv_in ((rmv_ex H B).keepB rmv_at e) rmv_at
/-! ### what may be shown where sys.modules is known to be a dict: lists with dicts in them, too -/
structure Sw (k n : Nat) (d : PyData) : Prop where
  sh : d.showable = true
  tx : txtOk d
  dp : d.depth ≤ k
  wd : wdt d ≤ n
structure SwA (k n : Nat) (ds : List PyData) : Prop where
  sh : PyData.showableAll ds = true
  tx : txtOks ds
  dp : PyData.depthAll ds ≤ k
  wd : wdts ds ≤ n
theorem Sh.sw {k n : Nat} {d : PyData} (h : Sh k n d) : Sw k n d := ⟨h.sh, h.tx, h.dp, h.wd⟩
theorem Sw.le {k n k2 n2 : Nat} {d : PyData} (h : Sw k n d) (hk : k ≤ k2) (hn : n ≤ n2) : Sw k2 n2 d := ⟨h.sh, h.tx, Nat.le_trans h.dp hk, Nat.le_trans h.wd hn⟩
theorem SwA.le {k n k2 n2 : Nat} {ds : List PyData} (h : SwA k n ds) (hk : k ≤ k2) (hn : n ≤ n2) : SwA k2 n2 ds := ⟨h.sh, h.tx, Nat.le_trans h.dp hk, Nat.le_trans h.wd hn⟩
theorem swa_nil : SwA 0 0 [] := ⟨rfl, trivial, Nat.le_refl 0, Nat.le_refl _⟩
theorem swa_cons {k n k2 m : Nat} {d : PyData} {ds : List PyData} (h : Sw k n d) (r : SwA k2 m ds) : SwA (max k k2) (n + 2 + m) (d :: ds) := by
  refine ⟨?_, ⟨h.tx, r.tx⟩, ?_, ?_⟩
  · show (d.showable && PyData.showableAll ds) = true
    rw [h.sh, r.sh]
    rfl
  · show max d.depth (PyData.depthAll ds) ≤ max k k2
    have := h.dp
    have := r.dp
    omega
  · show wdt d + 2 + wdts ds ≤ n + 2 + m
    have := h.wd
    have := r.wd
    omega
theorem swa_all {k n : Nat} : ∀ {ds : List PyData}, (∀ d ∈ ds, Sw k n d) → SwA k ((n + 2) * ds.length) ds
  | [], _ => ⟨rfl, trivial, Nat.zero_le _, Nat.zero_le _⟩
  | d :: ds, h => by
    have r := swa_cons (h d List.mem_cons_self) (swa_all (ds := ds) fun x hx => h x (List.mem_cons_of_mem _ hx))
    rw [Nat.max_self] at r
    refine r.le (Nat.le_refl _) ?_
    rw [List.length_cons, Nat.mul_succ]
    omega
theorem sw_tup {k n : Nat} {ds : List PyData} (h : SwA k n ds) : Sw (k + 1) (3 + n) (.tuple ds) := ⟨h.sh, h.tx, Nat.succ_le_succ h.dp, Nat.add_le_add_left h.wd 3⟩
theorem sw_lst {k n : Nat} {ds : List PyData} (h : SwA k n ds) : Sw (k + 1) (2 + n) (.list ds) := ⟨h.sh, h.tx, Nat.succ_le_succ h.dp, Nat.add_le_add_left h.wd 2⟩
theorem sw_dict0 : Sw 1 2 (.dict []) := ⟨rfl, trivial, Nat.le_of_ble_eq_true rfl, Nat.le_of_ble_eq_true rfl⟩
theorem sw_dict1 {a b : Int} (ha : a.natAbs.log2 < 1920) (hb : b.natAbs.log2 < 1920) : Sw 1 4000 (.dict [(.int a, .int b)]) := ⟨by
  show ((PyData.int a).showable && (PyData.int b).showable && true) = true
  rw [showI ha, showI hb]
  rfl, ⟨trivial, trivial, trivial⟩, Nat.le_of_ble_eq_true rfl, Nat.le_of_ble_eq_true rfl⟩
theorem sw_pair {k n : Nat} {d e : PyData} (h1 : Sw k n d) (h2 : Sw k n e) : Sw (k + 1) (2 * n + 10) (.list [d, e]) :=
  (sw_lst (swa_cons h1 (swa_cons h2 swa_nil))).le (by omega) (by omega)
section
variable {X : Cx} {pins : List (Addr × Obj)} {σ : L2.St} {H : Hp} {s : Shared}
mutual
theorem Dt.readsS (S : SMK X.K) (I : Inv X pins σ H s) : ∀ (d : PyData) (v : V) (u : Value), Dt H v d → RelV v u → ∃ as, Reads s.heap u d as ∧ sysModules ∉ as
  | .none, _, _, h, r => by
    cases h
    cases r
    exact ⟨_, .none, fun z => nomatch z⟩
  | .bool b, _, _, h, r => by
    cases h
    cases r
    exact ⟨_, .bool b, fun z => nomatch z⟩
  | .int i, _, _, h, r => by
    cases h
    obtain ⟨t, rfl⟩ := r
    exact ⟨_, .int i t, fun z => nomatch z⟩
  | .str x, _, _, h, r => by
    cases h
    obtain ⟨t, rfl⟩ := r
    exact ⟨_, .str x t, fun z => nomatch z⟩
  | .list ds, _, _, h, r => by
    cases h with
    | lst hs ha =>
      cases r
      obtain ⟨its, rv, ⟨o, n, ho, hc, _, hd⟩, _⟩ := I.list (sq_of hs)
      obtain ⟨as, hr, hn⟩ := DtAll.readsS S I ds _ its ha rv
      refine ⟨_, .list ho hc hd hr, fun z => ?_⟩
      rcases List.mem_cons.mp z with z | z
      · obtain ⟨o2, es, ep, h1, h2⟩ := S
        have h3 := I.kIn _ _ h1
        rw [z, ho] at h3
        rw [← Option.some.inj h3, hd] at h2
        cases h2
      · exact hn z
  | .tuple ds, _, _, h, r => by
    cases h with
    | tup hs ha =>
      cases r
      obtain ⟨its, rv, ⟨o, ho, hc, n, hd⟩, _⟩ := I.tuple (st_of hs)
      obtain ⟨as, hr, hn⟩ := DtAll.readsS S I ds _ its ha rv
      exact ⟨_, .tuple ho hc hd hr, hn⟩
  | .dict _, _, _, h, r => by
    cases h with
    | @dic a ns hs =>
      cases r
      obtain ⟨_, hsm, ws, kv, o, es, ep, h1, h2, h3, _, h5, _⟩ := (show ObjOk X.prog X.w H s.heap a (.dK (ns.map fun p => ((Sum.inl p.1 : Key), oV p.2))) from I.hok a _ hs)
      obtain ⟨q1, q2⟩ := kv_reads (X := X) (h := s.heap) _ _ _ kv h5
      refine ⟨_, .dict (kvs := ns.map fun p => (PyData.int p.1, oD p.2)) h1 h2.1 h3 (by rw [List.map_map]; exact q1) (by rw [List.map_map]; exact q2), fun z => ?_⟩
      have z : sysModules ∈ [a] := z
      have z := List.mem_singleton.mp z
      rw [← z] at hsm
      exact absurd hsm (by simp)
theorem DtAll.readsS (S : SMK X.K) (I : Inv X pins σ H s) : ∀ (ds : List PyData) (vs : List V) (us : List Value), DtAll H vs ds → Vals vs us → ∃ as, ReadsAll s.heap us ds as ∧ sysModules ∉ as
  | [], _, _, h, r => by
    cases h
    cases r
    exact ⟨_, .nil, fun z => nomatch z⟩
  | d :: ds, _, _, h, r => by
    cases h with
    | cons h1 h2 =>
      cases r with
      | cons r1 r2 =>
        obtain ⟨as, q1, n1⟩ := Dt.readsS S I d _ _ h1 r1
        obtain ⟨bs, q2, n2⟩ := DtAll.readsS S I ds _ _ h2 r2
        refine ⟨_, .cons q1 q2, fun m => ?_⟩
        rcases List.mem_append.mp m with m | m
        · exact n1 m
        · exact n2 m
end
def rReprX : List V → Hp → VK → Prop := fun xs H Q => ∃ v d, xs = [v] ∧ Dt H v d ∧ Sw 50 10000000 d ∧ Q (.str d.shown) H
theorem call_reprX (S : SMK X.K) (hG : X.A.guards = some []) (hu : X.A.units + 64 < cLine) : CallR X (.builtin "repr") rReprX := by
  intro pins s σ H xs us Q I r h
  obtain ⟨v, d, rfl, hd, hs, q⟩ := h
  obtain ⟨u, rfl, rv⟩ := vals1 r
  have hln : d.shown.length ≤ sizeLine := Nat.le_trans (Nat.le_trans (shown_le d hs.sh hs.tx) hs.wd) (by decide)
  have fin : ∀ (a : Addr), v = .ref a → wpAny (model X.prog X.w) X.A (call (.builtin "repr") [u]) (EP X pins σ Q) X.xe s := fun a e => by
    subst e
    have e2 : u = Value.ref a := rv
    subst e2
    obtain ⟨as, hr, hn⟩ := Dt.readsS S I d _ _ hd rv
    have := hs.dp
    refine repr_of_reads' hr hs.sh (fun _ => hn) hG (by omega) (fun _ _ z => z) (fun h' t tk hk => ?_) hln
    exact ⟨.str d.shown, H, I.kept (t' := tk) hk, ⟨t, rfl⟩, q⟩
  cases hd with
  | non =>
    cases (show u = Value.none from rv)
    exact PySem.P.repr_of_none ⟨.str _, H, I.tok _, ⟨_, rfl⟩, q⟩
  | bl b =>
    cases (show u = Value.bool b from rv)
    exact PySem.P.repr_of_bool ⟨.str _, H, I.tok _, ⟨_, rfl⟩, q⟩
  | int i =>
    obtain ⟨t, rfl⟩ := (show ∃ t, u = Value.int i t from rv)
    exact PySem.P.repr_of_int (of_decide_eq_true hs.sh) ⟨.str _, H, I.tok _, ⟨_, rfl⟩, q⟩
  | str x =>
    obtain ⟨t, rfl⟩ := (show ∃ t, u = Value.str x t from rv)
    exact PySem.P.repr_of_str ⟨.str _, H, I.tok _, ⟨_, rfl⟩, q⟩ hln
  | lst a b => exact fin _ rfl
  | tup a b => exact fin _ rfl
  | dic a => exact fin _ rfl
/-! ### a text times a number -/
def repT (m : Str) (k : Int) : Str := ⟨(List.replicate k.toNat m.cps).foldl (· ++ ·) #[]⟩
def rRepS : R2 := fun x y H Q => ∃ (m : Str) (k : Int), x = .str m ∧ y = .int k ∧ 2 ≤ k ∧ k < 1000000 ∧ m.length ≠ 0 ∧ m.length * k.toNat ≤ 1000000 ∧ (repT m k).length ≤ 1000000 ∧ Q (.str (repT m k)) H
theorem op_repS : OpR X (binaryOp .Mult) rRepS := by
  intro pins s σ H x y v u Q I rx ry h
  obtain ⟨m, k, rfl, rfl, k0, k1, m0, m1, m2, q⟩ := h
  obtain ⟨t, rfl⟩ := rx
  obtain ⟨t2, rfl⟩ := ry
  have hb : (k == 1 || m.length == 0) = false := by
    rw [Bool.or_eq_false_iff]
    exact ⟨by simp; omega, by simp; omega⟩
  refine PySem.P.mul_str ?_ (fun _ _ => ?_) (fun _ _ => ?_) ?_
  · rw [decide_eq_false (by omega), decide_eq_false (by omega)]
    rfl
  · have h1 : (2 ^ 63 - 1 : Int) / 1000000 ≤ (2 ^ 63 - 1) / k := by
      refine Int.le_ediv_of_mul_le (by omega) ?_
      have : (2 ^ 63 - 1 : Int) / 1000000 * k ≤ (2 ^ 63 - 1) / 1000000 * 1000000 := Int.mul_le_mul_of_nonneg_left (by omega) (by decide)
      omega
    have h2 : m.length ≤ 1000000 := by
      have : m.length * 1 ≤ m.length * k.toNat := Nat.mul_le_mul_left _ (by omega)
      omega
    omega
  · show decide (_ > _) = false
    refine decide_eq_false ?_
    have := sizeLine_eq
    omega
  · rw [if_neg (by omega), if_neg (by rw [hb]; exact Bool.false_ne_true)]
    refine ⟨?_, ⟨.str (repT m k), H, I.tok _, ⟨_, rfl⟩, q⟩⟩
    have h9 : (repT m k).length ≤ 1000000 := m2
    have := sizeLine_eq
    show (repT m k).length ≤ sizeLine
    omega
end
/-! ### a code object's table, as a thing that may grow -/
def TabX (P : Addr) : HO := .ext fun h => ∃ ps : Array Value, h.get? P = some { cls := .none, data := .fields ps } ∧ TriplesOk ps.toList
theorem tabX_ok {Pg : Program} {w : World} {H : Hp} {h : Heap} {P : Addr} {ps : Array Value} (e : h.get? P = some { cls := .none, data := .fields ps }) (t : TriplesOk ps.toList) : ObjOk Pg w H h P (TabX P) :=
  ⟨⟨ps, e, t⟩, ⟨_, e⟩, fun _ _ ⟨qs, q, r⟩ k => ⟨qs, k _ q, r⟩⟩
section
variable {X : Cx} {pins : List (Addr × Obj)} {σ : L2.St} {H : Hp} {s : Shared}
theorem inv_tabX {P : Addr} {ps : Array Value} {h' : Heap} {g' : Array GenState} {d' : Drawn} {t' : Nat} (I : Inv X pins σ H s) (hP : H P = some (TabX P)) (k : ∀ b o, b ≠ P → s.heap.get? b = some o → h'.get? b = some o)
    (hm : h'.get? P = some { cls := .none, data := .fields ps }) (ht : TriplesOk ps.toList) (hg : AllBare g') :
    Inv X pins σ H { s with heap := h', gens := g', drawn := d', toks := t' } := by
  have nN : ∀ b, H b = none → b ≠ P := fun b e z => by
    rw [z, hP] at e
    cases e
  refine I.step (g' := g') (d' := d') (ch := []) (fun b hb => absurd hb (by simp)) (fun b o _ _ _ e n => k b o (nN b n) e) (fun b o _ _ _ e n => ⟨o.slots, k b o (nN b n) e⟩)
    (fun b o _ e n => n) (fun b o _ e => ?_) (fun b xs e => e) (fun b o u e => e) (fun b qs e => ⟨#[], by rw [e]; simp⟩) (fun m hn => ?_) (fun b u e => ?_) hg
  · by_cases hb : b = P
    · rw [hb]
      exact ⟨_, hm⟩
    · exact ⟨o, k b o hb e⟩
  · obtain ⟨ob, es, ep, ho, r⟩ := hn
    exact ⟨ob, es, ep, k _ ob (nN _ I.free) ho, r⟩
  · by_cases hb2 : b = P
    · rw [hb2, hP] at e
      cases e
      rw [hb2]
      exact tabX_ok hm ht
    · refine (I.hok b u e).stay (fun d v hd q => k d v ?_ q) (fun d q => q) fun d xs q => q
      rcases hd with z | z
      · rw [z]
        exact hb2
      · intro y
        rw [y, hP] at z
        cases z
end
/-! ### a generator expression's turns -/
theorem over_cl {A : Around} {elt : Expr} {gs : List Comprehension} {sc : Scope} {p : Pos} {it acc : Value} {env : Env} : A.over (.compLoop (.GeneratorExp elt gs sc p) 0 it acc env) [] = A.deeper env := by
  first
    | rfl
    | (obtain ⟨hd, d, fr, gs, u⟩ := A; simp [Around.over, Around.deeper, marksOver, frameCount, unitsOf, envsOf, guardsOf, pushEnvs, pushGuards, Code.envs, Code.env?, Code.isFrame, Code.guards, Code.isGuard, Code.weight, Code.frames, Code.isCreation, Code.isCaller, Code.cUnits])
theorem over_cs {A : Around} {elt : Expr} {gs : List Comprehension} {sc : Scope} {p : Pos} {it acc : Value} {env : Env} : A.over (.compStart (.GeneratorExp elt gs sc p) 0 it acc env) [] = A.deeper env := by
  first
    | rfl
    | (obtain ⟨hd, d, fr, gs, u⟩ := A; simp [Around.over, Around.deeper, marksOver, frameCount, unitsOf, envsOf, guardsOf, pushEnvs, pushGuards, Code.envs, Code.env?, Code.isFrame, Code.guards, Code.isGuard, Code.weight, Code.frames, Code.isCreation, Code.isCaller, Code.cUnits])
/-- while it sleeps nothing is done to the heap -/
structure SleptZ (s s' : Shared) : Prop where
  os : s'.os = s.os
  bare : AllBare s'.gens
  heap : s'.heap = s.heap
theorem SleptZ.inv {X : Cx} {pins : List (Addr × Obj)} {σ : L2.St} {H : Hp} {s s' : Shared} (z : SleptZ s s') (I : Inv X pins σ H s) : Inv X pins σ H s' :=
  I.call' (ch := []) z.os (by rw [z.heap]; exact Un.refl) (by rw [z.heap]; exact I.hok) z.bare fun b hb => by simp at hb
def GzE (X : Cx) (H : Hp) : Nat → Shared → Shared → Prop := fun n _ s1 => n = 0 ∧ ∃ σ, Inv X [] σ H s1
def GzR (X : Cx) (H : Hp) : GenEnd := fun n s₀ r s1 => ((r = .ok (.ret .none) ∨ r = .ok .next) ∧ GzE X H n s₀ s1) ∨ ∃ e, r = .error e ∧ False
def GzY (X : Cx) (H : Hp) (tn : Nat → Heap → Prop) (len : Nat) (f : Nat → Bool) (Is : L2.St → Prop) : Protocol := fun n _ v s kap =>
  ∃ i σ, n + 1 + i = len ∧ v = .bool (f i) ∧ Inv X [] σ H s ∧ Is σ ∧ tn (i + 1) s.heap ∧ ∀ s', SleptZ s s' → kap (.send .none) s'
section
variable {X : Cx} {A : Around} {elt iter target : Expr} {scope : Scope} {pos : Pos} {it : Addr} {fp : List Addr} {tn : Nat → Heap → Prop} {J : It} {H : Hp} {g : TG} {te : TE} {n : Nat} {f : Nat → Bool} {Is : L2.St → Prop}
theorem seg_gx (hA : A.deeper X.env = X.A) (hxe : ∀ e s, ¬ X.xe e s) (hc : X.calm = true) (hco : X.env.scope.isCoroutine = false) (T : Turn X.prog X.w X.K target J fp it tn) (hg : PG X target g) (he : PE X elt te) (hfp : ∀ b ∈ fp, FpOk X [] H b)
    (hgo : ∀ i, i < n → J.go i H) (hst : J.stop n H) (step : ∀ i σ x H', i < n → Is σ → J.yld i H x H' → g x σ H' fun σ2 H2 => te σ2 H2 fun v H3 => v = .bl (f i) ∧ H3 = H ∧ Is σ2) :
    ∀ (k i : Nat) (s₀ s : Shared) (σ : L2.St), n - i = k → i ≤ n → Inv X [] σ H s → Is σ → tn i s.heap →
      Seg (model X.prog X.w) A (GzR X H) (GzY X H tn n f Is) (n - i) s₀ (.compLoop (.GeneratorExp elt [⟨target, iter, [], 0⟩] scope pos) 0 (.ref it) .none X.env)
        ((model X.prog X.w).den (.compLoop (.GeneratorExp elt [⟨target, iter, [], 0⟩] scope pos) 0 (.ref it) .none X.env)) [] s := by
  have stat : ∀ {H' : Hp}, (∀ b ∈ fp, H' b = none) → ∀ b ∈ fp, FpOk X [] H' b := fun hn b hb => ⟨hn b hb, (hfp b hb).2⟩
  intro k
  induction k with
  | zero =>
    intro i s₀ s σ hk hi I hs ht
    have hin : i = n := by omega
    subst hin
    show Seg _ A _ _ _ s₀ _ ((compTurn (.GeneratorExp elt [⟨target, iter, [], 0⟩] scope pos) 0 (.ref it) .none X.env).onRaise (leaving X.env)) [] s
    rw [compTurn_gen, Sem.onRaise_eq_wrap]
    refine seg_bind_wrap (wpAny_standAt ?_)
    refine seg_bind_wrap ?_
    rw [over_cl, hA]
    refine wpAny_mono (T.done X rfl rfl rfl hc i [] s σ H (fun _ _ => False) I hfp ht hst) (fun r s1 h1 => ?_) fun _ _ z => z.elim
    obtain ⟨rfl, I1⟩ := h1
    exact seg_end (.ok .next) (.inl ⟨.inr rfl, Nat.sub_self i, σ, I1⟩)
  | succ k ih =>
    intro i s₀ s σ hk hi I hs ht
    have hlt : i < n := by omega
    show Seg _ A _ _ _ s₀ _ ((compTurn (.GeneratorExp elt [⟨target, iter, [], 0⟩] scope pos) 0 (.ref it) .none X.env).onRaise (leaving X.env)) [] s
    rw [compTurn_gen, Sem.onRaise_eq_wrap]
    refine seg_bind_wrap (wpAny_standAt ?_)
    refine seg_bind_wrap ?_
    rw [over_cl, hA]
    refine wpAny_mono (T.item X rfl rfl rfl hc i [] s σ H (fun _ _ => False) I hfp ht (hgo i hlt)) (fun r s1 h1 => ?_) fun _ _ z => z.elim
    obtain ⟨u, rfl, h1⟩ := h1
    refine seg_bind_wrap ?_
    rw [over_cl, hA]
    refine wpAny_mono h1 (fun _ s2 h2 => ?_) fun _ _ z => z.elim
    obtain ⟨x, H2, I2, r2, y2, t2, f2⟩ := h2
    have I2' := I2.pinned (stat f2) (T.obj _ _ t2)
    refine seg_bind_wrap ?_
    rw [over_cl, hA]
    refine wpAny_mono (hg.run _ s2 σ H2 x u _ I2' r2 (step i σ x H2 hlt hs y2)) (fun _ s3 h3 => ?_) fun e s' z => (hxe e s' z).elim
    obtain ⟨σ3, H3, I3, q3⟩ := h3
    simp only [List.forIn_nil]
    refine seg_bind_wrap (wpAny_pure ?_)
    simp only [if_true]
    have hy : ∀ v, yieldOut X.env v = yieldValue v := fun v => by simp only [yieldOut, hco, Bool.false_eq_true, if_false]
    simp only [hy]
    rw [Sem.bind_eq_wrap', Sem.bind_eq_wrap', Sem.wrap_wrap, Sem.wrap_wrap]
    refine seg_wrap ?_
    rw [over_cl, hA]
    refine wpAny_mono (he.run _ s3 σ3 H3 _ I3 q3) (fun y s4 h4 => ?_) fun e s' z => (hxe e s' z).elim
    obtain ⟨v, H4, I4, r4, rfl, rfl, hs4⟩ := h4
    have r4 : y = .bool (f i) := r4
    subst r4
    have t4 : tn (i + 1) s4.heap := T.keep _ _ _ t2 fun b hb o e => (I4.pin (b, o) (List.mem_append_right _ (List.mem_append_right _ (mem_pinsAt hb e)))).1
    obtain ⟨m, hm⟩ : ∃ m, n - i = m + 1 := ⟨n - i - 1, by omega⟩
    rw [hm]
    refine seg_at (seg_yield rfl rfl rfl ⟨i, σ3, by omega, rfl, I4.unpinned, hs4, t4, fun s' z => ?_⟩)
    have e5 : m = n - (i + 1) := by omega
    rw [e5]
    exact seg_again rfl (ih (i + 1) s' s' σ3 (by omega) hlt (z.inv I4.unpinned) hs4 (by rw [z.heap]; exact t4))
theorem seg_gx0 (hA : A.deeper X.env = X.A) (hxe : ∀ e s, ¬ X.xe e s) (hc : X.calm = true) (hco : X.env.scope.isCoroutine = false) (T : Turn X.prog X.w X.K target J fp it tn) (hg : PG X target g) (he : PE X elt te) (hfp : ∀ b ∈ fp, FpOk X [] H b)
    (hgo : ∀ i, i < n → J.go i H) (hst : J.stop n H) (step : ∀ i σ x H', i < n → Is σ → J.yld i H x H' → g x σ H' fun σ2 H2 => te σ2 H2 fun v H3 => v = .bl (f i) ∧ H3 = H ∧ Is σ2)
    (s₀ s : Shared) (σ : L2.St) (I : Inv X [] σ H s) (hs : Is σ) (ht : tn 0 s.heap) :
    Seg (model X.prog X.w) A (GzR X H) (GzY X H tn n f Is) n s₀ (.compStart (.GeneratorExp elt [⟨target, iter, [], 0⟩] scope pos) 0 (.ref it) .none X.env)
      ((model X.prog X.w).den (.compStart (.GeneratorExp elt [⟨target, iter, [], 0⟩] scope pos) 0 (.ref it) .none X.env)) [] s := by
  have loop := seg_gx (iter := iter) (scope := scope) (pos := pos) hA hxe hc hco T hg he hfp hgo hst step n 0 s₀ s σ (Nat.sub_zero _) (Nat.zero_le _) I hs ht
  rw [Nat.sub_zero] at loop
  show Seg _ A _ _ _ s₀ _ ((compStart (.GeneratorExp elt [⟨target, iter, [], 0⟩] scope pos) 0 (.ref it) .none X.env).onRaise (leaving X.env)) [] s
  unfold compStart
  rw [Sem.onRaise_eq_wrap]
  show Seg _ A _ _ _ s₀ _ ((ask >>= _).wrap _ _ _ _) [] s
  refine seg_bind_wrap (wpAny_askSetting ?_)
  split
  · exact seg_again rfl loop
  · first
      | exact seg_bind_wrap (wpAny_rule (seg_bind_wrap (wpAny_standAt (seg_bind_wrap (T.self _ 0 s _ _ ht (seg_again rfl loop))))))
      | (refine seg_bind_wrap (wpAny_rule ?_); show Seg _ A _ _ _ s₀ _ ((standAt iter.pos >>= _).wrap _ _ _ _) [] s; exact seg_bind_wrap (wpAny_standAt (seg_bind_wrap (T.self _ 0 s _ _ ht (seg_again rfl loop)))))
end
/-! ### all, any: the generator is asked turn by turn -/
section
variable {X : Cx} {A : Around} {R : Result → Shared → Prop} {tn : Nat → Heap → Prop} {H : Hp} {n : Nat} {f : Nat → Bool} {Is : L2.St → Prop} {ga : Addr} {gi : Nat}
theorem range_drop1 {i n : Nat} (h : i < n) : (List.range n).drop i = i :: (List.range n).drop (i + 1) := by
  rw [List.drop_eq_getElem_cons (by simpa using h)]; simp
theorem slept_set {s : Shared} {x : GenState} (hb : AllBare s.gens) (hx : x.bare = true) : SleptZ s (s.setGen gi x) := ⟨rfl, allBare_setGen hb hx, rfl⟩
theorem slept_set2 {s : Shared} {x y : GenState} (hb : AllBare s.gens) (hx : x.bare = true) (hy : y.bare = true) : SleptZ s ((s.setGen gi x).setGen gi y) := ⟨rfl, allBare_setGen (allBare_setGen hb hx) hy, rfl⟩
theorem inv_fin {σ : L2.St} {s : Shared} {h' : Heap} (I : Inv X [] σ H s) (k : ∀ b o, s.heap.get? b = some o → h'.get? b = some o) : Inv X [] σ H { s.setGen gi .finished with heap := h' } :=
  I.call' (ch := []) rfl (Un.kept k) (I.hok.kept k) (allBare_setGen I.bare rfl) fun b hb => by simp at hb
theorem all_loopZ (hh : A.handled = none) (hd : A.depth < recursionLimit) (hgen : ∀ σ s, Inv X [] σ H s → s.heap.IsGen ga gi) :
    ∀ (k i : Nat) (s : Shared), n - i = k → i ≤ n → s.heap.IsGen ga gi → s.heap.NoLimit → (∃ gs, s.gens[gi]? = some gs ∧ gs.Goes (model X.prog X.w) A.in1.in1 (GzR X H) (GzY X H tn n f Is) (n - i) (.send .none) (s.setGen gi .running)) →
      (∀ σ s', Inv X [] σ H s' → R (.ok (.ret (.bool (((List.range n).drop i).all f)))) s') → codeAny (model X.prog X.w) A (.builtin "all.loop" ⟨[.ref ga], []⟩) R s := by
  intro k
  induction k with
  | zero =>
    intro i s hk hi hg hl hgs hR
    obtain ⟨gs, hgs, hgo⟩ := hgs
    have hin : i = n := by omega
    subst hin
    rw [Nat.sub_self] at hgo
    refine codeAny_builtin F.entry_all_loop ?_
    rw [Around.under_plainId F.plain_all_loop _]
    show wpAny _ A.in1 (pyNext (.ref ga) >>= _) _ _ s
    refine wpAny_bind (next_genG (A := A.in1) (F := GzE X H) (Er := fun _ _ => False) hh hl hd hg hgs hgo (fun v s₁ gs' hbare hv => ?_) (fun s₁ hp h' hk' => ?_) fun e s₁ he => he.elim)
    · obtain ⟨j, σ, hj, rfl, I, hs, ht, kap⟩ := hv
      exact False.elim (kap s₁ ⟨rfl, I.bare, rfl⟩)
    · obtain ⟨_, σ, I⟩ := hp
      refine wpAny_bind (wpAny_rule (wpAny_pure ?_))
      have := hR σ _ (inv_fin (gi := gi) I hk')
      rw [List.drop_of_length_le (by simp)] at this
      exact this
  | succ k ih =>
    intro i s hk hi hg hl hgs hR
    obtain ⟨gs, hgs, hgo⟩ := hgs
    have hlt : i < n := by omega
    have hgl : gi < s.gens.size := (Array.getElem?_eq_some_iff.mp hgs).1
    obtain ⟨m, hm⟩ : ∃ m, n - i = m + 1 := ⟨n - i - 1, by omega⟩
    rw [hm] at hgo
    refine codeAny_builtin F.entry_all_loop ?_
    rw [Around.under_plainId F.plain_all_loop _]
    show wpAny _ A.in1 (pyNext (.ref ga) >>= _) _ _ s
    refine wpAny_bind (GenW.wpAny_gsz (n := gi + 1) hgl (next_genG (A := A.in1) (F := GzE X H) (Er := fun _ _ => False) hh hl hd hg hgs hgo (fun v s₁ gs' hbare hv => ?_) (fun s₁ hp h' hk' => ?_) fun e s₁ he => he.elim))
    · intro hsz
      rw [GenW.setGen_size] at hsz
      obtain ⟨j, σ, hj, rfl, I, hs, ht, kap⟩ := hv
      have hji : j = i := by omega
      subst hji
      refine wpAny_bind (wpAny_holding (wpAny_truthy_bool ?_))
      refine wpAny_bind (wpAny_letGo ?_)
      have I' : Inv X [] σ H (s₁.setGen gi gs') := (slept_set I.bare hbare).inv I
      cases hb : f j with
      | true =>
        simp only [if_true]
        refine wpAny_pure ⟨plainId_quiet F.plain_all_loop _, ih (j + 1) _ (by omega) hlt (hgen σ _ I') I'.nolimit ⟨gs', setGen_at (by omega), ?_⟩ fun σ' s'' I'' => ?_⟩
        · have e5 : n - (j + 1) = m := by omega
          rw [e5]
          exact kap _ (slept_set2 I.bare hbare rfl)
        · have := hR σ' s'' I''
          rw [range_drop1 hlt, List.all_cons, hb, Bool.true_and] at this
          exact this
      | false =>
        simp only [Bool.false_eq_true, if_false]
        refine wpAny_bind (wpAny_rule (wpAny_pure ?_))
        have := hR σ _ I'
        rw [range_drop1 hlt, List.all_cons, hb, Bool.false_and] at this
        exact this
    · intro _
      obtain ⟨z, _⟩ := hp
      omega
theorem any_loopZ (hh : A.handled = none) (hd : A.depth < recursionLimit) (hgen : ∀ σ s, Inv X [] σ H s → s.heap.IsGen ga gi) :
    ∀ (k i : Nat) (s : Shared), n - i = k → i ≤ n → s.heap.IsGen ga gi → s.heap.NoLimit → (∃ gs, s.gens[gi]? = some gs ∧ gs.Goes (model X.prog X.w) A.in1.in1 (GzR X H) (GzY X H tn n f Is) (n - i) (.send .none) (s.setGen gi .running)) →
      (∀ σ s', Inv X [] σ H s' → R (.ok (.ret (.bool (((List.range n).drop i).any f)))) s') → codeAny (model X.prog X.w) A (.builtin "any.loop" ⟨[.ref ga], []⟩) R s := by
  intro k
  induction k with
  | zero =>
    intro i s hk hi hg hl hgs hR
    obtain ⟨gs, hgs, hgo⟩ := hgs
    have hin : i = n := by omega
    subst hin
    rw [Nat.sub_self] at hgo
    refine codeAny_builtin F.entry_any_loop ?_
    rw [Around.under_plainId F.plain_any_loop _]
    show wpAny _ A.in1 (pyNext (.ref ga) >>= _) _ _ s
    refine wpAny_bind (next_genG (A := A.in1) (F := GzE X H) (Er := fun _ _ => False) hh hl hd hg hgs hgo (fun v s₁ gs' hbare hv => ?_) (fun s₁ hp h' hk' => ?_) fun e s₁ he => he.elim)
    · obtain ⟨j, σ, hj, rfl, I, hs, ht, kap⟩ := hv
      exact False.elim (kap s₁ ⟨rfl, I.bare, rfl⟩)
    · obtain ⟨_, σ, I⟩ := hp
      refine wpAny_bind (wpAny_rule (wpAny_pure ?_))
      have := hR σ _ (inv_fin (gi := gi) I hk')
      rw [List.drop_of_length_le (by simp)] at this
      exact this
  | succ k ih =>
    intro i s hk hi hg hl hgs hR
    obtain ⟨gs, hgs, hgo⟩ := hgs
    have hlt : i < n := by omega
    have hgl : gi < s.gens.size := (Array.getElem?_eq_some_iff.mp hgs).1
    obtain ⟨m, hm⟩ : ∃ m, n - i = m + 1 := ⟨n - i - 1, by omega⟩
    rw [hm] at hgo
    refine codeAny_builtin F.entry_any_loop ?_
    rw [Around.under_plainId F.plain_any_loop _]
    show wpAny _ A.in1 (pyNext (.ref ga) >>= _) _ _ s
    refine wpAny_bind (GenW.wpAny_gsz (n := gi + 1) hgl (next_genG (A := A.in1) (F := GzE X H) (Er := fun _ _ => False) hh hl hd hg hgs hgo (fun v s₁ gs' hbare hv => ?_) (fun s₁ hp h' hk' => ?_) fun e s₁ he => he.elim))
    · intro hsz
      rw [GenW.setGen_size] at hsz
      obtain ⟨j, σ, hj, rfl, I, hs, ht, kap⟩ := hv
      have hji : j = i := by omega
      subst hji
      refine wpAny_bind (wpAny_holding (wpAny_truthy_bool ?_))
      refine wpAny_bind (wpAny_letGo ?_)
      have I' : Inv X [] σ H (s₁.setGen gi gs') := (slept_set I.bare hbare).inv I
      cases hb : f j with
      | false =>
        simp only [Bool.false_eq_true, if_false]
        refine wpAny_pure ⟨plainId_quiet F.plain_any_loop _, ih (j + 1) _ (by omega) hlt (hgen σ _ I') I'.nolimit ⟨gs', setGen_at (by omega), ?_⟩ fun σ' s'' I'' => ?_⟩
        · have e5 : n - (j + 1) = m := by omega
          rw [e5]
          exact kap _ (slept_set2 I.bare hbare rfl)
        · have := hR σ' s'' I''
          rw [range_drop1 hlt, List.any_cons, hb, Bool.false_or] at this
          exact this
      | true =>
        simp only [if_true]
        refine wpAny_bind (wpAny_rule (wpAny_pure ?_))
        have := hR σ _ I'
        rw [range_drop1 hlt, List.any_cons, hb, Bool.true_or] at this
        exact this
    · intro _
      obtain ⟨z, _⟩ := hp
      omega
end
/-! ### the generator's frame -/
structure GenZ (env : Env) (scope : Scope) : Prop where
  kind : scope.kind = .function
  co : scope.isCoroutine = false
  cell : ∀ y ∈ scope.names, y.2 ≠ .cell
  dot : scope.names.lookup (".0" : Str) = some NameKind.local
  free : ∀ y ∈ scope.names, y.2 = .free → ∃ c, env.cells.lookup y.1 = some c
def gX (X : Cx) (N : List Str) (scope : Scope) (code : Value) (fp : List Addr) (s : Shared) (H : Hp) (pn : List (Addr × Obj)) : Cx :=
  { prog := X.prog, w := X.w, K := X.K, mg := X.mg, base := X.base, A := X.A.in1.in1.deeper (genEnv scope (cloFrom X.env.cells scope.names []) s.heap.objs.size code builtinsNs X.env), N := N, s_0 := s, H_0 := H,
    env := genEnv scope (cloFrom X.env.cells scope.names []) s.heap.objs.size code builtinsNs X.env, outer := X.stack, stack := genEnv scope (cloFrom X.env.cells scope.names []) s.heap.objs.size code builtinsNs X.env :: X.stack,
    ex := fp, fn := fun _ => false, calm := true, pn := pn, xe := fun _ _ => False }
theorem clo_of {cells : List (Str × Addr)} {scope : Scope} {y : Str} {c : Addr} (hf : ∀ y ∈ scope.names, y.2 = .free → ∃ c, cells.lookup y.1 = some c) (h : (cloFrom cells scope.names []).lookup y = some c) : cells.lookup y = some c := by
  rcases cloFrom_mem (PySem.mem_of_lookup h) with z | ⟨z1, z2⟩
  · cases z
  · obtain ⟨d, hd⟩ := hf _ z1 rfl
    have hd : cells.lookup y = some d := hd
    rw [hd] at z2
    rw [z2]
    exact hd
theorem clo_has {cells : List (Str × Addr)} {scope : Scope} {y : Str} (h : scope.names.lookup y = some .free) : ∃ c, (cloFrom cells scope.names []).lookup y = some c := by
  have hm := cloFrom_has (cells := cells) (acc := []) (PySem.mem_of_lookup h)
  exact mem_lookup hm
section
variable {X : Cx} {pins : List (Addr × Obj)} {σ : L2.St} {H : Hp} {s : Shared} {N : List Str} {scope : Scope} {code : Value} {fp : List Addr} {pn : List (Addr × Obj)} {no : Nat} {cap : List Nat}
theorem gX_ok (I : Inv X pins σ H s) (hh : X.A.handled = none) (S : GenZ X.env scope) (f2 : ∀ b ∈ fp, FpOk X pins H b) (hlt : ∀ b ∈ fp, b < s.heap.objs.size) : (gX X N scope code fp s H pn).Ok where
  mod := I.ok.mod
  kind := S.kind
  glob := I.ok.glob
  blt := rfl
  above := Nat.le_refl _
  inj := fun x y c h1 h2 => I.ok.inj x y c (clo_of S.free h1) (clo_of S.free h2)
  has := fun x h => by
    rcases h with h | h
    · exact absurd rfl (S.cell _ (PySem.mem_of_lookup h))
    · exact clo_has h
  cab := fun _ _ z => nomatch z
  hd := fun _ => hh
  frames := by
    show ((X.A.in1.in1).deeper _).frames = _
    exact Around.frames_deeper I.ok.frames
  stk := .inr ⟨rfl, rfl⟩
  exf := fun b hb => ⟨Nat.ne_of_lt (hlt b hb), fun x c e => (f2 b hb).2.2.2.2.1 x c (clo_of S.free e)⟩
  bs := I.bs
  bsz := Nat.le_trans I.ok.bsz I.sz
  noex := fun b o e hb => by
    rcases (f2 b hb).2.2.2.1 with z | z
    · exact I.ok.noex b o e z
    · exact absurd (Nat.lt_of_lt_of_le (Heap.lt_size (I.ok.bs b o e).1) z) (Nat.lt_irrefl _)
  exfs := fun b hb hm => by
    rcases List.mem_cons.mp (I.stkSub b hm) with z | z
    · exact (f2 b hb).2.1 z
    · exact (f2 b hb).2.2.1 z
  funs := I.stack
  frf := I.stkFree
theorem gX_start {it : Value} {h' : Heap} {go : Obj} {gs : GenState} {tk : Nat} (I : Inv X pins σ H s) (hh : X.A.handled = none) (S : GenZ X.env scope) (f2 : ∀ b ∈ fp, FpOk X pins H b) (hlt : ∀ b ∈ fp, b < s.heap.objs.size)
    (hN : N.length = no + cap.length) (hcap : ∀ j ci, cap[j]? = some ci → ∃ y, N[no + j]? = some y ∧ X.N[ci]? = some y ∧ scope.names.lookup y = some .free ∧ (X.env.kindOf y = some .cell ∨ X.env.kindOf y = some .free))
    (hn : h'.Ns s.heap.objs.size (fun y => if y = ".0" then some it else none)) (hs : Heap.SameBut s.heap.objs.size (s.heap.push { cls := .type "frame", data := .dict #[] }) h') (hb : gs.bare = true) (hgo : ∀ v, go.data ≠ .cell v) (hfr : go.isFreed = false) :
    Inv (gX X N scope code fp s H [(h'.objs.size, go)]) [] (List.replicate no none ++ cap.map fun i => (σ[i]?).getD none) H { s with gens := s.gens.push gs, toks := tk, heap := h'.push go } := by
  have hsz : h'.objs.size = s.heap.objs.size + 1 := by rw [hs.1, Heap.size_push]
  have keep' : ∀ b o, s.heap.get? b = some o → (h'.push go).get? b = some o := fun b o e => Heap.get?_push_of_some _ (hs.extBut b o (Nat.ne_of_lt (Heap.lt_size e)) (Heap.get?_push_of_some _ e))
  have fresh : ∀ b, s.heap.objs.size ≤ b → H b = none := fun b hb => I.hok.fresh hb
  refine ⟨gX_ok I hh S f2 hlt, rfl, AllBare.push I.bare hb, Un.kept keep', ⟨_, hn.push _, fun j y v hj hv hvis => ?_⟩, fun y c e => ?_, fresh _ (Nat.le_refl _), fun y c e => I.freeC y c (clo_of S.free e), fun p hp => ?_, I.hok.kept keep', ?_⟩
  · by_cases hjn : j < no
    · rw [List.getElem?_append_left (by rw [List.length_replicate]; exact hjn), List.getElem?_replicate] at hv
      split at hv <;> cases hv
    · rw [List.getElem?_append_right (by rw [List.length_replicate]; omega), List.length_replicate, List.getElem?_map] at hv
      cases hc : cap[j - no]? with
      | none =>
        rw [hc] at hv
        cases hv
      | some ci =>
        rw [hc] at hv
        have hv : (σ[ci]?).getD none = some v := Option.some.inj hv
        obtain ⟨y', h1, h2, h3, h4⟩ := hcap (j - no) ci hc
        rw [show no + (j - no) = j by omega] at h1
        have e : y' = y := Option.some.inj (h1.symm.trans hj)
        subst e
        obtain ⟨m, hm, hloc⟩ := I.loc
        have hσ : σ[ci]? = some (some v) := by
          cases q : σ[ci]? with
          | none =>
            rw [q] at hv
            cases hv
          | some w =>
            rw [q] at hv
            have hv : w = some v := hv
            rw [hv]
        obtain ⟨u, ru, lk⟩ := hloc ci y' v h2 hσ (by
          rcases h4 with z | z
          · exact .inr (.inl z)
          · exact .inr (.inr z))
        refine ⟨u, ru, .inr ⟨.inr h3, ?_⟩⟩
        rcases lk with ⟨z, _⟩ | ⟨_, c, hc1, oc, hc2, hc3⟩
        · rcases h4 with z4 | z4
          · rw [z] at z4
            cases z4
          · rw [z] at z4
            cases z4
        · obtain ⟨c', hc'⟩ := clo_has (cells := X.env.cells) h3
          have := clo_of S.free hc'
          rw [hc1] at this
          cases this
          exact ⟨c, hc', oc, keep' _ _ hc2, hc3⟩
  · obtain ⟨v, oc, h1, h2⟩ := I.cell y c (clo_of S.free e)
    exact ⟨v, oc, keep' _ _ h1, h2⟩
  · have hp : p ∈ [(h'.objs.size, go)] ++ [] := hp
    have hp : p = (h'.objs.size, go) := by simpa using hp
    subst hp
    refine ⟨Heap.get?_push_size _ hfr, fresh _ (by show s.heap.objs.size ≤ h'.objs.size; omega), by show h'.objs.size ≠ s.heap.objs.size; omega, fun hm => ?_, hgo⟩
    rcases List.mem_cons.mp (I.stkSub _ hm) with z | z
    · have := I.lt
      rw [← z] at this
      have this : h'.objs.size < s.heap.objs.size := this
      omega
    · exact I.nofs (show s.heap.objs.size ≤ h'.objs.size by omega) z
  · show _ = N.length
    rw [List.length_append, List.length_replicate, List.length_map, hN]
end
/-! ### the rules -/
/-- all(elt for target in iter), any(..): P: the running def's table; no: how many names are the generator's own; cap: the captured ones, by the def's slots -/
def tGz (op : (Nat → Bool) → Nat → Bool) (P : Addr) (no : Nat) (cap : List Nat) (wi : TI) (g : TG) (te : TE) : TE := fun σ H Q => wi σ H fun J H1 => ∃ (n : Nat) (f : Nat → Bool) (Is : L2.St → Prop), H1 P = some (TabX P) ∧
  Is (List.replicate no none ++ cap.map fun i => (σ[i]?).getD none) ∧ (∀ i, i < n → J.go i H1) ∧ J.stop n H1 ∧
  (∀ i σ' x H', i < n → Is σ' → J.yld i H1 x H' → g x σ' H' fun σ2 H2 => te σ2 H2 fun v H3 => v = .bl (f i) ∧ H3 = H1 ∧ Is σ2) ∧ Q (.bl (op f n)) H1
def opAll (f : Nat → Bool) (n : Nat) : Bool := (List.range n).all f
def opAny (f : Nat → Bool) (n : Nat) : Bool := (List.range n).any f
section
variable {X : Cx} {c P : Addr} {elt iter target : Expr} {p pos gpos : Pos} {scope : Scope} {N : List Str} {no : Nat} {cap : List Nat} {wi : TI} {g : TG} {te : TE} {k : Nat} {Q' : Value → Shared → Prop} {pins : List (Addr × Obj)} {σ : L2.St} {H : Hp} {s : Shared} {op : (Nat → Bool) → Nat → Bool}
/-- the generator is made: its context, ready to be asked -/
def ReadyZ (X : Cx) (pins : List (Addr × Obj)) (σ : L2.St) (H1 : Hp) (n : Nat) (f : Nat → Bool) (ga : Addr) (s5 : Shared) : Prop :=
  ∃ (Y : Cx) (tn : Nat → Heap → Prop) (Is : L2.St → Prop) (gi : Nat), Y.prog = X.prog ∧ Y.w = X.w ∧ s5.heap.IsGen ga gi ∧ s5.heap.NoLimit ∧ (∀ σ' s', Inv Y [] σ' H1 s' → s'.heap.IsGen ga gi) ∧
    (∃ gs, s5.gens[gi]? = some gs ∧ gs.Goes (model X.prog X.w) X.A.in1.in1 (GzR Y H1) (GzY Y H1 tn n f Is) n (.send .none) (s5.setGen gi .running)) ∧ ∀ σ' s', Inv Y [] σ' H1 s' → Inv X pins σ H1 s'
theorem gen_make (hr : Room (k + 3) X.A) (hT : GxR.TabB X.base X.mg c P) (hcode : X.env.code = .ref c) (S : GenZ X.env scope) (hi : PI X target iter wi)
    (hN : N.length = no + cap.length) (hcap : ∀ j ci, cap[j]? = some ci → ∃ y, N[no + j]? = some y ∧ X.N[ci]? = some y ∧ scope.names.lookup y = some .free ∧ (X.env.kindOf y = some .cell ∨ X.env.kindOf y = some .free))
    (hg : ∀ code fp s H pn, Room k (gX X N scope code fp s H pn).A → PG (gX X N scope code fp s H pn) target g) (he : ∀ code fp s H pn, Room k (gX X N scope code fp s H pn).A → PE (gX X N scope code fp s H pn) elt te)
    (hs : ∀ v, genFold iter X.env v = pure v) (I : Inv X pins σ H s) {Q : VK} (h : tGz op P no cap wi g te σ H Q)
    (hQ : ∀ H1 n f ga s5, Q (.bl (op f n)) H1 → ReadyZ X pins σ H1 n f ga s5 → Q' (.ref ga) s5) :
    wpAny (model X.prog X.w) X.A (eval (.GeneratorExp elt [⟨target, iter, [], 0⟩] scope gpos) X.env) Q' X.xe s := by
  refine wpAny_GeneratorExp_make S.co (closure_ok S.free) S.cell S.dot S.kind (by have := hr.dp; omega) ?_ hs
  refine thn (hi.run pins s σ H _ I h) fun xv s1 h1 => thn h1 fun itv s2 h2 => ?_
  obtain ⟨it, fp, tn, J, H2, rfl, I2, T, t2, f2, n, f, Is, hP, hs0, hgo, hst, step, q⟩ := h2
  refine ⟨I2.nolimit, ?_⟩
  obtain ⟨⟨ps, hPs, ht⟩, _, _⟩ := I2.hok P _ hP
  have cd : PySem.W.CodeHd s2.heap c P := hT.code.keeps fun b u e => I2.bk b u e
  have cont : ∀ (code : Value) (h3 : Heap) (tk : Nat) (ps' : Array Value), Heap.ExtBut P s2.heap h3 → h3.get? P = some { cls := .none, data := .fields ps' } → TriplesOk ps'.toList →
      wpAny (model X.prog X.w) X.A (builtinsFor X.env.globals X.env.builtins) (fun bi s₄ =>
        ∀ h', h'.Ns s₄.heap.objs.size (fun y => if y = ".0" then some (.ref it) else none) → Heap.SameBut s₄.heap.objs.size (s₄.heap.push { cls := .type "frame", data := .dict #[] }) h' →
          Q' (.ref h'.objs.size) { s₄ with
            gens := s₄.gens.push (.fresh (.compStart (.GeneratorExp elt [⟨target, iter, [], 0⟩] scope gpos) 0 (.ref it) .none (genEnv scope (cloFrom X.env.cells scope.names []) s₄.heap.objs.size code bi X.env))),
            toks := s₄.toks + 1 + 1 + 1,
            heap := h'.push { cls := .type "generator", data := .fields #[.int s₄.gens.size 0, .str "<genexpr>" (s₄.toks + 1), .str (X.env.qual ++ "<genexpr>") (s₄.toks + 1 + 1)] } }) X.xe { s2 with heap := h3, toks := tk } := by
    intro code h3 tk ps' hx hP3 ht3
    have I3 : Inv X pins σ H2 { s2 with heap := h3, toks := tk } := inv_tabX (g' := s2.gens) (d' := s2.drawn) I2 hP (fun b o hb e => hx b o hb e) hP3 ht3 I2.bare
    have nfp : ∀ b ∈ fp, b ≠ P := fun b hb z => by
      have := (f2 b hb).1
      rw [z, hP] at this
      cases this
    have t3 : tn 0 h3 := T.keep _ _ _ t2 fun b hb o e => hx b o (nfp b hb) e
    have hlt : ∀ b ∈ fp, b < h3.objs.size := fun b hb => by
      obtain ⟨o, e, _⟩ := T.obj _ _ t3 b hb
      exact Heap.lt_size e
    obtain ⟨bm, ob, e1, e2, e3, e4, e5, e6, e7, e8⟩ := hT.bm
    refine wpAny_builtinsFor (m := X.mg) (by rw [I3.ok.glob]; exact I3.mod.glob.keeps I3.bk) e1 e2 (I3.bk _ _ e5) e6 e7 e8 ?_
    intro h' hn hsb
    have IG := gX_start (N := N) (scope := scope) (code := code) (fp := fp) (no := no) (cap := cap) (it := .ref it) (h' := h')
      (go := { cls := .type "generator", data := .fields #[.int s2.gens.size 0, .str "<genexpr>" (tk + 1), .str (X.env.qual ++ "<genexpr>") (tk + 1 + 1)] })
      (gs := .fresh (.compStart (.GeneratorExp elt [⟨target, iter, [], 0⟩] scope gpos) 0 (.ref it) .none (genEnv scope (cloFrom X.env.cells scope.names []) h3.objs.size code builtinsNs X.env))) (tk := tk + 1 + 1 + 1)
      I3 hr.hd S f2 hlt hN hcap hn hsb rfl (fun v z => by cases z) rfl
    have rg : Room k (gX X N scope code fp { s2 with heap := h3, toks := tk } H2 [(h'.objs.size, { cls := .type "generator", data := .fields #[.int s2.gens.size 0, .str "<genexpr>" (tk + 1), .str (X.env.qual ++ "<genexpr>") (tk + 1 + 1)] })]).A := hr.in1.in1.deeper _
    have hsz : h'.objs.size = h3.objs.size + 1 := by
      have := hsb.1
      rw [Heap.size_push] at this
      exact this
    have keep' : ∀ {go : Obj} b o, h3.get? b = some o → (h'.push go).get? b = some o := fun b o e => Heap.get?_push_of_some _ (hsb.extBut b o (Nat.ne_of_lt (Heap.lt_size e)) (Heap.get?_push_of_some _ e))
    have fG : ∀ b ∈ fp, FpOk (gX X N scope code fp { s2 with heap := h3, toks := tk } H2 [(h'.objs.size, { cls := .type "generator", data := .fields #[.int s2.gens.size 0, .str "<genexpr>" (tk + 1), .str (X.env.qual ++ "<genexpr>") (tk + 1 + 1)] })]) [] H2 b := fun b hb => by
      refine ⟨(f2 b hb).1, Nat.ne_of_lt (hlt b hb), fun hm => ?_, .inl hb, fun x c' e => (f2 b hb).2.2.2.2.1 x c' (clo_of S.free e), fun p hp => ?_⟩
      · rcases List.mem_cons.mp (I3.stkSub b hm) with z | z
        · exact (f2 b hb).2.1 z
        · exact (f2 b hb).2.2.1 z
      · have hp : p ∈ [(h'.objs.size, ({ cls := .type "generator", data := .fields #[.int s2.gens.size 0, .str "<genexpr>" (tk + 1), .str (X.env.qual ++ "<genexpr>") (tk + 1 + 1)] } : Obj))] ++ [] := hp
        have hp1 : p.1 = h'.objs.size := by
          rcases List.mem_cons.mp hp with z | z
          · rw [z]
          · cases z
        have := hlt b hb
        rw [hp1]
        exact Ne.symm (Nat.ne_of_lt (Nat.lt_of_lt_of_le this (by rw [hsz]; exact Nat.le_succ _)))
    refine hQ H2 n f _ _ q ⟨gX X N scope code fp { s2 with heap := h3, toks := tk } H2 [(h'.objs.size, { cls := .type "generator", data := .fields #[.int s2.gens.size 0, .str "<genexpr>" (tk + 1), .str (X.env.qual ++ "<genexpr>") (tk + 1 + 1)] })], tn, Is, s2.gens.size, rfl, rfl, ⟨_, _, _, Heap.get?_push_size _ rfl, rfl, rfl, rfl⟩, IG.nolimit, fun σ' s' I' => ?_, ⟨_, Array.getElem?_push_size .., rfl, ?_⟩, fun σ' s' I' => ?_⟩
    · exact ⟨_, _, _, (I'.pin _ (List.mem_append_left _ List.mem_cons_self)).1, rfl, rfl, rfl⟩
    · refine seg_gx0 (X := gX X N scope code fp { s2 with heap := h3, toks := tk } H2 [(h'.objs.size, { cls := .type "generator", data := .fields #[.int s2.gens.size 0, .str "<genexpr>" (tk + 1), .str (X.env.qual ++ "<genexpr>") (tk + 1 + 1)] })]) (iter := iter) (scope := scope) (pos := gpos) rfl (fun _ _ z => z) rfl S.co T (hg _ _ _ _ _ rg) (he _ _ _ _ _ rg) fG hgo hst step _ _ _ (SleptZ.inv ?_ IG) hs0 (T.keep _ _ _ t3 fun b hb o e => keep' b o e)
      exact slept_set IG.bare rfl
    · exact I3.call' (ch := fp) I'.os I'.base I'.hok I'.bare fun b hb => ⟨(f2 b hb).2.2.2.1, (f2 b hb).2.1, (f2 b hb).2.2.2.2.1, (f2 b hb).2.2.2.2.2⟩
  cases hf : codeAmong gpos ps.toList with
  | none =>
    refine wpAny_genexprCodeX hcode (cd.code hPs ht) (cd.tab hPs) hf fun c' h' tk hx hge hlt hco' _ htab' _ => ?_
    obtain ⟨o1, vs, f1, tf, fl, tg, inF, tx, tt, op, _, _, _, _, _, _, _, _, _, htr, _⟩ := hco'
    exact cont _ h' tk _ hx htab'.2 htr
  | some cv =>
    refine wpAny_genexprCode_hit hcode (cd.code hPs ht) hf ?_
    exact cont cv s2.heap s2.toks ps (Heap.ExtBut.refl _ _) hPs ht
theorem pe_allZ (hr : Room (k + 3) X.A) (hgl : Gl X "all") (hm : X.mg "all" = none) (hT : GxR.TabB X.base X.mg c P) (hcode : X.env.code = .ref c) (S : GenZ X.env scope) (hi : PI X target iter wi)
    (hN : N.length = no + cap.length) (hcap : ∀ j ci, cap[j]? = some ci → ∃ y, N[no + j]? = some y ∧ X.N[ci]? = some y ∧ scope.names.lookup y = some .free ∧ (X.env.kindOf y = some .cell ∨ X.env.kindOf y = some .free))
    (hg : ∀ code fp s H pn, Room k (gX X N scope code fp s H pn).A → PG (gX X N scope code fp s H pn) target g) (he : ∀ code fp s H pn, Room k (gX X N scope code fp s H pn).A → PE (gX X N scope code fp s H pn) elt te)
    (hs : ∀ v, genFold iter X.env v = pure v := by intro _; rfl)
    (hst : starEach [.GeneratorExp elt [⟨target, iter, [], 0⟩] scope gpos] X.env = (false, eval (.GeneratorExp elt [⟨target, iter, [], 0⟩] scope gpos) X.env) :: starEach [] X.env := by rfl) :
    PE X (.Call (.Name "all" p) [.GeneratorExp elt [⟨target, iter, [], 0⟩] scope gpos] [] pos) (tGz opAll P no cap wi g te) := by
  refine ⟨fun pins s σ H Q I h => ?_⟩
  refine wpAny_Call_Name_kw (ld_blt I hgl hm boot_all ?_)
  refine PyProof.Rows.callWith_builtin1 ?_ hst (by rfl)
  rw [hst]
  show wpAny _ _ (spliced ((false, eval (.GeneratorExp elt [⟨target, iter, [], 0⟩] scope gpos) X.env) :: backTo pos (starEach [] X.env))) _ _ s
  refine Calls.spliced_cons (gen_make hr hT hcode S hi hN hcap hg he hs I h fun H1 n f ga s5 hq hG => ?_)
  refine Calls.spliced_nil ?_
  obtain ⟨Y, tn, Is, gi, hp, hw, hgen, hl, hpin, hgo, hend⟩ := hG
  refine call_function_tree F.kind_all F.plain_all F.entry_all (F.args_all1 _) ?_
  unfold Builtin.«all»
  refine wpAny_bind (m := oneArg "all" _) (wpAny_pure ?_)
  refine wpAny_bind (wpAny_pyIter_gen hgen ?_)
  rw [← hp, ← hw] at hgo ⊢
  refine wpAny_pure ⟨plainId_quiet F.plain_all_loop _, all_loopZ (X := Y) (A := X.A) (tn := tn) (H := H1) (n := n) (f := f) (Is := Is) hr.hd (by have := hr.dp; omega) hpin n 0 s5 (Nat.sub_zero _) (Nat.zero_le _) hgen hl hgo fun σ' s' I' => ?_⟩
  exact ⟨.bl _, H1, hend σ' s' I', rfl, hq⟩
theorem pe_anyZ (hr : Room (k + 3) X.A) (hgl : Gl X "any") (hm : X.mg "any" = none) (hT : GxR.TabB X.base X.mg c P) (hcode : X.env.code = .ref c) (S : GenZ X.env scope) (hi : PI X target iter wi)
    (hN : N.length = no + cap.length) (hcap : ∀ j ci, cap[j]? = some ci → ∃ y, N[no + j]? = some y ∧ X.N[ci]? = some y ∧ scope.names.lookup y = some .free ∧ (X.env.kindOf y = some .cell ∨ X.env.kindOf y = some .free))
    (hg : ∀ code fp s H pn, Room k (gX X N scope code fp s H pn).A → PG (gX X N scope code fp s H pn) target g) (he : ∀ code fp s H pn, Room k (gX X N scope code fp s H pn).A → PE (gX X N scope code fp s H pn) elt te)
    (hs : ∀ v, genFold iter X.env v = pure v := by intro _; rfl)
    (hst : starEach [.GeneratorExp elt [⟨target, iter, [], 0⟩] scope gpos] X.env = (false, eval (.GeneratorExp elt [⟨target, iter, [], 0⟩] scope gpos) X.env) :: starEach [] X.env := by rfl) :
    PE X (.Call (.Name "any" p) [.GeneratorExp elt [⟨target, iter, [], 0⟩] scope gpos] [] pos) (tGz opAny P no cap wi g te) := by
  refine ⟨fun pins s σ H Q I h => ?_⟩
  refine wpAny_Call_Name_kw (ld_blt I hgl hm boot_any ?_)
  refine PyProof.Rows.callWith_builtin1 ?_ hst (by rfl)
  rw [hst]
  show wpAny _ _ (spliced ((false, eval (.GeneratorExp elt [⟨target, iter, [], 0⟩] scope gpos) X.env) :: backTo pos (starEach [] X.env))) _ _ s
  refine Calls.spliced_cons (gen_make hr hT hcode S hi hN hcap hg he hs I h fun H1 n f ga s5 hq hG => ?_)
  refine Calls.spliced_nil ?_
  obtain ⟨Y, tn, Is, gi, hp, hw, hgen, hl, hpin, hgo, hend⟩ := hG
  refine call_function_tree F.kind_any F.plain_any F.entry_any (F.args_any1 _) ?_
  unfold Builtin.«any»
  refine wpAny_bind (m := oneArg "any" _) (wpAny_pure ?_)
  refine wpAny_bind (wpAny_pyIter_gen hgen ?_)
  rw [← hp, ← hw] at hgo ⊢
  refine wpAny_pure ⟨plainId_quiet F.plain_any_loop _, any_loopZ (X := Y) (A := X.A) (tn := tn) (H := H1) (n := n) (f := f) (Is := Is) hr.hd (by have := hr.dp; omega) hpin n 0 s5 (Nat.sub_zero _) (Nat.zero_le _) hgen hl hgo fun σ' s' I' => ?_⟩
  exact ⟨.bl _, H1, hend σ' s' I', rfl, hq⟩
end
/-! ### a set comprehension of whole numbers, and how many it has -/
/-- which numbers are among the first n of f; how many unlike ones these are -/
def memD (f : Nat → Int) : Nat → Int → Bool
  | 0 => fun _ => false
  | n + 1 => fun j => memD f n j || decide (j = f n)
def cntD (f : Nat → Int) : Nat → Nat
  | 0 => 0
  | n + 1 => if memD f n (f n) = true then cntD f n else cntD f n + 1
theorem cntD_le (f : Nat → Int) : ∀ n, cntD f n ≤ n
  | 0 => Nat.le_refl 0
  | n + 1 => by
    have := cntD_le f n
    unfold cntD
    split <;> omega
theorem memD_iff (f : Nat → Int) : ∀ (n : Nat) (j : Int), memD f n j = true ↔ ∃ i, i < n ∧ f i = j
  | 0, j => Iff.intro (fun z => nomatch (show false = true from z)) (fun h => by
    obtain ⟨i, h, _⟩ := h
    exact absurd h (Nat.not_lt_zero i))
  | n + 1, j => by
    show (memD f n j || decide (j = f n)) = true ↔ _
    rw [Bool.or_eq_true, memD_iff f n j, decide_eq_true_eq]
    constructor
    · intro h
      rcases h with ⟨i, h1, h2⟩ | h
      · exact ⟨i, by omega, h2⟩
      · exact ⟨n, Nat.lt_succ_self n, h.symm⟩
    · intro h
      obtain ⟨i, h1, h2⟩ := h
      by_cases z : i = n
      · subst z
        exact .inr h2.symm
      · exact .inl ⟨i, by omega, h2⟩
theorem cntD_all (f : Nat → Int) : ∀ n : Nat, cntD f n = n ↔ ∀ i j, i < j → j < n → f i ≠ f j
  | 0 => Iff.intro (fun _ i j _ h => absurd h (Nat.not_lt_zero j)) (fun _ => rfl)
  | n + 1 => by
    have ih := cntD_all f n
    have hl := cntD_le f n
    unfold cntD
    by_cases z : memD f n (f n) = true
    · rw [if_pos z]
      obtain ⟨i, h1, h2⟩ := (memD_iff f n _).mp z
      exact ⟨fun e => absurd e (by omega), fun h => absurd h2 (h i n h1 (Nat.lt_succ_self n))⟩
    · rw [if_neg z]
      constructor
      · intro e i j h1 h2
        by_cases y : j = n
        · subst y
          exact fun w => z ((memD_iff f j _).mpr ⟨i, h1, w⟩)
        · exact ih.mp (by omega) i j h1 (by omega)
      · intro h
        rw [ih.mpr fun i j h1 h2 => h i j h1 (by omega)]
/-- {elt for target in iter}, elt a whole number, by a walk that leaves the heap as it is -/
def tScI (w : World) (wi : TI) (g : TG) (te : TE) (vs : List Nat) : TE := fun σ H Q => wi σ H fun J H1 => ∃ (n : Nat) (f : Nat → Int), n ≤ 4000 ∧ ∀ D, H1 D = none →
  (∀ k, k ≤ n → J.stop n (upd H1 D (SetO w D (memD f k) (cntD f k))) ∧ ∀ i, i < n → J.go i (upd H1 D (SetO w D (memD f k) (cntD f k))) ∧ ∀ x H2, J.yld i (upd H1 D (SetO w D (memD f k) (cntD f k))) x H2 →
    g x (wipe σ vs) H2 fun σ2 H3 => wipe σ2 vs = wipe σ vs ∧ te σ2 H3 fun y H4 => y = .int (f i) ∧ H4 = upd H1 D (SetO w D (memD f k) (cntD f k))) ∧
  Q (.ref D) (upd H1 D (SetO w D (memD f n) (cntD f n)))
section
variable {X : Cx} {elt tg iter : Expr} {scope : Scope} {own : List (Str × Nat)} {pos : Pos} {wi : TI} {g : TG} {te : TE}
theorem addI_ok {pins : List (Addr × Obj)} {σ : L2.St} {H1 : Hp} {s : Shared} {E : Value → Shared → Prop} {D : Addr} {f : Nat → Int} {i : Nat} {t : Tok} {Q : Value → Shared → Prop} (I : Inv X pins σ (upd H1 D (SetO X.w D (memD f i) (cntD f i))) s) (hi : i ≤ 4000)
    (h : ∀ s', Inv X pins σ (upd H1 D (SetO X.w D (memD f (i + 1)) (cntD f (i + 1)))) s' → Q .none s') : wpAny (model X.prog X.w) X.A (call (.builtin "set.add") [.ref D, .int (f i) t]) Q E s := by
  have R := setO_get I (a := D) upd_same
  have hl := cntD_le f i
  refine setR_add R (by unfold scanBound; omega) fun h' sb new => ?_
  have hex : ∃ u, h'.get? D = some u := by
    obtain ⟨o, _, _, _, ho, _⟩ := id new
    exact ⟨o, ho⟩
  have J := I.write (x := D) (e := D) (o := SetO X.w D (memD f (i + 1)) (cntD f (i + 1))) (t' := s.toks + 1) (by rw [upd_same]; trivial) (.inl rfl) (fun b u hb hu => (sb.2 b hb).trans hu) hex (setO_new new)
  rw [upd_upd] at J
  exact h _ J
theorem pe_scI (hc : X.calm = true) (hN : X.N.Nodup) (hi : PI X tg iter wi) (ok : BlkOk X.N X.env.scope scope own)
    (hg : ∀ (s : Shared) (H : Hp) (C : Addr) (cl : List (Str × Addr)) (fp : List Addr), PG (X.blk s H scope (compEnvC scope cl C X.env) fp) tg g)
    (he : ∀ (s : Shared) (H : Hp) (C : Addr) (cl : List (Str × Addr)) (fp : List Addr), PE (X.blk s H scope (compEnvC scope cl C X.env) fp) elt te) (hs : ∀ x, foldedSetIterable iter X.env x = pure x := by intro _; rfl) :
    PE X (.SetComp elt [⟨tg, iter, [], 0⟩] scope pos) (tScI X.w wi g te (own.map (·.2))) := by
  refine ⟨fun pins s σ H Q I h => ?_⟩
  rw [PpSet.eval_SetComp]
  have hcl : ∀ y ∈ scope.names, y.2 = .free → ∃ c, X.env.cells.lookup y.1 = some c := fun y hy e => I.ok.has _ (ok.free y hy e)
  refine wpAny_comprehension_free (use := none) rfl hs (closure_ok hcl) ok.kind (fun y hy e => by rw [ok.uniq y hy, e]) (thn (hi.run pins s σ H _ I h) fun xv s1 hx => thn hx fun itv s2 h2 => ?_)
  obtain ⟨it, fp, tn, J, H1, rfl, I2, T, t2, f2, n, f, hn, hq⟩ := h2
  refine PpSet.newSet_ok (newEnv_comp ?_)
  have hD : H1 s2.heap.objs.size = none := I2.hok.fresh (Nat.le_refl _)
  obtain ⟨hgo, q⟩ := hq _ hD
  have I3 : Inv X pins σ (upd H1 s2.heap.objs.size (SetO X.w s2.heap.objs.size (memD f 0) (cntD f 0))) { s2 with heap := s2.heap.push { cls := .type "set", dict := none, data := .set #[] 0 (.fresh 0 0 (!X.w.params.followText "set-order")) } } :=
    I2.laid (t' := s2.toks) (fun b o e => Heap.get?_push_of_some _ e) (Nat.le_refl _) (setO_new (setR_fresh X.w))
  have t3 : tn 0 (s2.heap.push { cls := .type "set", dict := none, data := .set #[] 0 (.fresh 0 0 (!X.w.params.followText "set-order")) }) := T.keep _ _ _ t2 fun b _ o e => Heap.get?_push_of_some _ e
  have hlt : ∀ b ∈ fp, b < s2.heap.objs.size := fun b hb => by
    obtain ⟨o, e, _⟩ := T.obj _ _ t2 b hb
    exact Heap.lt_size e
  have nD : ∀ b ∈ fp, b ≠ s2.heap.objs.size := fun b hb => Nat.ne_of_lt (hlt b hb)
  have hsz3 : (s2.heap.push { cls := .type "set", dict := none, data := .set #[] 0 (.fresh 0 0 (!X.w.params.followText "set-order")) }).objs.size = s2.heap.objs.size + 1 := Heap.size_push ..
  revert I3 t3 q hgo nD hsz3
  generalize s2.heap.push { cls := .type "set", dict := none, data := .set #[] 0 (.fresh 0 0 (!X.w.params.followText "set-order")) } = h3
  generalize s2.heap.objs.size = D at hlt hD ⊢
  intro hgo q I3 t3 nD hsz3
  have f3 : ∀ b ∈ fp, FpOk X pins (upd H1 D (SetO X.w D (memD f 0) (cntD f 0))) b ∧ b < h3.objs.size := fun b hb =>
    ⟨⟨by rw [upd_ne (nD b hb)]; exact (f2 b hb).1, (f2 b hb).2⟩, by rw [hsz3]; exact Nat.lt_succ_of_lt (hlt b hb)⟩
  have I4 := block_start I3 ok hN f3
  have pg := hg { s2 with heap := h3 } (upd H1 D (SetO X.w D (memD f 0) (cntD f 0))) h3.objs.size (cellsFrom (h3.objs.size + 1) scope.names (cloFrom X.env.cells scope.names [])) fp
  have pe := he { s2 with heap := h3 } (upd H1 D (SetO X.w D (memD f 0) (cntD f 0))) h3.objs.size (cellsFrom (h3.objs.size + 1) scope.names (cloFrom X.env.cells scope.names [])) fp
  have t4 : tn 0 (pushCells (h3.push { cls := .type "dict", data := .dict #[] }) scope.names) := T.keep _ _ _ t3 fun b _ o e => pushCells_keeps _ _ _ _ (Heap.get?_push_of_some _ e)
  have nfp : ∀ k, ∀ b ∈ fp, upd H1 D (SetO X.w D (memD f k) (cntD f k)) b = none := fun k b hb => by
    rw [upd_ne (nD b hb)]
    exact (f2 b hb).1
  show codeAny _ _ (.compStart (.SetComp elt [⟨tg, iter, [], 0⟩] scope pos) 0 (.ref it) (.ref D) (compEnvC scope (cellsFrom (h3.objs.size + 1) scope.names (cloFrom X.env.cells scope.names [])) h3.objs.size X.env)) (compPost (model X.prog X.w) X.A X.xe none (EP X pins σ Q) (.ref D) h3.objs.size) { s2 with heap := pushCells (h3.push { cls := .type "dict", data := .dict #[] }) scope.names }
  generalize hce : compEnvC scope (cellsFrom (h3.objs.size + 1) scope.names (cloFrom X.env.cells scope.names [])) h3.objs.size X.env = ce at I4 pg pe ⊢
  have cL : ce.locals = h3.objs.size := by rw [← hce]; rfl
  have stat : ∀ {k : Nat} {σ' : L2.St} {s' : Shared}, Inv (X.blk { s2 with heap := h3 } (upd H1 D (SetO X.w D (memD f 0) (cntD f 0))) scope ce fp) [] σ' (upd H1 D (SetO X.w D (memD f k) (cntD f k))) s' →
      ∀ b ∈ fp, FpOk (X.blk { s2 with heap := h3 } (upd H1 D (SetO X.w D (memD f 0) (cntD f 0))) scope ce fp) [] (upd H1 D (SetO X.w D (memD f k) (cntD f k))) b := fun {k σ' s'} I' b hb =>
    ⟨nfp k b hb, (I'.ok.exf b hb).1, I'.ok.exfs b hb, .inl hb, fun x c e => (I'.ok.exf b hb).2 x c e, fun p hp => nomatch (show p ∈ ([] : List (Addr × Obj)) from hp)⟩
  have loop : codeAny (model X.prog X.w) X.A (.compLoop (.SetComp elt [⟨tg, iter, [], 0⟩] scope pos) 0 (.ref it) (.ref D) ce) (compPost (model X.prog X.w) X.A X.xe none (EP X pins σ Q) (.ref D) h3.objs.size) { s2 with heap := pushCells (h3.push { cls := .type "dict", data := .dict #[] }) scope.names } := by
    refine PpSet.compLoopS_any (fun m s' => ∃ i, m = n - i ∧ i ≤ n ∧ Inv (X.blk { s2 with heap := h3 } (upd H1 D (SetO X.w D (memD f 0) (cntD f 0))) scope ce fp) [] (wipe σ (own.map (·.2))) (upd H1 D (SetO X.w D (memD f i) (cntD f i))) s' ∧ tn i s'.heap) ?_ n ⟨0, rfl, Nat.zero_le _, I4, t4⟩
    rintro m s5 ⟨i, rfl, hin, I5, t5⟩
    obtain ⟨hstop, hstep⟩ := hgo i hin
    by_cases hlti : i < n
    · obtain ⟨go, step⟩ := hstep i hlti
      refine thnF (T.item (X.blk { s2 with heap := h3 } (upd H1 D (SetO X.w D (memD f 0) (cntD f 0))) scope ce fp) rfl rfl rfl hc i [] s5 _ _ (fun _ _ => False) I5 (stat I5) t5 go) fun r s6 ⟨u, hr, h6⟩ => ?_
      subst hr
      refine thnF h6 fun _ s7 ⟨x, H7, I7, r7, y7, t7, n7⟩ => ?_
      have I7' := I7.pinned (fun b hb => ⟨n7 b hb, (stat I5 b hb).2⟩) (T.obj _ _ t7)
      refine thnF (pg.run _ s7 _ H7 x u _ I7' r7 (step x H7 y7)) fun _ s8 ⟨σ8, H8, I8, hw8, q8⟩ => ?_
      simp only [List.forIn_nil]
      refine wpAny_pure ?_
      simp only [if_true]
      refine thnF (pe.run _ s8 σ8 H8 _ I8 q8) fun yv s9 ⟨y, H9, I9, r9, ey, eH⟩ => ?_
      subst ey
      subst eH
      obtain ⟨tk, rfl⟩ := (show ∃ tk, yv = Value.int (f i) tk from r9)
      refine addI_ok (X := X.blk { s2 with heap := h3 } (upd H1 D (SetO X.w D (memD f 0) (cntD f 0))) scope ce fp) I9 (by omega) fun s10 I10 => ?_
      refine ⟨n - (i + 1), by omega, i + 1, rfl, hlti, (I10.unpinned (pins := [])).weak (by rw [← hw8, wipe_length]) (fun j v e => ?_), T.keep _ _ _ t7 fun b hb o e => ?_⟩
      · rw [← hw8] at e
        exact (wipe_some e).1
      · exact (I10.pin (b, o) (List.mem_append_right _ (List.mem_append_right _ (mem_pinsAt hb e)))).1
    · have e : i = n := by omega
      subst e
      refine thnF (T.done (X.blk { s2 with heap := h3 } (upd H1 D (SetO X.w D (memD f 0) (cntD f 0))) scope ce fp) rfl rfl rfl hc i [] s5 _ _ (fun _ _ => False) I5 (stat I5) t5 hstop) fun r s6 ⟨hr, I6⟩ => ?_
      subst hr
      have I7 : Inv X pins σ (upd H1 D (SetO X.w D (memD f i) (cntD f i))) s6 := I3.call' (ch := fp) I6.os I6.base I6.hok I6.bare fun b hb => ⟨(f2 b hb).2.2.2.1, (f2 b hb).2.1, (f2 b hb).2.2.2.2.1, (f2 b hb).2.2.2.2.2⟩
      obtain ⟨m', hm', _⟩ := I6.loc
      have hm' : s6.heap.Ns ce.locals m' := hm'
      have hfree : upd H1 D (SetO X.w D (memD f i) (cntD f i)) ce.locals = none := I6.free
      rw [cL] at hm' hfree
      obtain ⟨c0, c1, c2, c3, c4, c5⟩ := I3.fpOk (b := h3.objs.size) (Nat.le_refl _) hfree
      exact ⟨m', hm', fun h'' sb => ⟨.ref D, _, I7.turned (t' := s6.toks) (fun b o hb e => (sb.2 b hb).trans e) c0 c1 c3 c4 c5, rfl, q⟩⟩
  exact PpSet.codeAny_compStart_set loop (T.self X.A 0 _ _ _ t4 loop)
/-- len of such a set -/
def rLenO (w : World) : List V → Hp → VK → Prop := fun xs H Q => ∃ a S n, xs = [.ref a] ∧ H a = some (SetO w a S n) ∧ Q (.int (n : Int)) H
theorem call_lenO : CallR X (.builtin "len") (rLenO X.w) := by
  intro pins s σ H xs us Q I r h
  obtain ⟨a, S, n, rfl, ha, q⟩ := h
  obtain ⟨u, rfl, rv⟩ := vals1 r
  cases (show u = Value.ref a from rv)
  obtain ⟨o, es, ep, t, ho, hex, hd, _, _, _, hb, hf, hn, _⟩ := setO_get I ha
  have hb : es.size < scanBound := hb
  unfold scanBound at hb
  exact call_len_set ho hex hd hf (by omega) ⟨.int n, H, I.tok _, ⟨_, by rw [hn]⟩, q⟩
end
/-! ### defs that hold a generator expression -/
theorem okT {P : Program} {w : World} {K : PySem.W.Frag} {mg : Str → Option Value} {base : Heap} {x qual : Str} {params : Arguments} {body : List Stmt} {scope : Scope} {dvs : List V} {kws : List (Str × V)} {f c : Addr} {fd : FuncData} {CX : CXT} {N ps : List Str} {k : Nat} {sp : Sp}
    (F : FunD K x qual params body scope dvs kws f fd) (hcode : fd.code = .ref c) (S : FnScope N ps scope) (len : ∀ vs H Q E, sp vs H Q E → vs.length = ps.length)
    (hbody : ∀ (A : Around) (outer : List Env) (s : Shared) (H : Hp) (vs : List V) (Q : VK) (E : XK), Room k (A.deeper (envOfC qual scope s.heap.objs.size f (.ref c))) → sp vs H Q E →
      ∃ t, PSs (cxOf CX P w K mg base N qual scope f (.ref c) A outer s H E) body t ∧ t { nx := fun _ H' => Q .non H', rt := Q } (start N vs) H) : FnOk P w K mg base CX (k + 1) f fd ps sp := by
  obtain ⟨oc, od, dV, kV, doc, pm, an, cdv, ct, osl, rfl, lk, hcd, _, _⟩ := F.ex
  have e : cdv = .ref c := hcode
  subst e
  exact fn_of lk hcd S len hbody
theorem FnG.of {P : Program} {w : World} {K : PySem.W.Frag} {mg : Str → Option Value} {base : Heap} {CX : CXT} {k : Nat} {f : Addr} {fd : FuncData} {ps : List Str} {sp : Sp} (F : FnOk P w K mg base CX k f fd ps sp) : FnG P w K mg base CX k f fd ps sp :=
  ⟨F.len, fun A out s H ar us vs Q E _ hr e0 hb rv h => F.run A out s H ar us vs Q E hr e0 hb rv h⟩
/-- the names of a generator expression that captures nothing -/
theorem genZ_of {env : Env} {scope : Scope} (h : (decide (scope.kind = .function) && (!scope.isCoroutine) && (scope.names.all fun y => decide (y.2 ≠ .cell) && decide (y.2 ≠ .free)) && decide (scope.names.lookup (".0" : Str) = some NameKind.local)) = true) : GenZ env scope := by
  obtain ⟨h, h4⟩ := Bool.and_eq_true_iff.mp h
  obtain ⟨h, h3⟩ := Bool.and_eq_true_iff.mp h
  obtain ⟨h1, h2⟩ := Bool.and_eq_true_iff.mp h
  have h3 := List.all_eq_true.mp h3
  refine ⟨of_decide_eq_true h1, by simpa using h2, fun y hy => ?_, of_decide_eq_true h4, fun y hy e => ?_⟩
  · exact of_decide_eq_true (Bool.and_eq_true_iff.mp (h3 y hy)).1
  · exact absurd e (of_decide_eq_true (Bool.and_eq_true_iff.mp (h3 y hy)).2)
theorem cap0 {N XN : List Str} {no : Nat} {Q : Str → Prop} : ∀ j ci, ([] : List Nat)[j]? = some ci → ∃ y, N[no + j]? = some y ∧ XN[ci]? = some y ∧ Q y := fun j ci h => by simp at h
section
variable {xf : List XF} {fa : List He.Fa} {fn : List He.DefD} {gn : List (Str × Option Str)} {K : PySem.W.Frag} {h base : Heap} {mg : Str → Option Value}
theorem SaysT.no (c : SaysT xf fa fn gn K h) (KI : K.In h) {x : Str × Option Str} (hx : x ∈ gn) : K.lookup (tabA K x) = none := by
  cases e : K.lookup (tabA K x) with
  | none => rfl
  | some o =>
    have := KI _ _ e
    rw [c.em x hx] at this
    have := Option.some.inj this
    exact absurd (by rw [← this]) (c.cl _ _ e)
theorem SaysT.tab (c : SaysT xf fa fn gn K h) (KI : K.In h) (G : h.Ns mainGlobals mg) (KB : K.In base) (hb : mg "__builtins__" = some (.ref (He.ga K "__builtins__"))) {x : Str × Option Str} (hx : x ∈ gn) : GxR.TabB base mg (codeA K x) (tabA K x) := by
  have cf := codeB_ok (c.cd x hx)
  have nP : ∀ {a : Addr} {o : Obj}, K.lookup a = some o → a ≠ tabA K x := fun {a o} e z => by
    rw [z, c.no KI hx] at e
    cases e
  have gP : mainGlobals ≠ tabA K x := fun z => by
    obtain ⟨o, es, ep, e, d, _⟩ := G
    rw [z, c.em x hx] at e
    cases e
    cases d
  refine ⟨cf.hd base KB, ?_, gP⟩
  obtain ⟨b1, b2⟩ := Bool.and_eq_true_iff.mp c.bm
  split at b2
  · rename_i o e
    obtain ⟨m1, b2⟩ := Bool.and_eq_true_iff.mp b2
    obtain ⟨m2, m3⟩ := Bool.and_eq_true_iff.mp b2
    have nG : He.ga K "__builtins__" ≠ mainGlobals := fun z => by
      obtain ⟨o', es, ep, e', d, _⟩ := G
      have q := KI _ _ e
      rw [z, e'] at q
      have q := Option.some.inj q
      subst q
      rw [d] at m3
      cases m3
    refine ⟨He.ga K "__builtins__", o, hb, of_decide_eq_true b1, nG, nP e, KB _ _ e, isM_ok m1, of_decide_eq_true m2, ?_⟩
    split at m3
    · assumption
    · cases m3
  · cases b2
/-- fd.code of a def that is known -/
theorem SaysT.code (c : SaysT xf fa fn gn K h) {n qual : Str} {x : Str × Option Str} {params : Arguments} {body : List Stmt} {scope : Scope} {dvs : List V} {kws : List (Str × V)} {fd : FuncData} (F : FunD K n qual params body scope dvs kws (He.fAd K x) fd) (hx : x ∈ gn) : fd.code = .ref (codeA K x) := by
  obtain ⟨o, fd', e1, e2, e3⟩ := (codeB_ok (c.cd x hx)).fn
  obtain ⟨oc, od, dV, kV, doc, pm, an, cdv, ct, osl, _, lk, _⟩ := F.ex
  rw [lk] at e1
  cases e1
  cases e2
  exact e3
end
/-! ### the law's own call, the tables tracked -/
theorem law_goT {P : Program} {w : World} {K : PySem.W.Frag} {mg mb : Str → Option Value} {k : Nat} {fa a : Addr} {cs : List (Addr × Addr)} {fd : FuncData} {x : Str} {sp : Sp} {s1 : Shared} {vs : List Value} {ns : List Int} (KX : K.In s1.heap) (hns : s1.heap.Ns mainGlobals mg)
    (hb : s1.heap.Ns builtinsNs mb) (hbb : ∀ x : Str, x ≠ "__name__" → mb x = bootBuiltins x) (hlim : s1.heap.NoLimit) (hg : s1.gens = #[]) (hT : ∀ p ∈ cs, s1.heap.get? p.2 = some { cls := .none, data := .fields #[] }) (nT : ∀ p ∈ cs, K.lookup p.2 = none) (C : ∀ p ∈ cs, PySem.W.CodeHd s1.heap p.1 p.2)
    (ha : s1.heap.get? a = some { cls := .type "list", data := .seq vs.toArray }) (hi : IntsAre vs ns) (hl : ns.length ≤ sizeLine) (hr : Room k callerA)
    (hsys : ∃ mm, s1.heap.Ns sysModules mm) (F : ∀ base : Heap, K.In base → base.Ns mainGlobals mg → (∃ o, base.get? sysModules = some o) → FnG P w K mg base CX0 k fa fd [x] sp) (hbind : ∀ (s : Shared) (u : Value), BindsTo s fd ⟨[u], []⟩ [(x, u)])
    (hsp : ∀ H : Hp, (∀ p ∈ cs, H p.2 = some (TabX p.2)) → SqL K H a (ns.map V.int) → sp [.ref a] H (fun v H' => v = .bl true ∧ Ex H H') fun _ _ _ => False) :
    codeAny (model P w) callerA (.call (.ref fa) ⟨[.ref a], []⟩) (fun r s2 => r = .ok (.ret (.bool true)) ∧ OldK s1.heap s2.heap ∧ s2.os = s1.os ∧ AllBare s2.gens) s1 := by
  have rv := vals_ints hi
  have lenV := hi.length
  have isT : ∀ {b : Addr}, b ∈ cs.map (·.2) → s1.heap.get? b = some { cls := .none, data := .fields #[] } := fun {b} m => by
    obtain ⟨p, hp, rfl⟩ := List.mem_map.mp m
    exact hT p hp
  have nA : a ∉ cs.map (·.2) := fun m => by
    have q := isT m
    rw [ha] at q
    cases q
  have main : ∀ H : Hp, (∀ b ∈ cs.map (·.2), H b = some (TabX b)) → (∀ b, b ∉ cs.map (·.2) → H b = none ∨ (b = a ∧ ∃ o xs, H b = some (.frz o (.lst xs)))) → SqL K H a (ns.map V.int) → HOk P w H s1.heap → (H a ≠ none → K.lookup a = none) →
      codeAny (model P w) callerA (.call (.ref fa) ⟨[.ref a], []⟩) (fun r s2 => r = .ok (.ret (.bool true)) ∧ OldK s1.heap s2.heap ∧ s2.os = s1.os ∧ AllBare s2.gens) s1 := by
    intro H hH hO hS hok hK
    have dictFree : ∀ {b : Addr} {o : Obj} {es : Array DictEntry} {ep : Nat}, s1.heap.get? b = some o → o.data = .dict es ep → H b = none := fun {b o es ep} e d => by
      by_cases m : b ∈ cs.map (·.2)
      · rw [isT m] at e
        cases e
        cases d
      · rcases hO b m with z | ⟨z, _⟩
        · exact z
        · rw [z, ha] at e
          cases e
          cases d
    have nsH : ∀ {b : Addr} {m : Str → Option Value}, s1.heap.Ns b m → (hidT s1.heap H).Ns b m := fun {b m} ⟨o, es, ep, e, d, r⟩ => ⟨o, es, ep, hidT_get e (dictFree e d), d, r⟩
    have KH : K.In (hidT s1.heap H) := fun b o e => hidT_get (KX b o e) (by
      by_cases m : b ∈ cs.map (·.2)
      · obtain ⟨p, hp, rfl⟩ := List.mem_map.mp m
        rw [nT p hp] at e
        cases e
      · rcases hO b m with z | ⟨z, o', xs, z2⟩
        · exact z
        · rw [z] at e z2
          rw [hK (by rw [z2]; exact Option.some_ne_none _)] at e
          cases e)
    have lim : (hidT s1.heap H).NoLimit := by
      obtain ⟨mc, l1, l2⟩ := hlim
      exact ⟨mc, nsH l1, l2⟩
    have e0 : Env0 P w K mg (hidT s1.heap H) callerA [] s1 H := ⟨rfl, ⟨KH, nsH hns, ⟨mb, nsH hb, hbb⟩, lim⟩, fun b o e => of_hidT e, Nat.le_of_eq (hidT_size _ _), trivial, (fun b z => nomatch z), hok, .of_eq hg⟩
    refine codeAny_mono ((F _ KH (nsH hns) (by
      obtain ⟨mm, hm⟩ := hsys
      obtain ⟨o, _, _, e, _⟩ := nsH hm
      exact ⟨o, e⟩)).go callerA [] s1 H ⟨[.ref a], []⟩ [.ref a] [.ref a] _ _ rfl hr e0 (hbind s1 (.ref a)) (.cons rfl .nil) (hsp H (fun p hp => hH _ (List.mem_map.mpr ⟨p, hp, rfl⟩)) hS)) fun res s2 h2 => ?_
    match res, h2 with
    | .error _, h2 => exact h2.elim
    | .ok .next, h2 => exact h2.elim
    | .ok .brk, h2 => exact h2.elim
    | .ok .cont, h2 => exact h2.elim
    | .ok (.ret u), h2 =>
      obtain ⟨v, H2, os, bare, un, hok2, r2, q2⟩ := h2
      obtain ⟨q2, ex2⟩ : v = .bl true ∧ Ex H H2 := q2
      subst q2
      have r2 : u = Value.bool true := r2
      subst r2
      have grown : ∀ b ∈ cs.map (·.2), ∃ ps : Array Value, s2.heap.get? b = some { cls := .none, data := .fields ps } := fun b m => by
        obtain ⟨⟨ps, e, _⟩, _⟩ := hok2 b _ (ex2 b _ (hH b m))
        exact ⟨ps, e⟩
      have kept : ∀ b o, b ∉ cs.map (·.2) → s1.heap.get? b = some o → s2.heap.get? b = some o := fun b o m e => by
        rcases hO b m with z | ⟨_, o', xs, z⟩
        · exact un.keep b o e z (fun y => nomatch y) (fun y => nomatch y)
        · have c1 := (hok b _ z).1
          rw [e] at c1
          rw [Option.some.inj c1]
          exact (hok2 b _ (un.frzs b o' _ z)).1
      refine ⟨rfl, ⟨fun b o e => ?_, fun b o e => ?_⟩, os, bare⟩
      · by_cases m : b ∈ cs.map (·.2)
        · obtain ⟨ps, hps⟩ := grown b m
          obtain ⟨p, hp, rfl⟩ := List.mem_map.mp m
          rw [hT p hp] at e
          cases e
          exact .inr (.inl ⟨((C p hp).tab (hT p hp)).isCodeTable, rfl, #[], ps, rfl, by rw [Array.empty_append]; exact hps⟩)
        · exact .inl (kept b o m e)
      · by_cases m : b ∈ cs.map (·.2)
        · obtain ⟨ps, hps⟩ := grown b m
          exact ⟨_, hps⟩
        · exact ⟨o, kept b o m e⟩
  have tOk : ∀ {H : Hp} {b : Addr}, b ∈ cs.map (·.2) → ObjOk P w H s1.heap b (TabX b) := fun m => tabX_ok (isT m) trivial
  cases hk : K.lookup a with
  | some o =>
    have e := (KX a o hk).symm.trans ha
    cases e
    refine main (fun b => if b ∈ cs.map (·.2) then some (TabX b) else none) (fun b m => if_pos m) (fun b m => .inl (if_neg m)) (.inr ⟨_, vs.toArray, _, hk, rfl, rfl, rfl, ?_, ?_⟩) (fun b u z => ?_) (fun z => absurd (if_neg nA) z)
    · rw [List.size_toArray, lenV]
      exact hl
    · simpa using rv
    · by_cases m : b ∈ cs.map (·.2)
      · cases (if_pos m).symm.trans z
        exact tOk m
      · cases (if_neg m).symm.trans z
  | none =>
    have atA : ∀ {o : HO}, (fun b => if b = a then some o else if b ∈ cs.map (·.2) then some (TabX b) else none : Hp) a = some o := if_pos rfl
    have neA : ∀ {b : Addr}, b ∈ cs.map (·.2) → b ≠ a := fun m z => nA (z ▸ m)
    refine main (fun b => if b = a then some (.frz { cls := .type "list", data := .seq vs.toArray } (.lst (ns.map V.int))) else if b ∈ cs.map (·.2) then some (TabX b) else none) (fun b m => (if_neg (neA m)).trans (if_pos m)) (fun b m => ?_) (.inl (.inr ⟨_, atA⟩)) (fun b u z => ?_) (fun _ => hk)
    · by_cases y : b = a
      · exact .inr ⟨y, _, _, if_pos y⟩
      · exact .inl ((if_neg y).trans (if_neg m))
    · by_cases y : b = a
      · subst y
        cases atA.symm.trans z
        exact ⟨ha, by rw [List.length_map]; exact hl, vs, _, rv, ha⟩
      · have z := (if_neg y).symm.trans z
        by_cases m : b ∈ cs.map (·.2)
        · cases (if_pos m).symm.trans z
          exact tOk m
        · cases (if_neg m).symm.trans z
theorem walkT {l : PySem.W.OpenLaw} {n k : Nat} {q : Program} {loose : List Str} {XP : (Str → Option Value) → Heap → Prop} {YP : World → Heap → Prop} {d : DefRec} {x : Str} (hn : l.most = some n) (hn2 : n ≤ sizeLine) (hdf : d.params.defaults = []) (hr : Room k callerA) (hin : PyProof.Rows.importsNone q = true)
    (F : ∀ (w : World) (mg : Str → Option Value) (fa : Addr) (h : Heap), YP w h → h.Ns mainGlobals mg → mg d.name = some (.ref fa) → ∃ (K : PySem.W.Frag) (fd : FuncData) (cs : List (Addr × Addr)) (sp : Sp), K.In h ∧ (∀ p ∈ cs, h.get? p.2 = some { cls := .none, data := .fields #[] }) ∧ (∀ p ∈ cs, K.lookup p.2 = none) ∧
        (∀ p ∈ cs, PySem.W.CodeHd h p.1 p.2) ∧ (∀ (s : Shared) (u : Value), BindsTo s fd ⟨[u], []⟩ [(x, u)]) ∧
        (∀ (H : Hp) (a : Addr) (ns : List Int), ns.length ≤ n → (∀ p ∈ cs, H p.2 = some (TabX p.2)) → SqL K H a (ns.map V.int) → sp [.ref a] H (fun v H' => v = .bl true ∧ Ex H H') fun _ _ _ => False) ∧ ∀ base : Heap, K.In base → base.Ns mainGlobals mg → (∃ o, base.get? sysModules = some o) → FnG l.prog w K mg base CX0 k fa fd [x] sp) :
    PySem.W.WalkO q loose XP YP l.row.toRowW d [] (fun f vs => PySem.call f vs) := by
  refine Att.attach_call hn hdf fun w s0 s1 mg mb fa o pm cd doc a vs ns G Y ho hd hcd hmg hobj hints hlen hg => ?_
  obtain ⟨K, fd, cs, sp, KX, hT, nT, C, hb, hsp, hF⟩ := F w mg fa _ Y G.T.g hmg
  exact law_goT KX G.T.g G.T.b G.T.builtins G.T.nolimit hg hT nT C hobj hints (Nat.le_trans hlen hn2) hr (let ⟨mm, hm, _⟩ := (G.T.seer hin).mods; ⟨mm, hm⟩) hF hb (fun H hH hS => hsp H a ns hlen hH hS)
theorem gX_nd {X : Cx} {N : List Str} {scope : Scope} {code : Value} {fp : List Addr} {s : Shared} {H : Hp} {pn : List (Addr × Obj)} (h : N.Nodup) : (gX X N scope code fp s H pn).N.Nodup := h
theorem pgz {X : Cx} {N : List Str} {scope : Scope} {code : Value} {fp : List Addr} {s : Shared} {H : Hp} {pn : List (Addr × Obj)} {i : Nat} {x : Str} {pos : Pos} (hN : N.Nodup) (hi : N[i]? = some x) (hx : scope.names.lookup x = some .local) : PG (gX X N scope code fp s H pn) (.Name x pos) (gName i) :=
  pg_name hN hi (.inl hx) (.inr hx)
theorem pgz_tup2 {X : Cx} {N : List Str} {scope : Scope} {code : Value} {fp : List Addr} {s : Shared} {H : Hp} {pn : List (Addr × Obj)} {i j k : Nat} {x y : Str} {p1 p2 pos : Pos} (hN : N.Nodup) (hi : N[i]? = some x) (hj : N[j]? = some y) (hx : scope.names.lookup x = some .local) (hy : scope.names.lookup y = some .local) :
    PG (gX X N scope code fp s H pn) (.Tuple [.Name x p1, .Name y p2] k pos) (gTup X.K 2 (gCons (gName i) (gCons (gName j) gNil))) :=
  pg_tup rfl (pgs_cons (pgz hN hi hx) (pgs_cons (pgz hN hj hy) pgs_nil))
theorem pg_tupK {X : Cx} {es : List Expr} {k : Nat} {t : TGs} {n : Nat} {pos : Pos} (K : PySem.W.Frag) (hc : X.calm = true) (h : PGs X es t) (hK : X.K = K := by rfl) (hn : (assignEach es X.env).length = n := by rfl) (hst : (assignEach es X.env).findIdx? (·.1) = none := by rfl) :
    PG X (.Tuple es k pos) (gTup K n t) := by
  subst hK
  exact pg_tup hc h hn hst
section
variable {X : Cx} {o e : Expr} {es : List Expr} {to : TE} {t : TA} {name : Str} {apos cpos : Pos} {T id : String} {r : V → List V → Hp → VK → Prop}
theorem pe_bmK (K : PySem.W.Frag) (pa : PlainAttrs T) (slot : Slot T name id) (hty : typeOf (.builtin id) = pure (.type "method_descriptor")) (hm : MtR X id r) (ho : PE X o to) (ha : PA X (e :: es) t) (hK : X.K = K := by rfl)
    (hbase : attributeBase o name X.env (eval o X.env) = eval o X.env := by rfl)
    (hfew : ((backTo cpos (starEach (e :: es) X.env)).all (fun x => !x.1) && ((backToKw cpos (keywordEach [] X.env)).all fun x => x.1.isSome) && decide ((e :: es).length + ([] : List Keyword).length + (if ([] : List Keyword).isEmpty then 0 else 1) < 30)) = true := by rfl)
    (hline : (apos.endLine == cpos.line) = true := by rfl) (hs : starEach (e :: es) X.env = (false, eval e X.env) :: starEach es X.env := by rfl) (hplain : (backTo cpos (starEach es X.env)).any (·.1) = false := by rfl) :
    PE X (.Call (.Attribute o name apos) (e :: es) [] cpos) (tBM K T r to t) := by
  subst hK
  exact pe_bm pa slot hty hm ho ha hbase hfew hline hs hplain
end
/-! ### repr of whatever stands in the heap -/
theorem Inv.noSys {X : Cx} {pins : List (Addr × Obj)} {σ : L2.St} {H : Hp} {s : Shared} (I : Inv X pins σ H s) (hy : ∃ o, X.base.get? sysModules = some o) : H sysModules = none := by
  obtain ⟨o, e⟩ := hy
  exact (I.bs _ o e).2
section
variable {X : Cx} {pins : List (Addr × Obj)} {σ : L2.St} {H : Hp} {s : Shared}
mutual
theorem Dt.readsB (I : Inv X pins σ H s) (hn : H sysModules = none) : ∀ (d : PyData) (v : V) (u : Value), Dt H v d → RelV v u → ∃ as, Reads s.heap u d as ∧ sysModules ∉ as
  | .none, _, _, h, r => by
    cases h
    cases r
    exact ⟨_, .none, fun z => nomatch z⟩
  | .bool b, _, _, h, r => by
    cases h
    cases r
    exact ⟨_, .bool b, fun z => nomatch z⟩
  | .int i, _, _, h, r => by
    cases h
    obtain ⟨t, rfl⟩ := r
    exact ⟨_, .int i t, fun z => nomatch z⟩
  | .str x, _, _, h, r => by
    cases h
    obtain ⟨t, rfl⟩ := r
    exact ⟨_, .str x t, fun z => nomatch z⟩
  | .list ds, _, _, h, r => by
    cases h with
    | @lst a _ _ hs ha =>
      cases r
      obtain ⟨its, rv, ⟨o, n, ho, hc, _, hd⟩, _⟩ := I.list (sq_of hs)
      obtain ⟨as, hr, hm⟩ := DtAll.readsB I hn ds _ its ha rv
      refine ⟨_, .list ho hc hd hr, fun z => ?_⟩
      rcases List.mem_cons.mp z with y | y
      · rw [← y, hn] at hs
        cases hs
      · exact hm y
  | .tuple ds, _, _, h, r => by
    cases h with
    | tup hs ha =>
      cases r
      obtain ⟨its, rv, ⟨o, ho, hc, n, hd⟩, _⟩ := I.tuple (st_of hs)
      obtain ⟨as, hr, hm⟩ := DtAll.readsB I hn ds _ its ha rv
      exact ⟨_, .tuple ho hc hd hr, hm⟩
  | .dict kvs, _, _, h, r => by
    obtain ⟨as, h1, h2⟩ := Dt.reads I (.dict kvs) _ _ h r
    exact ⟨as, h1, h2 rfl⟩
theorem DtAll.readsB (I : Inv X pins σ H s) (hn : H sysModules = none) : ∀ (ds : List PyData) (vs : List V) (us : List Value), DtAll H vs ds → Vals vs us → ∃ as, ReadsAll s.heap us ds as ∧ sysModules ∉ as
  | [], _, _, h, r => by
    cases h
    cases r
    exact ⟨_, .nil, fun z => nomatch z⟩
  | d :: ds, _, _, h, r => by
    cases h with
    | cons h1 h2 =>
      cases r with
      | cons r1 r2 =>
        obtain ⟨as, q1, n1⟩ := Dt.readsB I hn d _ _ h1 r1
        obtain ⟨bs, q2, n2⟩ := DtAll.readsB I hn ds _ _ h2 r2
        refine ⟨_, .cons q1 q2, fun m => ?_⟩
        rcases List.mem_append.mp m with m | m
        · exact n1 m
        · exact n2 m
end
structure ShowsB (d : PyData) : Prop where
  sh : d.showable = true
  dp : d.depth ≤ 60
  ln : d.shown.length ≤ sizeLine
def rReprB : List V → Hp → VK → Prop := fun xs H Q => ∃ v d, xs = [v] ∧ Dt H v d ∧ ShowsB d ∧ Q (.str d.shown) H
theorem call_reprB (hy : ∃ o, X.base.get? sysModules = some o) (hG : X.A.guards = some []) (hu : X.A.units + 64 < cLine) : CallR X (.builtin "repr") rReprB := by
  intro pins s σ H xs us Q I r h
  obtain ⟨v, d, rfl, hd, hs, q⟩ := h
  obtain ⟨u, rfl, rv⟩ := vals1 r
  have fin : ∀ (a : Addr), v = .ref a → wpAny (model X.prog X.w) X.A (call (.builtin "repr") [u]) (EP X pins σ Q) X.xe s := fun a e => by
    subst e
    have e2 : u = Value.ref a := rv
    subst e2
    obtain ⟨as, hr, hn⟩ := Dt.readsB I (Inv.noSys I hy) d _ _ hd rv
    have := hs.dp
    refine repr_of_reads' hr hs.sh (fun z => hn) hG (by omega) (fun _ _ z => z) (fun h' t tk hk => ?_) hs.ln
    exact ⟨.str d.shown, H, I.kept (t' := tk) hk, ⟨t, rfl⟩, q⟩
  cases hd with
  | non =>
    cases (show u = Value.none from rv)
    exact PySem.P.repr_of_none ⟨.str _, H, I.tok _, ⟨_, rfl⟩, q⟩
  | bl b =>
    cases (show u = Value.bool b from rv)
    exact PySem.P.repr_of_bool ⟨.str _, H, I.tok _, ⟨_, rfl⟩, q⟩
  | int i =>
    obtain ⟨t, rfl⟩ := (show ∃ t, u = Value.int i t from rv)
    exact PySem.P.repr_of_int (of_decide_eq_true hs.sh) ⟨.str _, H, I.tok _, ⟨_, rfl⟩, q⟩
  | str x =>
    obtain ⟨t, rfl⟩ := (show ∃ t, u = Value.str x t from rv)
    exact PySem.P.repr_of_str ⟨.str _, H, I.tok _, ⟨_, rfl⟩, q⟩ hs.ln
  | lst a b => exact fin _ rfl
  | tup a b => exact fin _ rfl
  | dic a => exact fin _ rfl
end
abbrev FnP (K : PySem.W.Frag) (x : Str) (st : Stmt) (f : Addr) (fd : FuncData) : Prop := FunD K x x (defArgs st) (defBody st) (defScope st) [] [] f fd
structure Ad where
  a_is_whole : Addr
  d_is_whole : FuncData
  a_is_whole_below : Addr
  d_is_whole_below : FuncData
  a_common_divisor : Addr
  d_common_divisor : FuncData
  a_product_of : Addr
  d_product_of : FuncData
  a_short_row : Addr
  d_short_row : FuncData
  a_inverse : Addr
  d_inverse : FuncData
  a_is_pair : Addr
  d_is_pair : FuncData
  a_is_fraction : Addr
  d_is_fraction : FuncData
  a_is_prime : Addr
  d_is_prime : FuncData
  a_is_rest : Addr
  d_is_rest : FuncData
  a_is_reading : Addr
  d_is_reading : FuncData
  a_is_readings : Addr
  d_is_readings : FuncData
  a_need_readings : Addr
  d_need_readings : FuncData
  a_keeps : Addr
  d_keeps : FuncData
  a_keeps_all : Addr
  d_keeps_all : FuncData
  a_is_bounds : Addr
  d_is_bounds : FuncData
  a_is_bounds_up_to : Addr
  d_is_bounds_up_to : FuncData
  a_need_bounds : Addr
  d_need_bounds : FuncData
  a_need_bounds_up_to : Addr
  d_need_bounds_up_to : FuncData
  a_is_within : Addr
  d_is_within : FuncData
  a_all_within : Addr
  d_all_within : FuncData
  a_put_together : Addr
  d_put_together : FuncData
  a_only_candidate : Addr
  d_only_candidate : FuncData
  a_one_back : Addr
  d_one_back : FuncData
  a_all_back : Addr
  d_all_back : FuncData
  a__law_cell_at : Addr
  d__law_cell_at : FuncData
  a__law_stir : Addr
  d__law_stir : FuncData
  a__law_deck : Addr
  d__law_deck : FuncData
  a__law_next : Addr
  d__law_next : FuncData
  a__law_primes : Addr
  d__law_primes : FuncData
  a__law_no_readings : Addr
  d__law_no_readings : FuncData
  a__law_no_bounds : Addr
  d__law_no_bounds : FuncData
  a__law_word : Addr
  d__law_word : FuncData
  a__law_asked : Addr
  d__law_asked : FuncData
  a__law_split : Addr
  d__law_split : FuncData
  a__law_enough_right : Addr
  d__law_enough_right : FuncData
  a_law : Addr
  d_law : FuncData
  t_PRIME_LIMIT : Tok
  t_MOST_READINGS : Tok
  t_SMALL_BOUND : Tok
  k_BackError : Addr
  k_NoFraction : Addr
  k_NoPrime : Addr
  k_NoReadings : Addr
  k_NoBounds : Addr
  k_NoNumber : Addr
  k_TooFew : Addr
  k_TooMany : Addr
  k_NoText : Addr
  k_NoName : Addr
  k_NoRow : Addr
  k_NoPoly : Addr
  k_NoQuotient : Addr
  k_NoWorths : Addr
  k_NoDegrees : Addr
  c_is_readings : Addr
  p_is_readings : Addr
  c_keeps_all : Addr
  p_keeps_all : Addr
  c_put_together : Addr
  p_put_together : Addr
/-- the tables stand in the heap -/
def Tabs (z : Ad) (H : Hp) : Prop := H z.p_is_readings = some (TabX z.p_is_readings) ∧ H z.p_keeps_all = some (TabX z.p_keeps_all) ∧ H z.p_put_together = some (TabX z.p_put_together)
theorem Tabs.up {z : Ad} {H H2 : Hp} (t : Tabs z H) (e : Ex H H2) : Tabs z H2 := ⟨e _ _ t.1, e _ _ t.2.1, e _ _ t.2.2⟩
theorem Tabs.dr {z : Ad} {B : Addr} {H H2 : Hp} (t : Tabs z H) (hB : IsL H B) (e : ExB B H H2) : Tabs z H2 := ⟨e _ _ (fun y => by obtain ⟨xs, hx⟩ := hB; have q := t.1; rw [y, hx] at q; cases q) t.1, e _ _ (fun y => by obtain ⟨xs, hx⟩ := hB; have q := t.2.1; rw [y, hx] at q; cases q) t.2.1, e _ _ (fun y => by obtain ⟨xs, hx⟩ := hB; have q := t.2.2; rw [y, hx] at q; cases q) t.2.2⟩
structure Txt (K : PySem.W.Frag) (mg : Str → Option Value) (base : Heap) (z : Ad) : Prop where
  F_is_whole : FnP K "is_whole" s_is_whole z.a_is_whole z.d_is_whole
  g_is_whole : mg "is_whole" = some (.ref z.a_is_whole)
  b_is_whole : Binds K z.d_is_whole ["thing"] []
  F_is_whole_below : FnP K "is_whole_below" s_is_whole_below z.a_is_whole_below z.d_is_whole_below
  g_is_whole_below : mg "is_whole_below" = some (.ref z.a_is_whole_below)
  b_is_whole_below : Binds K z.d_is_whole_below ["thing", "limit"] []
  F_common_divisor : FnP K "common_divisor" s_common_divisor z.a_common_divisor z.d_common_divisor
  g_common_divisor : mg "common_divisor" = some (.ref z.a_common_divisor)
  b_common_divisor : Binds K z.d_common_divisor ["one", "other"] []
  F_product_of : FnP K "product_of" s_product_of z.a_product_of z.d_product_of
  g_product_of : mg "product_of" = some (.ref z.a_product_of)
  b_product_of : Binds K z.d_product_of ["numbers"] []
  F_short_row : FnP K "short_row" s_short_row z.a_short_row z.d_short_row
  g_short_row : mg "short_row" = some (.ref z.a_short_row)
  b_short_row : Binds K z.d_short_row ["modulus", "number", "most"] []
  F_inverse : FnP K "inverse" s_inverse z.a_inverse z.d_inverse
  g_inverse : mg "inverse" = some (.ref z.a_inverse)
  b_inverse : Binds K z.d_inverse ["number", "prime"] []
  F_is_pair : FnP K "is_pair" s_is_pair z.a_is_pair z.d_is_pair
  g_is_pair : mg "is_pair" = some (.ref z.a_is_pair)
  b_is_pair : Binds K z.d_is_pair ["thing"] []
  F_is_fraction : FnP K "is_fraction" s_is_fraction z.a_is_fraction z.d_is_fraction
  g_is_fraction : mg "is_fraction" = some (.ref z.a_is_fraction)
  b_is_fraction : Binds K z.d_is_fraction ["thing"] []
  F_is_prime : FnP K "is_prime" s_is_prime z.a_is_prime z.d_is_prime
  g_is_prime : mg "is_prime" = some (.ref z.a_is_prime)
  b_is_prime : Binds K z.d_is_prime ["thing"] []
  F_is_rest : FnP K "is_rest" s_is_rest z.a_is_rest z.d_is_rest
  g_is_rest : mg "is_rest" = some (.ref z.a_is_rest)
  b_is_rest : Binds K z.d_is_rest ["thing", "p"] []
  F_is_reading : FnP K "is_reading" s_is_reading z.a_is_reading z.d_is_reading
  g_is_reading : mg "is_reading" = some (.ref z.a_is_reading)
  b_is_reading : Binds K z.d_is_reading ["thing"] []
  F_is_readings : FnP K "is_readings" s_is_readings z.a_is_readings z.d_is_readings
  g_is_readings : mg "is_readings" = some (.ref z.a_is_readings)
  b_is_readings : Binds K z.d_is_readings ["thing"] []
  F_need_readings : FnP K "need_readings" s_need_readings z.a_need_readings z.d_need_readings
  g_need_readings : mg "need_readings" = some (.ref z.a_need_readings)
  b_need_readings : Binds K z.d_need_readings ["thing"] []
  F_keeps : FnP K "keeps" s_keeps z.a_keeps z.d_keeps
  g_keeps : mg "keeps" = some (.ref z.a_keeps)
  b_keeps : Binds K z.d_keeps ["f", "reading"] []
  F_keeps_all : FnP K "keeps_all" s_keeps_all z.a_keeps_all z.d_keeps_all
  g_keeps_all : mg "keeps_all" = some (.ref z.a_keeps_all)
  b_keeps_all : Binds K z.d_keeps_all ["f", "readings"] []
  F_is_bounds : FnP K "is_bounds" s_is_bounds z.a_is_bounds z.d_is_bounds
  g_is_bounds : mg "is_bounds" = some (.ref z.a_is_bounds)
  b_is_bounds : Binds K z.d_is_bounds ["thing"] []
  F_is_bounds_up_to : FnP K "is_bounds_up_to" s_is_bounds_up_to z.a_is_bounds_up_to z.d_is_bounds_up_to
  g_is_bounds_up_to : mg "is_bounds_up_to" = some (.ref z.a_is_bounds_up_to)
  b_is_bounds_up_to : Binds K z.d_is_bounds_up_to ["thing", "most"] []
  F_need_bounds : FnP K "need_bounds" s_need_bounds z.a_need_bounds z.d_need_bounds
  g_need_bounds : mg "need_bounds" = some (.ref z.a_need_bounds)
  b_need_bounds : Binds K z.d_need_bounds ["thing"] []
  F_need_bounds_up_to : FnP K "need_bounds_up_to" s_need_bounds_up_to z.a_need_bounds_up_to z.d_need_bounds_up_to
  g_need_bounds_up_to : mg "need_bounds_up_to" = some (.ref z.a_need_bounds_up_to)
  b_need_bounds_up_to : Binds K z.d_need_bounds_up_to ["thing", "most"] []
  F_is_within : FnP K "is_within" s_is_within z.a_is_within z.d_is_within
  g_is_within : mg "is_within" = some (.ref z.a_is_within)
  b_is_within : Binds K z.d_is_within ["f", "bounds"] []
  F_all_within : FnP K "all_within" s_all_within z.a_all_within z.d_all_within
  g_all_within : mg "all_within" = some (.ref z.a_all_within)
  b_all_within : Binds K z.d_all_within ["bounds"] []
  F_put_together : FnP K "put_together" s_put_together z.a_put_together z.d_put_together
  g_put_together : mg "put_together" = some (.ref z.a_put_together)
  b_put_together : Binds K z.d_put_together ["readings"] []
  F_only_candidate : FnP K "only_candidate" s_only_candidate z.a_only_candidate z.d_only_candidate
  g_only_candidate : mg "only_candidate" = some (.ref z.a_only_candidate)
  b_only_candidate : Binds K z.d_only_candidate ["readings", "n"] []
  F_one_back : FnP K "one_back" s_one_back z.a_one_back z.d_one_back
  g_one_back : mg "one_back" = some (.ref z.a_one_back)
  b_one_back : Binds K z.d_one_back ["readings", "bounds"] []
  F_all_back : FnP K "all_back" s_all_back z.a_all_back z.d_all_back
  g_all_back : mg "all_back" = some (.ref z.a_all_back)
  b_all_back : Binds K z.d_all_back ["readings", "bounds"] []
  F__law_cell_at : FnP K "_law_cell_at" s__law_cell_at z.a__law_cell_at z.d__law_cell_at
  g__law_cell_at : mg "_law_cell_at" = some (.ref z.a__law_cell_at)
  b__law_cell_at : Binds K z.d__law_cell_at ["script", "k"] []
  F__law_stir : FnP K "_law_stir" s__law_stir z.a__law_stir z.d__law_stir
  g__law_stir : mg "_law_stir" = some (.ref z.a__law_stir)
  b__law_stir : Binds K z.d__law_stir ["cell", "k"] []
  F__law_deck : FnP K "_law_deck" s__law_deck z.a__law_deck z.d__law_deck
  g__law_deck : mg "_law_deck" = some (.ref z.a__law_deck)
  b__law_deck : Binds K z.d__law_deck ["cell", "many"] []
  F__law_next : FnP K "_law_next" s__law_next z.a__law_next z.d__law_next
  g__law_next : mg "_law_next" = some (.ref z.a__law_next)
  b__law_next : Binds K z.d__law_next ["deck"] []
  F__law_primes : FnP K "_law_primes" s__law_primes z.a__law_primes z.d__law_primes
  g__law_primes : mg "_law_primes" = some (.ref z.a__law_primes)
  b__law_primes : Binds K z.d__law_primes ["deck", "many", "most"] []
  F__law_no_readings : FnP K "_law_no_readings" s__law_no_readings z.a__law_no_readings z.d__law_no_readings
  g__law_no_readings : mg "_law_no_readings" = some (.ref z.a__law_no_readings)
  b__law_no_readings : Binds K z.d__law_no_readings ["deck", "readings"] []
  F__law_no_bounds : FnP K "_law_no_bounds" s__law_no_bounds z.a__law_no_bounds z.d__law_no_bounds
  g__law_no_bounds : mg "_law_no_bounds" = some (.ref z.a__law_no_bounds)
  b__law_no_bounds : Binds K z.d__law_no_bounds ["deck"] []
  F__law_word : FnP K "_law_word" s__law_word z.a__law_word z.d__law_word
  g__law_word : mg "_law_word" = some (.ref z.a__law_word)
  b__law_word : Binds K z.d__law_word ["caught"] []
  F__law_asked : FnP K "_law_asked" s__law_asked z.a__law_asked z.d__law_asked
  g__law_asked : mg "_law_asked" = some (.ref z.a__law_asked)
  b__law_asked : Binds K z.d__law_asked ["way", "readings", "bounds"] []
  F__law_split : FnP K "_law_split" s__law_split z.a__law_split z.d__law_split
  g__law_split : mg "_law_split" = some (.ref z.a__law_split)
  b__law_split : Binds K z.d__law_split ["deck", "primes"] []
  F__law_enough_right : FnP K "_law_enough_right" s__law_enough_right z.a__law_enough_right z.d__law_enough_right
  g__law_enough_right : mg "_law_enough_right" = some (.ref z.a__law_enough_right)
  b__law_enough_right : Binds K z.d__law_enough_right ["readings", "n", "d"] []
  F_law : FnP K "law" s_law z.a_law z.d_law
  g_law : mg "law" = some (.ref z.a_law)
  b_law : Binds K z.d_law ["script"] []
  m_isinstance : mg "isinstance" = none
  m_bool : mg "bool" = none
  m_int : mg "int" = none
  m_len : mg "len" = none
  m_tuple : mg "tuple" = none
  m_list : mg "list" = none
  m_all : mg "all" = none
  m_range : mg "range" = none
  m_any : mg "any" = none
  m_ValueError : mg "ValueError" = none
  m_repr : mg "repr" = none
  m_max : mg "max" = none
  m_min : mg "min" = none
  c_PRIME_LIMIT : mg "PRIME_LIMIT" = some (.int 1000 z.t_PRIME_LIMIT)
  c_MOST_READINGS : mg "MOST_READINGS" = some (.int 10 z.t_MOST_READINGS)
  c_SMALL_BOUND : mg "SMALL_BOUND" = some (.int 60 z.t_SMALL_BOUND)
  k_BackError : mg "BackError" = some (.ref z.k_BackError)
  x_BackError : ExcFacts K z.k_BackError
  k_NoFraction : mg "NoFraction" = some (.ref z.k_NoFraction)
  x_NoFraction : ExcFacts K z.k_NoFraction
  k_NoPrime : mg "NoPrime" = some (.ref z.k_NoPrime)
  x_NoPrime : ExcFacts K z.k_NoPrime
  k_NoReadings : mg "NoReadings" = some (.ref z.k_NoReadings)
  x_NoReadings : ExcFacts K z.k_NoReadings
  k_NoBounds : mg "NoBounds" = some (.ref z.k_NoBounds)
  x_NoBounds : ExcFacts K z.k_NoBounds
  k_NoNumber : mg "NoNumber" = some (.ref z.k_NoNumber)
  x_NoNumber : ExcFacts K z.k_NoNumber
  k_TooFew : mg "TooFew" = some (.ref z.k_TooFew)
  x_TooFew : ExcFacts K z.k_TooFew
  k_TooMany : mg "TooMany" = some (.ref z.k_TooMany)
  x_TooMany : ExcFacts K z.k_TooMany
  k_NoText : mg "NoText" = some (.ref z.k_NoText)
  x_NoText : ExcFacts K z.k_NoText
  k_NoName : mg "NoName" = some (.ref z.k_NoName)
  x_NoName : ExcFacts K z.k_NoName
  k_NoRow : mg "NoRow" = some (.ref z.k_NoRow)
  x_NoRow : ExcFacts K z.k_NoRow
  k_NoPoly : mg "NoPoly" = some (.ref z.k_NoPoly)
  x_NoPoly : ExcFacts K z.k_NoPoly
  k_NoQuotient : mg "NoQuotient" = some (.ref z.k_NoQuotient)
  x_NoQuotient : ExcFacts K z.k_NoQuotient
  k_NoWorths : mg "NoWorths" = some (.ref z.k_NoWorths)
  x_NoWorths : ExcFacts K z.k_NoWorths
  k_NoDegrees : mg "NoDegrees" = some (.ref z.k_NoDegrees)
  x_NoDegrees : ExcFacts K z.k_NoDegrees
  xc_NoReadings : L2.ExcC K z.k_NoReadings
  xs_NoReadings : PySem.W.findIn K (.ref z.k_NoReadings) "__str__" = some (some (.builtin "BaseException.__str__"))
  kv_NoReadings : PySem.W.kitOne K (.ref z.k_NoReadings) (.type "ValueError") = some true
  xm_NoReadings : PySem.W.exmOne K (.ref z.k_NoReadings) (.ref z.k_BackError) = some true
  ki_NoReadings_BackError : PySem.W.kitOne K (.ref z.k_NoReadings) (.ref z.k_BackError) = some true
  ki_NoReadings_NoFraction : PySem.W.kitOne K (.ref z.k_NoReadings) (.ref z.k_NoFraction) = some false
  ki_NoReadings_NoPrime : PySem.W.kitOne K (.ref z.k_NoReadings) (.ref z.k_NoPrime) = some false
  ki_NoReadings_NoReadings : PySem.W.kitOne K (.ref z.k_NoReadings) (.ref z.k_NoReadings) = some true
  ki_NoReadings_NoBounds : PySem.W.kitOne K (.ref z.k_NoReadings) (.ref z.k_NoBounds) = some false
  ki_NoReadings_NoNumber : PySem.W.kitOne K (.ref z.k_NoReadings) (.ref z.k_NoNumber) = some false
  ki_NoReadings_TooFew : PySem.W.kitOne K (.ref z.k_NoReadings) (.ref z.k_TooFew) = some false
  ki_NoReadings_TooMany : PySem.W.kitOne K (.ref z.k_NoReadings) (.ref z.k_TooMany) = some false
  ki_NoReadings_NoText : PySem.W.kitOne K (.ref z.k_NoReadings) (.ref z.k_NoText) = some false
  ki_NoReadings_NoName : PySem.W.kitOne K (.ref z.k_NoReadings) (.ref z.k_NoName) = some false
  ki_NoReadings_NoRow : PySem.W.kitOne K (.ref z.k_NoReadings) (.ref z.k_NoRow) = some false
  ki_NoReadings_NoPoly : PySem.W.kitOne K (.ref z.k_NoReadings) (.ref z.k_NoPoly) = some false
  ki_NoReadings_NoQuotient : PySem.W.kitOne K (.ref z.k_NoReadings) (.ref z.k_NoQuotient) = some false
  ki_NoReadings_NoWorths : PySem.W.kitOne K (.ref z.k_NoReadings) (.ref z.k_NoWorths) = some false
  ki_NoReadings_NoDegrees : PySem.W.kitOne K (.ref z.k_NoReadings) (.ref z.k_NoDegrees) = some false
  xc_NoBounds : L2.ExcC K z.k_NoBounds
  xs_NoBounds : PySem.W.findIn K (.ref z.k_NoBounds) "__str__" = some (some (.builtin "BaseException.__str__"))
  kv_NoBounds : PySem.W.kitOne K (.ref z.k_NoBounds) (.type "ValueError") = some true
  xm_NoBounds : PySem.W.exmOne K (.ref z.k_NoBounds) (.ref z.k_BackError) = some true
  ki_NoBounds_BackError : PySem.W.kitOne K (.ref z.k_NoBounds) (.ref z.k_BackError) = some true
  ki_NoBounds_NoFraction : PySem.W.kitOne K (.ref z.k_NoBounds) (.ref z.k_NoFraction) = some false
  ki_NoBounds_NoPrime : PySem.W.kitOne K (.ref z.k_NoBounds) (.ref z.k_NoPrime) = some false
  ki_NoBounds_NoReadings : PySem.W.kitOne K (.ref z.k_NoBounds) (.ref z.k_NoReadings) = some false
  ki_NoBounds_NoBounds : PySem.W.kitOne K (.ref z.k_NoBounds) (.ref z.k_NoBounds) = some true
  ki_NoBounds_NoNumber : PySem.W.kitOne K (.ref z.k_NoBounds) (.ref z.k_NoNumber) = some false
  ki_NoBounds_TooFew : PySem.W.kitOne K (.ref z.k_NoBounds) (.ref z.k_TooFew) = some false
  ki_NoBounds_TooMany : PySem.W.kitOne K (.ref z.k_NoBounds) (.ref z.k_TooMany) = some false
  ki_NoBounds_NoText : PySem.W.kitOne K (.ref z.k_NoBounds) (.ref z.k_NoText) = some false
  ki_NoBounds_NoName : PySem.W.kitOne K (.ref z.k_NoBounds) (.ref z.k_NoName) = some false
  ki_NoBounds_NoRow : PySem.W.kitOne K (.ref z.k_NoBounds) (.ref z.k_NoRow) = some false
  ki_NoBounds_NoPoly : PySem.W.kitOne K (.ref z.k_NoBounds) (.ref z.k_NoPoly) = some false
  ki_NoBounds_NoQuotient : PySem.W.kitOne K (.ref z.k_NoBounds) (.ref z.k_NoQuotient) = some false
  ki_NoBounds_NoWorths : PySem.W.kitOne K (.ref z.k_NoBounds) (.ref z.k_NoWorths) = some false
  ki_NoBounds_NoDegrees : PySem.W.kitOne K (.ref z.k_NoBounds) (.ref z.k_NoDegrees) = some false
  xc_TooFew : L2.ExcC K z.k_TooFew
  xs_TooFew : PySem.W.findIn K (.ref z.k_TooFew) "__str__" = some (some (.builtin "BaseException.__str__"))
  kv_TooFew : PySem.W.kitOne K (.ref z.k_TooFew) (.type "ValueError") = some true
  xm_TooFew : PySem.W.exmOne K (.ref z.k_TooFew) (.ref z.k_BackError) = some true
  ki_TooFew_BackError : PySem.W.kitOne K (.ref z.k_TooFew) (.ref z.k_BackError) = some true
  ki_TooFew_NoFraction : PySem.W.kitOne K (.ref z.k_TooFew) (.ref z.k_NoFraction) = some false
  ki_TooFew_NoPrime : PySem.W.kitOne K (.ref z.k_TooFew) (.ref z.k_NoPrime) = some false
  ki_TooFew_NoReadings : PySem.W.kitOne K (.ref z.k_TooFew) (.ref z.k_NoReadings) = some false
  ki_TooFew_NoBounds : PySem.W.kitOne K (.ref z.k_TooFew) (.ref z.k_NoBounds) = some false
  ki_TooFew_NoNumber : PySem.W.kitOne K (.ref z.k_TooFew) (.ref z.k_NoNumber) = some false
  ki_TooFew_TooFew : PySem.W.kitOne K (.ref z.k_TooFew) (.ref z.k_TooFew) = some true
  ki_TooFew_TooMany : PySem.W.kitOne K (.ref z.k_TooFew) (.ref z.k_TooMany) = some false
  ki_TooFew_NoText : PySem.W.kitOne K (.ref z.k_TooFew) (.ref z.k_NoText) = some false
  ki_TooFew_NoName : PySem.W.kitOne K (.ref z.k_TooFew) (.ref z.k_NoName) = some false
  ki_TooFew_NoRow : PySem.W.kitOne K (.ref z.k_TooFew) (.ref z.k_NoRow) = some false
  ki_TooFew_NoPoly : PySem.W.kitOne K (.ref z.k_TooFew) (.ref z.k_NoPoly) = some false
  ki_TooFew_NoQuotient : PySem.W.kitOne K (.ref z.k_TooFew) (.ref z.k_NoQuotient) = some false
  ki_TooFew_NoWorths : PySem.W.kitOne K (.ref z.k_TooFew) (.ref z.k_NoWorths) = some false
  ki_TooFew_NoDegrees : PySem.W.kitOne K (.ref z.k_TooFew) (.ref z.k_NoDegrees) = some false
  sm : SMK K
  sys : ∃ o, base.get? sysModules = some o
  cd_is_readings : z.d_is_readings.code = .ref z.c_is_readings
  tb_is_readings : GxR.TabB base mg z.c_is_readings z.p_is_readings
  cd_keeps_all : z.d_keeps_all.code = .ref z.c_keeps_all
  tb_keeps_all : GxR.TabB base mg z.c_keeps_all z.p_keeps_all
  cd_put_together : z.d_put_together.code = .ref z.c_put_together
  tb_put_together : GxR.TabB base mg z.c_put_together z.p_put_together
/-! readings without None, as pairs of whole numbers -/
def rdD (l : List (Int × Int)) : List PyData := l.map fun q => .tuple [.int q.1, .int q.2]
def prodP (l : List (Int × Int)) : Int := (l.map (·.1)).foldl (· * ·) 1
structure RdOk (l : List (Int × Int)) : Prop where
  len : l.length ≤ 10
  ok : ∀ q ∈ l, primeB q.1 = true ∧ 0 ≤ q.2 ∧ q.2 < q.1
  nd : (l.map (·.1)).Nodup
theorem prodP_snoc {l : List (Int × Int)} {q : Int × Int} : prodP (l ++ [q]) = prodP l * q.1 := by
  unfold prodP
  rw [List.map_append, List.foldl_append]
  rfl
theorem take_snoc {α : Type} {l : List α} {i : Nat} {q : α} (h : l[i]? = some q) : l.take (i + 1) = l.take i ++ [q] := by
  rw [List.take_add_one, h]
  rfl
theorem prime_ne {p q : Int} (hp : primeB p = true) (hq : primeB q = true) (h : p ≠ q) : Int.gcd q p = 1 := by
  refine primeB_gcd hp fun e => ?_
  have lo := primeB_lo hp
  rcases primeB_div hq (Int.dvd_of_emod_eq_zero e) (by omega) with z | z
  · omega
  · exact h z
theorem gcd_mul1 {a b p : Int} (ha : Int.gcd a p = 1) (hb : Int.gcd b p = 1) : Int.gcd (a * b) p = 1 := by
  rw [Int.gcd_eq_natAbs_gcd_natAbs] at *
  rw [Int.natAbs_mul]
  exact Nat.Coprime.mul_left ha hb
theorem prodP_facts : ∀ (n : Nat) (l : List (Int × Int)), l.length = n → (∀ q ∈ l, primeB q.1 = true) → 0 < prodP l ∧ prodP l ≤ 1000 ^ n ∧ (∀ q ∈ l, q.1 ∣ prodP l) ∧ ∀ p, primeB p = true → (∀ q ∈ l, q.1 ≠ p) → Int.gcd (prodP l) p = 1
  | 0, l, h, _ => by
    have e : l = [] := List.length_eq_zero_iff.mp h
    subst e
    exact ⟨by decide, by decide, (fun q hq => by cases hq), fun p _ _ => Int.one_gcd⟩
  | n + 1, l, h, hp => by
    obtain ⟨l', q, rfl⟩ : ∃ l' q, l = l' ++ [q] := by
      refine ⟨l.dropLast, l.getLast (fun e => by rw [e] at h; cases h), (List.dropLast_concat_getLast _).symm⟩
    have h' : l'.length = n := by
      rw [List.length_append] at h
      have : l'.length + 1 = n + 1 := h
      omega
    obtain ⟨i1, i2, i3, i4⟩ := prodP_facts n l' h' fun x hx => hp x (List.mem_append_left _ hx)
    have hq := hp q (List.mem_append_right _ List.mem_cons_self)
    have lo := primeB_lo hq
    rw [prodP_snoc]
    refine ⟨Int.mul_pos i1 (by omega), ?_, fun x hx => ?_, fun p hpp hne => ?_⟩
    · rw [Int.pow_succ]
      exact Int.mul_le_mul i2 (by omega) (by omega) (by exact Int.le_trans (Int.le_of_lt i1) i2)
    · rcases List.mem_append.mp hx with z | z
      · exact Int.dvd_mul_of_dvd_left (i3 x z)
      · rcases List.mem_cons.mp z with rfl | z
        · exact Int.dvd_mul_left _ _
        · cases z
    · exact gcd_mul1 (i4 p hpp fun x hx => hne x (List.mem_append_left _ hx)) (prime_ne hpp hq fun z => hne q (List.mem_append_right _ List.mem_cons_self) z.symm)
theorem prodP_small {l : List (Int × Int)} (hl : l.length ≤ 10) (hp : ∀ q ∈ l, primeB q.1 = true) : 0 < prodP l ∧ prodP l ≤ 1000000000000000000000000000000 := by
  obtain ⟨h1, h2, _⟩ := prodP_facts l.length l rfl hp
  refine ⟨h1, Int.le_trans h2 ?_⟩
  have : (1000 : Int) ^ l.length ≤ 1000 ^ 10 := by
    exact_mod_cast Nat.pow_le_pow_right (by decide : 0 < 1000) hl
  exact Int.le_trans this (by decide)
theorem crt_step {m w p r i : Int} (hm : 0 < m) (w0 : 0 ≤ w) (w1 : w < m) (hp : 1 < p) (hi : i * m % p = 1) (r0 : 0 ≤ r) (r1 : r < p) :
    0 ≤ (r - w) * i % p ∧ (r - w) * i % p < p ∧ 0 ≤ w + m * ((r - w) * i % p) ∧ w + m * ((r - w) * i % p) < m * p ∧ (w + m * ((r - w) * i % p)) % p = r := by
  have s0 := Int.emod_nonneg ((r - w) * i) (show p ≠ 0 by omega)
  have s1 := Int.emod_lt_of_pos ((r - w) * i) (show 0 < p by omega)
  have e1 := Int.emod_add_mul_ediv ((r - w) * i) p
  have e2 := Int.emod_add_mul_ediv (i * m) p
  rw [hi] at e2
  generalize (r - w) * i / p = x at e1
  generalize i * m / p = y at e2
  generalize (r - w) * i % p = s at *
  have a1 : 0 ≤ m * s := Int.mul_nonneg (by omega) s0
  have a2 : m * s ≤ m * (p - 1) := Int.mul_le_mul_of_nonneg_left (by omega) (by omega)
  rw [Int.mul_sub, Int.mul_one] at a2
  refine ⟨s0, s1, by omega, by omega, ?_⟩
  have e3 : w + m * s = r + p * ((r - w) * y - m * x) := by grind
  rw [e3, Int.add_mul_emod_self_left]
  exact Int.emod_eq_of_lt r0 r1
theorem erase_map {α β : Type} (f : α → β) : ∀ (l : List α) (k : Nat), (l.map f).eraseIdx k = (l.eraseIdx k).map f
  | [], _ => rfl
  | _ :: _, 0 => rfl
  | x :: l, k + 1 => by
    show f x :: (l.map f).eraseIdx k = f x :: (l.eraseIdx k).map f
    rw [erase_map f l k]
theorem seqIx {i : Int} {n : Nat} (h0 : 0 ≤ i) (h1 : i < n) : seqIndex? i n = some i.toNat := by
  unfold seqIndex?
  have e : (if i < 0 then i + (n : Int) else i) = i := if_neg (by omega)
  show (if (decide (0 ≤ (if i < 0 then i + (n : Int) else i)) && decide ((if i < 0 then i + (n : Int) else i) < n)) = true then some (if i < 0 then i + (n : Int) else i).toNat else none) = _
  rw [e, decide_eq_true h0, decide_eq_true h1]
  rfl
theorem cut16 : cutV (primesL.map V.int) none (some 16) = (primesL.take 16).map V.int := by decide +kernel
theorem cut152 : cutV (primesL.map V.int) (some 152) none = (primesL.drop 152).map V.int := by decide +kernel
theorem primesL_nd : primesL.Nodup := by decide +kernel
/-- what is left to be drawn from -/
structure LeftOk (qs : List Int) (k : Nat) : Prop where
  nd : qs.Nodup
  pr : ∀ x ∈ qs, x ∈ primesL
  lo : 16 ≤ qs.length + k
  hi : qs.length ≤ 168
theorem left_three : LeftOk (primesL.take 16) 0 ∧ LeftOk primesL 0 ∧ LeftOk (primesL.drop 152) 0 := by
  have l1 : (primesL.take 16).length = 16 := by decide +kernel
  have l2 : (primesL.drop 152).length = 16 := by decide +kernel
  refine ⟨⟨primesL_nd.sublist (List.take_sublist _ _), fun x h => List.mem_of_mem_take h, by omega, by omega⟩, ⟨primesL_nd, fun x h => h, ?_, ?_⟩, ⟨primesL_nd.sublist (List.drop_sublist _ _), fun x h => List.mem_of_mem_drop h, by omega, by omega⟩⟩
  · rw [primesL_len]
    decide
  · rw [primesL_len]
    decide
theorem LeftOk.pop {qs : List Int} {k i : Nat} {p : Int} (h : LeftOk qs k) (hi : qs[i]? = some p) : LeftOk (qs.eraseIdx i) (k + 1) ∧ p ∈ primesL ∧ p ∉ qs.eraseIdx i ∧ ∀ x ∈ qs.eraseIdx i, x ∈ qs := by
  obtain ⟨hl, he⟩ := List.getElem?_eq_some_iff.mp hi
  have len : (qs.eraseIdx i).length + 1 = qs.length := by
    rw [List.length_eraseIdx_of_lt hl]
    omega
  have sub : ∀ x ∈ qs.eraseIdx i, x ∈ qs := fun x hx => List.mem_of_mem_eraseIdx hx
  have h1 := h.lo
  have h2 := h.hi
  refine ⟨⟨h.nd.sublist (List.eraseIdx_sublist _ _), fun x hx => h.pr x (sub x hx), by omega, by omega⟩, h.pr p (List.mem_of_getElem? hi), fun hm => ?_, sub⟩
  obtain ⟨j, hj⟩ := List.getElem?_of_mem hm
  rw [List.getElem?_eraseIdx] at hj
  have key : ∀ {a b : Nat}, a ≠ b → qs[a]? = some p → qs[b]? = some p → False := fun {a b} hab ha hb => by
    obtain ⟨la, ea⟩ := List.getElem?_eq_some_iff.mp ha
    obtain ⟨lb, eb⟩ := List.getElem?_eq_some_iff.mp hb
    have nd := List.pairwise_iff_getElem.mp h.nd
    rcases Nat.lt_or_gt_of_ne hab with z | z
    · exact nd a b la lb z (by rw [ea, eb])
    · exact nd b a lb la z (by rw [ea, eb])
  split at hj
  · exact key (by omega) hj hi
  · exact key (by omega) hj hi
theorem AccL.dr {H H' : Hp} {B D : Addr} {ds : List PyData} (h : AccL H D ds) (hB : IsL H B) (n : D ≠ B) (e : ExB B H H') : AccL H' D ds := by
  obtain ⟨acc, h1, h2, h3⟩ := h
  exact ⟨acc, e _ _ n h1, DtAll.monoB hB e _ _ h3 h2, h3⟩
theorem PoolB.dr2 {H H' : Hp} {B pa : Addr} {n : Nat} (h : PoolB H pa n) (hn : pa ≠ B) (e : ExB B H H') : PoolB H' pa n := by
  obtain ⟨a, b, c, h, h2⟩ := h
  exact ⟨a, b, c, e _ _ hn h, h2⟩
theorem RdOk.snoc {l : List (Int × Int)} {p r : Int} (h : RdOk l) (hl : l.length < 10) (hp : primeB p = true) (r0 : 0 ≤ r) (r1 : r < p) (hn : p ∉ l.map (·.1)) : RdOk (l ++ [(p, r)]) := by
  refine ⟨by rw [List.length_append]; show l.length + 1 ≤ 10; omega, fun q hq => ?_, ?_⟩
  · rcases List.mem_append.mp hq with z | z
    · exact h.ok q z
    · rcases List.mem_cons.mp z with rfl | z
      · exact ⟨hp, r0, r1⟩
      · cases z
  · rw [List.map_append]
    refine List.nodup_append.mpr ⟨h.nd, by simp, fun a ha b hb => ?_⟩
    have hb : b = p := by simpa using hb
    rw [hb]
    exact fun z => hn (z ▸ ha)
/-- what put_together tells of these readings -/
structure Told (l : List (Int × Int)) (w : Int) : Prop where
  lo : 0 ≤ w
  hi : w < prodP l
  each : ∀ q ∈ l, w % q.1 = q.2
theorem rd_get {H : Hp} {xs : List V} {l : List (Int × Int)} (hx : DtAll H xs (rdD l)) {i : Nat} {x : V} (hi : xs[i]? = some x) : ∃ q b, l[i]? = some q ∧ x = .ref b ∧ H b = some (.tup [.int q.1, .int q.2]) := by
  obtain ⟨d, hd, hxd⟩ := hx.get i hi
  unfold rdD at hd
  rw [List.getElem?_map] at hd
  cases hq : l[i]? with
  | none =>
    rw [hq] at hd
    cases hd
  | some q =>
    rw [hq] at hd
    have hd := Option.some.inj hd
    subst hd
    obtain ⟨b, ys, rfl, hb, hys⟩ := hxd.tup_get
    have := DtAll.ints_eq [q.1, q.2] hys
    subst this
    exact ⟨q, b, rfl, rfl, hb⟩
theorem erase_perm {α : Type} : ∀ (l : List α) (k : Nat) (q : α), l[k]? = some q → (q :: l.eraseIdx k).Perm l
  | [], _, _, h => by simp at h
  | x :: l, 0, q, h => by
    have h : x = q := Option.some.inj h
    rw [h]
    exact List.Perm.refl _
  | x :: l, k + 1, q, h => (List.Perm.swap x q (l.eraseIdx k)).trans ((erase_perm l k q h).cons x)
theorem foldl_mul : ∀ (l : List Int) (a : Int), l.foldl (· * ·) a = a * l.foldl (· * ·) 1
  | [], a => (Int.mul_one a).symm
  | x :: l, a => by
    show l.foldl (· * ·) (a * x) = a * l.foldl (· * ·) (1 * x)
    rw [foldl_mul l (a * x), foldl_mul l (1 * x), Int.one_mul, Int.mul_assoc]
theorem prodP_cons {q : Int × Int} {l : List (Int × Int)} : prodP (q :: l) = q.1 * prodP l := by
  show (l.map (·.1)).foldl (· * ·) (1 * q.1) = q.1 * (l.map (·.1)).foldl (· * ·) 1
  rw [foldl_mul, Int.one_mul]
theorem prodP_perm {l l' : List (Int × Int)} (h : l.Perm l') : prodP l = prodP l' := by
  induction h with
  | nil => rfl
  | cons q _ ih => rw [prodP_cons, prodP_cons, ih]
  | swap q r l =>
    rw [prodP_cons, prodP_cons, prodP_cons, prodP_cons, ← Int.mul_assoc, ← Int.mul_assoc, Int.mul_comm r.1 q.1]
  | trans _ _ i1 i2 => rw [i1, i2]
theorem RdOk.perm {l l' : List (Int × Int)} (h : RdOk l) (p : l'.Perm l) : RdOk l' :=
  ⟨by rw [p.length_eq]; exact h.len, fun q hq => h.ok q (p.mem_iff.mp hq), (p.map _).nodup_iff.mpr h.nd⟩
theorem RdOk.sub {l l' : List (Int × Int)} (h : RdOk l) (s : l'.Sublist l) : RdOk l' :=
  ⟨Nat.le_trans s.length_le h.len, fun q hq => h.ok q (s.subset hq), h.nd.sublist (s.map _)⟩
theorem Told.perm {l l' : List (Int × Int)} {w : Int} (h : Told l w) (p : l'.Perm l) : Told l' w := ⟨h.lo, by rw [prodP_perm p]; exact h.hi, fun q hq => h.each q (p.mem_iff.mp hq)⟩
theorem dvd_both {m p d : Int} (h1 : m ∣ d) (h2 : p ∣ d) (h : Int.gcd m p = 1) : m * p ∣ d := by
  rw [← Int.natAbs_dvd_natAbs] at *
  rw [Int.gcd_eq_natAbs_gcd_natAbs] at h
  rw [Int.natAbs_mul]
  exact Nat.Coprime.mul_dvd_of_dvd_of_dvd h h1 h2
theorem prodP_dvd : ∀ (n : Nat) (l : List (Int × Int)) (d : Int), l.length = n → (∀ q ∈ l, primeB q.1 = true) → (l.map (·.1)).Nodup → (∀ q ∈ l, q.1 ∣ d) → prodP l ∣ d
  | 0, l, d, h, _, _, _ => by
    have e : l = [] := List.length_eq_zero_iff.mp h
    subst e
    exact Int.one_dvd d
  | n + 1, l, d, h, hp, nd, hd => by
    match l, h with
    | q :: l, h =>
      have h' : l.length = n := Nat.succ.inj h
      have nd' : q.1 ∉ l.map (·.1) ∧ (l.map (·.1)).Nodup := List.nodup_cons.mp nd
      have hpl : ∀ x ∈ l, primeB x.1 = true := fun x hx => hp x (List.mem_cons_of_mem _ hx)
      have i := prodP_dvd n l d h' hpl nd'.2 fun x hx => hd x (List.mem_cons_of_mem _ hx)
      obtain ⟨_, _, _, co⟩ := prodP_facts _ l rfl hpl
      have g := co q.1 (hp q List.mem_cons_self) fun x hx z => nd'.1 (List.mem_map.mpr ⟨x, hx, z⟩)
      rw [prodP_cons, Int.mul_comm]
      exact dvd_both i (hd q List.mem_cons_self) g
theorem Told.uniq {l : List (Int × Int)} {w w' : Int} (hR : RdOk l) (h : Told l w) (h' : Told l w') : w = w' := by
  have d : prodP l ∣ w - w' := prodP_dvd _ l _ rfl (fun q hq => (hR.ok q hq).1) hR.nd fun q hq => by
    have := h.each q hq
    rw [← h'.each q hq] at this
    exact Int.dvd_of_emod_eq_zero (Int.emod_eq_emod_iff_emod_sub_eq_zero.mp this)
  obtain ⟨c, hc⟩ := d
  have := h.lo
  have := h.hi
  have := h'.lo
  have := h'.hi
  have hpos : 0 < prodP l := by omega
  rcases Int.lt_trichotomy c 0 with z | z | z
  · have : prodP l * c ≤ prodP l * (-1) := Int.mul_le_mul_of_nonneg_left (by omega) (by omega)
    omega
  · rw [z] at hc
    omega
  · have : prodP l * 1 ≤ prodP l * c := Int.mul_le_mul_of_nonneg_left (by omega) (by omega)
    omega
theorem rd_lay (l : List (Int × Int)) : (PyData.list (rdD l)).canLay0 = true ∧ (PyData.list (rdD l)).depth ≤ 2 := lay_list (k := 1) fun d hd => by
  obtain ⟨q, _, rfl⟩ := List.mem_map.mp hd
  exact lay_pair q.1 q.2
theorem rd_app (l l' : List (Int × Int)) : rdD (l ++ l') = rdD l ++ rdD l' := List.map_append ..
theorem DtAll.cut {H : Hp} : ∀ {vs : List V} {ds : List PyData} (k : Nat), DtAll H vs ds → DtAll H (vs.eraseIdx k) (ds.eraseIdx k)
  | _, _, _, .nil => .nil
  | _, _, 0, .cons _ b => b
  | _, _, k + 1, .cons a b => .cons a (b.cut k)
theorem DtAll.rev {H : Hp} : ∀ {vs : List V} {ds : List PyData}, DtAll H vs ds → DtAll H vs.reverse ds.reverse
  | _, _, .nil => .nil
  | _, _, .cons a b => by
    rw [List.reverse_cons, List.reverse_cons]
    exact b.rev.app (.cons a .nil)
theorem DtAll.tk {H : Hp} : ∀ {vs : List V} {ds : List PyData} (k : Nat), DtAll H vs ds → DtAll H (vs.take k) (ds.take k)
  | _, _, 0, _ => by
    rw [List.take_zero, List.take_zero]
    exact .nil
  | _, _, k + 1, .nil => .nil
  | _, _, k + 1, .cons a b => .cons a (b.tk k)
theorem cut1 (xs : List V) : cutV xs none (some 1) = xs.take 1 := by
  match xs with
  | [] => rfl
  | [x] => rfl
  | x :: y :: r =>
    unfold cutV
    rfl
/-! readings, also with None -/
def rdN (l : List (Int × Option Int)) : List PyData := l.map fun q => .tuple [.int q.1, oD q.2]
structure RdN (l : List (Int × Option Int)) : Prop where
  len : l.length ≤ 10
  ok : ∀ q ∈ l, primeB q.1 = true ∧ ∀ r, q.2 = some r → 0 ≤ r ∧ r < q.1
  nd : (l.map (·.1)).Nodup
theorem Dt.o_get {H : Hp} {v : V} {e : Option Int} (h : Dt H v (oD e)) : v = oV e := by
  cases e <;> cases h <;> rfl
theorem Dt.o {H : Hp} (e : Option Int) : Dt H (oV e) (oD e) := by
  cases e
  · exact .non
  · exact .int _
def keepsB (t b p : Int) : Option Int → Bool
  | none => decide (b % p = 0)
  | some r => decide ((r * b - t) % p = 0)
def atN (l : List (Int × Option Int)) (x : Int) : Int × Option Int := l.getD x.toNat (0, none)
def nkD (t b : Int) (l : List (Int × Option Int)) : List PyData := ((irng 0 l.length).filter fun x => !keepsB t b (atN l x).1 (atN l x).2).map PyData.int
theorem atN_get {l : List (Int × Option Int)} {i : Nat} {q : Int × Option Int} (h : l[i]? = some q) : atN l (0 + (i : Int)) = q := by
  unfold atN
  rw [show (0 + (i : Int)).toNat = i by omega, List.getD_eq_getElem?_getD, h]
  rfl
theorem rdN_get {H : Hp} {xs : List V} {l : List (Int × Option Int)} (hx : DtAll H xs (rdN l)) {i : Nat} {x : V} (hi : xs[i]? = some x) : ∃ q b, l[i]? = some q ∧ x = .ref b ∧ H b = some (.tup [.int q.1, oV q.2]) := by
  obtain ⟨d, hd, hxd⟩ := hx.get i hi
  unfold rdN at hd
  rw [List.getElem?_map] at hd
  cases hq : l[i]? with
  | none =>
    rw [hq] at hd
    cases hd
  | some q =>
    rw [hq] at hd
    have e : PyData.tuple [.int q.1, oD q.2] = d := Option.some.inj hd
    subst e
    obtain ⟨b, ys, rfl, hb, hys⟩ := hxd.tup_get
    cases hys with
    | cons h1 hys => cases hys with
      | cons h2 hys =>
        cases hys
        cases h1
        rw [h2.o_get] at hb
        exact ⟨q, b, rfl, rfl, hb⟩
theorem rdN_snoc {l : List (Int × Option Int)} {q : Int × Option Int} : rdN (l ++ [q]) = rdN l ++ [.tuple [.int q.1, oD q.2]] := List.map_append ..
theorem RdN.snoc {l : List (Int × Option Int)} {p : Int} {e : Option Int} (h : RdN l) (hl : l.length < 10) (hp : primeB p = true) (he : ∀ r, e = some r → 0 ≤ r ∧ r < p) (hn : p ∉ l.map (·.1)) : RdN (l ++ [(p, e)]) := by
  refine ⟨by rw [List.length_append]; show l.length + 1 ≤ 10; omega, fun q hq => ?_, ?_⟩
  · rcases List.mem_append.mp hq with z | z
    · exact h.ok q z
    · rcases List.mem_cons.mp z with rfl | z
      · exact ⟨hp, he⟩
      · cases z
  · rw [List.map_append]
    refine List.nodup_append.mpr ⟨h.nd, by simp, fun a ha b hb => ?_⟩
    have hb : b = p := by simpa using hb
    rw [hb]
    exact fun z => hn (z ▸ ha)
/-- what is kept is its own rest -/
theorem keeps_rest {t b p : Int} {e : Option Int} (hg : Int.gcd t b = 1) (hp : primeB p = true) (he : ∀ r, e = some r → 0 ≤ r ∧ r < p) : keepsB t b p e = true ↔ restD t b p = oD e := by
  have lo := primeB_lo hp
  by_cases z : b % p = 0
  · rw [restD_none z]
    cases e with
    | none => exact ⟨fun _ => rfl, fun _ => decide_eq_true z⟩
    | some r =>
      refine ⟨fun h => ?_, fun h => nomatch h⟩
      have h : (r * b - t) % p = 0 := of_decide_eq_true h
      have d1 := Int.dvd_of_emod_eq_zero z
      have d2 : p ∣ t := by
        have := Int.dvd_sub (Int.dvd_mul_of_dvd_right (b := r) d1) (Int.dvd_of_emod_eq_zero h)
        rwa [show r * b - (r * b - t) = t by omega] at this
      have d3 := Int.dvd_coe_gcd d2 d1
      rw [hg] at d3
      have := Int.le_of_dvd (by decide) d3
      omega
  · obtain ⟨r', e1, r0, r1, hr⟩ := restD_ok (t := t) hp z
    rw [e1]
    cases e with
    | none =>
      refine ⟨fun h => ?_, fun h => nomatch h⟩
      exact absurd (of_decide_eq_true h) z
    | some r =>
      obtain ⟨s0, s1⟩ := he r rfl
      constructor
      · intro h
        have h : (r * b - t) % p = 0 := of_decide_eq_true h
        have := restI_eq (primeB_gcd hp z) s0 s1 h
        unfold restD at e1
        rw [if_neg z] at e1
        rw [← e1, this]
        rfl
      · intro h
        have h : PyData.int r' = .int r := h
        cases h
        exact decide_eq_true hr
/-- .. over enumerate(..) of a list -/
theorem lc_enum {K : PySem.W.Frag} {a : Addr} {xs : List V} {g : TG} {tt : TT} {te : TE} {vs : List Nat} {σ : L2.St} {H1 : Hp} {D : Addr} {Qd : Hp → Prop} (Pv : Nat → Hp → Prop) (h0 : Pv 0 (upd H1 D (.lst []))) (hl : ∀ i H, i ≤ xs.length → Pv i H → SqL K H a xs)
    (hs : ∀ i x T H, xs[i]? = some x → Pv i H → H T = none → g (.ref T) (wipe σ vs) (upd H T (.tup [.int (i : Nat), x])) fun σ2 H2 => wipe σ2 vs = wipe σ vs ∧ tt σ2 H2 fun b H3 =>
      if b = true then te σ2 H3 fun y H4 => ∃ acc, H4 D = some (.lst acc) ∧ acc.length < sizeLine ∧ Pv (i + 1) (upd H4 D (.lst (acc ++ [y]))) else Pv (i + 1) H3) (hd : ∀ H, Pv xs.length H → Qd H) :
    ∃ W : Nat → Nat → Hp → Prop, (∃ m, W 0 m (upd H1 D (.lst []))) ∧ ∀ i m H, W i m H →
      ((Ite K a).stop i H ∧ Qd H) ∨ ((Ite K a).go i H ∧ ∃ Nx : Hp → Prop, (∀ H', Nx H' → ∃ m', m' < m ∧ W (i + 1) m' H') ∧ ∀ x H', (Ite K a).yld i H x H' → g x (wipe σ vs) H' fun σ2 H2 => wipe σ2 vs = wipe σ vs ∧ tt σ2 H2 fun b H3 =>
        if b = true then te σ2 H3 fun y H4 => ∃ acc, H4 D = some (.lst acc) ∧ acc.length < sizeLine ∧ Nx (upd H4 D (.lst (acc ++ [y]))) else Nx H3) := by
  refine ⟨fun i m H => m = xs.length - i ∧ i ≤ xs.length ∧ Pv i H, ⟨xs.length, by simp, Nat.zero_le _, h0⟩, fun i m H hW => ?_⟩
  obtain ⟨hm, hi, hp⟩ := hW
  have hq := hl i H hi hp
  by_cases z : i < xs.length
  · refine .inr ⟨⟨xs, xs[i], hq, List.getElem?_eq_getElem z⟩, fun H' => Pv (i + 1) H', fun H' h => ⟨xs.length - (i + 1), by omega, rfl, by omega, h⟩, fun x H' hy => ?_⟩
    obtain ⟨T, x, rfl, hT, rfl, hx⟩ := hy
    exact hs i x T H (hx xs hq) hp hT
  · have e : i = xs.length := by omega
    exact .inl ⟨⟨xs, hq, by omega⟩, hd H (e ▸ hp)⟩
theorem en_lcE {K : PySem.W.Frag} {σ : L2.St} {H : Hp} {ta : TA} {t : TT} {te : TE} {ds : List PyData} {g0 : TG} {vs : List Nat} (st : Int → V → L2.St) (f : Int → Bool) (g : Int → PyData) (h : EvDA ta σ H [.list ds]) (hz : ds.length ≤ 40000)
    (hw : ∀ (i : Nat) x T H1 Q, H1 T = some (.tup [.int i, x]) → (wipe (st (0 + (i : Int)) x) vs = wipe σ vs → Q (st (0 + (i : Int)) x) H1) → g0 (.ref T) (wipe σ vs) H1 Q) (hst : ∀ i x, wipe (st i x) vs = wipe σ vs)
    (ht : ∀ H1 (i : Nat) v d, Ex H H1 → ds[i]? = some d → Dt H1 v d → EvT t (st (0 + (i : Int)) v) H1 (f (0 + (i : Int)))) (he : ∀ H1 (i : Nat) v d, Ex H H1 → ds[i]? = some d → Dt H1 v d → f (0 + (i : Int)) = true → EvD te (st (0 + (i : Int)) v) H1 (g (0 + (i : Int)))) (hn : ∀ i, noL (g i) = true) :
    EvN (tLc (iEnum K ta) g0 t te vs) σ H (((irng 0 ds.length).filter f).map g) := fun H0 e Q q => h H0 e _ fun ws H1 e1 hv => by
  obtain ⟨v, rfl, hv'⟩ : ∃ v, ws = [v] ∧ Dt H1 v (.list ds) := by
    cases hv with
    | cons h1 h2 =>
      cases h2
      exact ⟨_, rfl, h1⟩
  obtain ⟨a, xs, rfl, ha, hx⟩ := hv'.lst_get
  refine ⟨a, xs, rfl, sq_of ha, fun D hD => lc_enum (xs := xs) (fun i H' => Ex H1 H' ∧ AccL H' D ((((irng 0 ds.length).take i).filter f).map g)) ⟨Ex.new hD, AccL.new⟩ (fun i H' _ p => sq_of (p.1 a _ ha)) (fun i x T H' hi p hT => ?_) (fun H' p => ?_)⟩
  · obtain ⟨d, hd, hxd⟩ := hx.get i hi
    have eT : Ex H' (upd H' T (.tup [.int (i : Nat), x])) := Ex.new hT
    obtain ⟨hil, _⟩ := List.getElem?_eq_some_iff.mp hd
    refine hw i x T _ _ upd_same fun _ => ⟨hst _ _, ?_⟩
    rw [take_flt f g (irng_get (show i < (((ds.length : Nat) : Int) - 0).toNat by omega))]
    have pT : Ex H1 (upd H' T (.tup [.int (i : Nat), x])) ∧ AccL (upd H' T (.tup [.int (i : Nat), x])) D ((((irng 0 ds.length).take i).filter f).map g) := ⟨p.1.trans eT, p.2.up eT⟩
    refine lc_turn pT hD ?_ (ht H1 i x d (e.trans e1) hd hxd) (fun hf => he H1 i x d (e.trans e1) hd hxd hf) (fun _ => hn _)
    have := flt_len f g (irng 0 ds.length) i
    rw [irng_len] at this
    omega
  · rw [hx.len, List.take_of_length_le (by rw [irng_len]; omega)] at p
    exact q D H' (fresh_back e1 hD) (e1.trans p.1) p.2
theorem go_retop {r : R2} {ta tb : TE} {D : Ends} {σ : L2.St} {H : Hp} (h : ta σ H fun x H1 => tb σ H1 fun y H2 => r x y H2 D.rt) : tRet (tOp r ta tb) D σ H := h
theorem go_next {D : Ends} {σ : L2.St} {H : Hp} (h : D.nx σ H) : tNext D σ H := h
theorem inV_ints {x : Int} {ps : List Int} : inV (.int x) (ps.map V.int) = true ↔ x ∈ ps := by
  unfold inV
  rw [List.any_eq_true]
  constructor
  · intro h
    obtain ⟨y, hy, e⟩ := h
    obtain ⟨p, hp, rfl⟩ := List.mem_map.mp hy
    have e : (p == x) = true := e
    rw [← eq_of_beq e]
    exact hp
  · intro h
    exact ⟨.int x, List.mem_map.mpr ⟨x, h, rfl⟩, beq_self_eq_true x⟩
theorem flat_ints (ps : List Int) : (ps.map V.int).all flatV = true := List.all_eq_true.mpr fun y hy => by
  obtain ⟨p, _, rfl⟩ := List.mem_map.mp hy
  rfl
theorem go_op {r : R2} {ta tb : TE} {σ : L2.St} {H : Hp} {Q : VK} (h : ta σ H fun x H1 => tb σ H1 fun y H2 => r x y H2 Q) : tOp r ta tb σ H Q := h
theorem go_sl {r : V → Option Int → Option Int → Hp → VK → Prop} {te : TE} {tl th : TO} {σ : L2.St} {H : Hp} {Q : VK} (h : te σ H fun x H1 => tl σ H1 fun l H2 => th σ H2 fun u H3 => r x l u H3 Q) : tSl r te tl th σ H Q := h
theorem cutTo (xs : List V) (k : Nat) : cutV xs none (some (k : Int)) = xs.take k := by
  unfold cutV
  rw [HT.sIx_none, HT.sIx_nat, List.drop_zero, Nat.sub_zero]
  by_cases h : k ≤ xs.length
  · rw [Nat.min_eq_left h]
  · rw [Nat.min_eq_right (by omega), List.take_of_length_le (Nat.le_refl _), List.take_of_length_le (by omega)]
/-- each but where it stood ahead -/
def iAt (L : List Int) (x : Int) : Int := L.getD x.toNat 0
def ddF (L : List Int) (x : Int) : Bool := !inV (.int (iAt L x)) ((L.take x.toNat).map V.int)
def ddL (L : List Int) : List Int := ((irng 0 L.length).filter (ddF L)).map (iAt L)
theorem iAt_get {L : List Int} {x : Int} (h0 : 0 ≤ x) (h1 : x < L.length) : L[x.toNat]? = some (iAt L x) := by
  have h : x.toNat < L.length := by omega
  unfold iAt
  rw [List.getD_eq_getElem?_getD, List.getElem?_eq_getElem h]
  rfl
theorem ddL_ok (L : List Int) : (ddL L).Nodup ∧ (∀ x ∈ ddL L, x ∈ L) ∧ (ddL L).length ≤ L.length := by
  have up : List.Pairwise (fun a b : Int => a < b) (irng 0 L.length) := by
    unfold irng
    exact List.pairwise_map.mpr (List.pairwise_lt_range.imp fun h => by omega)
  refine ⟨List.pairwise_map.mpr ((up.sublist List.filter_sublist).imp_of_mem fun {a b} ha hb hab => fun e => ?_), fun x hx => ?_, ?_⟩
  · obtain ⟨a1, a2⟩ := irng_mem.mp (List.mem_filter.mp ha).1
    obtain ⟨hb1, hb2⟩ := List.mem_filter.mp hb
    obtain ⟨b1, b2⟩ := irng_mem.mp hb1
    have hm : iAt L b ∈ L.take b.toNat := by
      rw [← e]
      refine List.mem_of_getElem? (i := a.toNat) ?_
      rw [List.getElem?_take_of_lt (by omega)]
      exact iAt_get a1 (by omega)
    unfold ddF at hb2
    rw [inV_ints.mpr hm] at hb2
    cases hb2
  · obtain ⟨i, hi, rfl⟩ := List.mem_map.mp hx
    obtain ⟨a1, a2⟩ := irng_mem.mp (List.mem_filter.mp hi).1
    exact List.mem_of_getElem? (iAt_get a1 a2)
  · unfold ddL
    rw [List.length_map]
    refine Nat.le_trans (List.length_filter_le _ _) ?_
    rw [irng_len]
    omega
/-! ### a generator expression that captures names of its def -/
theorem genZ_cap {qual : Str} {sc scope : Scope} {L f : Addr} {cd : Value} (h : (decide (scope.kind = .function) && (!scope.isCoroutine) && (scope.names.all fun y => decide (y.2 ≠ .cell) && (decide (y.2 ≠ .free) || decide (sc.names.lookup y.1 = some .cell))) && decide (scope.names.lookup (".0" : Str) = some NameKind.local)) = true) : GenZ (envOfC qual sc L f cd) scope := by
  obtain ⟨h, h4⟩ := Bool.and_eq_true_iff.mp h
  obtain ⟨h, h3⟩ := Bool.and_eq_true_iff.mp h
  obtain ⟨h1, h2⟩ := Bool.and_eq_true_iff.mp h
  have h3 := List.all_eq_true.mp h3
  refine ⟨of_decide_eq_true h1, by simpa using h2, fun y hy => ?_, of_decide_eq_true h4, fun y hy e => ?_⟩
  · exact of_decide_eq_true (Bool.and_eq_true_iff.mp (h3 y hy)).1
  · rcases Bool.or_eq_true_iff.mp (Bool.and_eq_true_iff.mp (h3 y hy)).2 with z | z
    · exact absurd e (of_decide_eq_true z)
    · exact cell_has (of_decide_eq_true z)
theorem capsOf {N XN : List Str} {no : Nat} {cap : List Nat} {qual : Str} {sc scope : Scope} {L f : Addr} {cd : Value}
    (h : ((List.range cap.length).all fun j => match cap[j]?, N[no + j]? with | some ci, some y => decide (XN[ci]? = some y) && (decide (scope.names.lookup y = some .free) && decide (sc.names.lookup y = some .cell)) | _, _ => false) = true) :
    ∀ j ci, cap[j]? = some ci → ∃ y, N[no + j]? = some y ∧ XN[ci]? = some y ∧ scope.names.lookup y = some .free ∧ ((envOfC qual sc L f cd).kindOf y = some .cell ∨ (envOfC qual sc L f cd).kindOf y = some .free) := fun j ci hc => by
  obtain ⟨hl, _⟩ := List.getElem?_eq_some_iff.mp hc
  have := List.all_eq_true.mp h j (List.mem_range.mpr hl)
  rw [hc] at this
  cases hy : N[no + j]? with
  | none =>
    rw [hy] at this
    cases this
  | some y =>
    rw [hy] at this
    obtain ⟨a1, a2⟩ := Bool.and_eq_true_iff.mp this
    obtain ⟨a2, a3⟩ := Bool.and_eq_true_iff.mp a2
    exact ⟨y, rfl, of_decide_eq_true a1, of_decide_eq_true a2, .inl (of_decide_eq_true a3)⟩
/-! ### the rows of fractions -/
theorem sel_mem {f : Nat → Bool} {g : Nat → PyData} {x : PyData} : ∀ {j : Nat}, x ∈ sel f g j → ∃ t, t < j ∧ f t = true ∧ x = g t
  | 0, h => nomatch h
  | j + 1, h => by
    have h : x ∈ sel f g j ++ (if f j = true then [g j] else []) := h
    rcases List.mem_append.mp h with z | z
    · obtain ⟨t, h1, h2, h3⟩ := sel_mem z
      exact ⟨t, by omega, h2, h3⟩
    · by_cases hf : f j = true
      · rw [if_pos hf] at z
        rcases List.mem_cons.mp z with rfl | z
        · exact ⟨j, by omega, hf, rfl⟩
        · cases z
      · rw [if_neg hf] at z
        cases z
theorem frows_mem {n : Int} {x : PyData} (n0 : 0 ≤ n) : ∀ {i : Nat}, x ∈ frows n i → ∃ t b, x = .tuple [.int t, .int b] ∧ -n ≤ t ∧ t ≤ n ∧ 1 ≤ b ∧ b ≤ (i : Int) ∧ Int.gcd t b = 1
  | 0, h => nomatch h
  | i + 1, h => by
    have h : x ∈ frows n i ++ frow n (1 + (i : Int)) (2 * n + 1).toNat := h
    rcases List.mem_append.mp h with z | z
    · obtain ⟨t, b, h1, h2, h3, h4, h5, h6⟩ := frows_mem n0 z
      exact ⟨t, b, h1, h2, h3, h4, by omega, h6⟩
    · obtain ⟨t, h1, h2, h3⟩ := sel_mem z
      exact ⟨-n + (t : Int), 1 + (i : Int), h3, by omega, by omega, by omega, by omega, of_decide_eq_true h2⟩
/-! ### what is a rest, a reading, readings: of all data -/
def dRest (p : Int) : PyData → Bool
  | .none => true
  | .int r => decide (0 ≤ r) && decide (r < p)
  | _ => false
theorem Dt.non_iff {H : Hp} {v : V} {d : PyData} (h : Dt H v d) : decide (v = .non) = (match d with | .none => true | _ => false) := by
  cases h <;> first | rfl | exact decide_eq_false (fun z => nomatch z) | exact decide_eq_true rfl
def dReading : PyData → Bool
  | .tuple [d, e] => dPrime d && (match d with | .int p => dRest p e | _ => false)
  | _ => false
theorem dReading_pair {d : PyData} (h : dPair d = false) : dReading d = false := by
  match d, h with
  | .tuple [], _ => simp [dReading]
  | .tuple [_], _ => simp [dReading]
  | .tuple [_, _], h => exact nomatch h
  | .tuple (_ :: _ :: _ :: _), _ => simp [dReading]
  | .none, _ => rfl
  | .bool _, _ => rfl
  | .int _, _ => rfl
  | .str _, _ => rfl
  | .list _, _ => rfl
  | .dict _, _ => rfl
def dFst : PyData → Int
  | .tuple (.int p :: _) => p
  | _ => 0
def fstAt (ds : List PyData) (i : Nat) : Int := dFst (ds.getD i .none)
def dReadings : PyData → Bool
  | .list ds => decide (ds.length ≤ 10) && (ds.all dReading && decide (cntD (fstAt ds) ds.length = ds.length))
  | _ => false
theorem dReading_get {d : PyData} (h : dReading d = true) : ∃ p e, d = .tuple [.int p, e] ∧ primeB p = true ∧ dRest p e = true := by
  cases z : dPair d with
  | false =>
    rw [dReading_pair z] at h
    cases h
  | true =>
    obtain ⟨d1, d2, rfl⟩ := dPair_get z
    have h : (dPrime d1 && _) = true := h
    obtain ⟨h1, h2⟩ := Bool.and_eq_true_iff.mp h
    obtain ⟨p, rfl⟩ : ∃ p, d1 = .int p := by
      cases d1 <;> first | exact ⟨_, rfl⟩ | exact nomatch h1
    exact ⟨p, d2, rfl, h1, h2⟩
theorem range_all {ds : List PyData} (f : PyData → Bool) : opAll (fun i => f (ds.getD i .none)) ds.length = ds.all f := by
  unfold opAll
  rw [Bool.eq_iff_iff, List.all_eq_true, List.all_eq_true]
  constructor
  · intro h d hd
    obtain ⟨i, hi, e⟩ := List.getElem_of_mem hd
    have := h i (List.mem_range.mpr hi)
    rw [List.getD_eq_getElem?_getD, List.getElem?_eq_getElem hi] at this
    rw [← e]
    exact this
  · intro h i hi
    have hi := List.mem_range.mp hi
    rw [List.getD_eq_getElem?_getD, List.getElem?_eq_getElem hi]
    exact h _ (List.getElem_mem hi)
theorem rdN_getD {l : List (Int × Option Int)} {i : Nat} {q : Int × Option Int} (h : l[i]? = some q) : (rdN l).getD i .none = .tuple [.int q.1, oD q.2] := by
  unfold rdN
  rw [List.getD_eq_getElem?_getD, List.getElem?_map, h]
  rfl
theorem RdN.isR {l : List (Int × Option Int)} (h : RdN l) : dReadings (.list (rdN l)) = true := by
  have hlen : (rdN l).length = l.length := List.length_map ..
  show (decide ((rdN l).length ≤ 10) && ((rdN l).all dReading && decide (cntD (fstAt (rdN l)) (rdN l).length = (rdN l).length))) = true
  rw [hlen, decide_eq_true h.len, Bool.true_and, Bool.and_eq_true]
  refine ⟨List.all_eq_true.mpr fun d hd => ?_, decide_eq_true ((cntD_all _ _).mpr fun i j hij hj => ?_)⟩
  · obtain ⟨q, hq, rfl⟩ := List.mem_map.mp hd
    obtain ⟨h1, h2⟩ := h.ok q hq
    show (primeB q.1 && dRest q.1 (oD q.2)) = true
    rw [h1]
    match q.2, h2 with
    | none, _ => rfl
    | some r, h2 =>
      obtain ⟨h2, h3⟩ := h2 r rfl
      show (true && (decide (0 ≤ r) && decide (r < q.1))) = true
      rw [decide_eq_true h2, decide_eq_true h3]
      rfl
  · have hi : i < l.length := by omega
    unfold fstAt
    rw [rdN_getD (List.getElem?_eq_getElem hi), rdN_getD (List.getElem?_eq_getElem hj)]
    have := List.pairwise_iff_getElem.mp h.nd i j (by rw [List.length_map]; exact hi) (by rw [List.length_map]; exact hj) hij
    rw [List.getElem_map, List.getElem_map] at this
    exact this
theorem prime_sieve : ∀ p ∈ irng 2 1000, ((irng 2 32).filter fun d => decide (p % d = 0) && decide (d < p)).isEmpty = primeB p := by decide +kernel
theorem go_tst {te : TE} {σ : L2.St} {H : Hp} {Q : Bool → Hp → Prop} (h : te σ H fun v H1 => ∃ b, v = .bl b ∧ Q b H1) : tTest te σ H Q := h
section
variable {K : PySem.W.Frag} {σ : L2.St} {H : Hp} {ds : List PyData}
/-- a comprehension over a list of whatever data: whether it gives any -/
theorem lcL_any {a : Addr} {xs : List V} {tl : TE} {t : TT} {j : Nat} {vs : List Nat} {Q : VK} (f : PyData → Bool) (h : Ev tl σ H (.ref a)) (ha : H a = some (.lst xs)) (hx : DtAll H xs ds) (hz : ds.length ≤ 40000) (hw : ∀ x, wipe ((wipe σ vs).set j (some x)) vs = wipe σ vs) (hj : ∀ x, ((wipe σ vs).set j (some x))[j]? = some (some x))
    (ht : ∀ H1 v d, Ex H H1 → d ∈ ds → Dt H1 v d → EvT t ((wipe σ vs).set j (some v)) H1 (f d)) (q : ∀ p H2 acc, H p = none → Ex H H2 → H2 p = some (.lst acc) → acc.length = (ds.filter f).length → Q (.ref p) H2) : tLc (iList K tl) (gName j) t (tVar j) vs σ H Q :=
  h H (Ex.refl H) _ fun H1 e1 => ⟨a, rfl, ⟨xs, sq_of (e1 _ _ ha)⟩, fun Dl hD => lc_list (xs := xs) (fun i H' => Ex H1 H' ∧ ∃ acc, H' Dl = some (.lst acc) ∧ acc.length = ((ds.take i).filter f).length) ⟨Ex.new hD, [], upd_same, rfl⟩ (fun i H' _ p => sq_of (p.1 _ _ (e1 _ _ ha))) (fun i x H' hi p => ⟨hw x, by
      obtain ⟨p1, acc, p2, p3⟩ := p
      obtain ⟨d, hd, hxd⟩ := hx.get i hi
      have hm := List.mem_of_getElem? hd
      have hlen : ((ds.take i).filter f).length ≤ ds.length := by
        have h1 := List.length_filter_le f (ds.take i)
        rw [List.length_take] at h1
        omega
      have hstep : ((ds.take (i + 1)).filter f).length = ((ds.take i).filter f).length + (if f d = true then 1 else 0) := by
        rw [List.take_add_one, hd, List.filter_append, List.length_append]
        congr 1
        cases z : f d with
        | true => simp [z]
        | false => simp [z]
      refine ht H1 x d e1 hm (hxd.up e1) H' p1 _ fun H3 e3 => ?_
      cases z : f d with
      | true =>
        refine itT rfl ⟨x, hj x, acc, e3 _ _ p2, sz_lt (by omega), Ex.mut (p1.trans e3) hD, acc ++ [x], upd_same, ?_⟩
        rw [hstep, z, List.length_append, p3]
        rfl
      | false =>
        refine itF rfl ⟨p1.trans e3, acc, e3 _ _ p2, ?_⟩
        rw [hstep, z, p3]
        rfl⟩) (fun H' p => by
      obtain ⟨p1, acc, p2, p3⟩ := p
      rw [hx.len, List.take_length] at p3
      exact q Dl H' acc (fresh_back e1 hD) (e1.trans p1) p2 p3)⟩
end
/-- a comprehension over a list of data, any target -/
theorem en_lcG {K : PySem.W.Frag} {σ : L2.St} {H : Hp} {tl te : TE} {t : TT} {ds : List PyData} {g0 : TG} {vs : List Nat} (S : PyData → L2.St → Prop) (f : PyData → Bool) (g : PyData → PyData) (h : EvD tl σ H (.list ds)) (hz : ds.length ≤ 40000)
    (hw : ∀ x d H1 (Q : L2.St → Hp → Prop), d ∈ ds → Dt H1 x d → (∀ σ2, S d σ2 → Q σ2 H1) → g0 x (wipe σ vs) H1 Q) (hst : ∀ d σ2, d ∈ ds → S d σ2 → wipe σ2 vs = wipe σ vs)
    (ht : ∀ H1 d σ2, Ex H H1 → d ∈ ds → S d σ2 → EvT t σ2 H1 (f d)) (he : ∀ H1 d σ2, Ex H H1 → d ∈ ds → S d σ2 → f d = true → EvD te σ2 H1 (g d)) (hn : ∀ d, d ∈ ds → f d = true → noL (g d) = true) :
    EvN (tLc (iList K tl) g0 t te vs) σ H ((ds.filter f).map g) := fun H0 e Q q => h H0 e _ fun v H1 e1 hv => by
  obtain ⟨a, xs, rfl, ha, hx⟩ := hv.lst_get
  refine ⟨a, rfl, ⟨xs, sq_of ha⟩, fun D hD => lc_list (xs := xs) (fun i H' => Ex H1 H' ∧ AccL H' D (((ds.take i).filter f).map g)) ⟨Ex.new hD, AccL.new⟩ (fun i H' _ p => sq_of (p.1 a _ ha)) (fun i x H' hi p => ?_) (fun H' p => ?_)⟩
  · obtain ⟨d, hd, hxd⟩ := hx.get i hi
    have hm := List.mem_of_getElem? hd
    refine hw x d H' _ hm (hxd.up p.1) fun σ2 hS => ⟨hst d σ2 hm hS, ?_⟩
    rw [take_flt f g hd]
    exact lc_turn p hD (by have := flt_len f g ds i; omega) (ht H1 d σ2 (e.trans e1) hm hS) (fun hf => he H1 d σ2 (e.trans e1) hm hS hf) (hn d hm)
  · rw [hx.len, List.take_length] at p
    exact q D H' (fresh_back e1 hD) (e1.trans p.1) p.2
/-! ### decks of drawn numbers: never empty, each number small -/
def DeckB (H : Hp) (da : Addr) : Prop := ∃ xs : List Int, H da = some (.lst (xs.map V.int)) ∧ 1 ≤ xs.length ∧ xs.length ≤ 1000 ∧ ∀ x ∈ xs, 0 ≤ x ∧ x < 1073741824
theorem DeckB.up {H H' : Hp} {da : Addr} (h : DeckB H da) (e : Ex H H') : DeckB H' da := by
  obtain ⟨xs, h1, h2⟩ := h
  exact ⟨xs, e _ _ h1, h2⟩
theorem DeckB.isL {H : Hp} {da : Addr} (h : DeckB H da) : IsL H da := by
  obtain ⟨xs, h1, _⟩ := h
  exact ⟨_, h1⟩
theorem DeckB.ne {H : Hp} {da p : Addr} (h : DeckB H da) (hp : H p = none) : p ≠ da := fun z => by
  obtain ⟨xs, hx⟩ := h.isL
  rw [z, hx] at hp
  cases hp
theorem DeckB.dr2 {H H' : Hp} {B da : Addr} (h : DeckB H da) (hn : da ≠ B) (e : ExB B H H') : DeckB H' da := by
  obtain ⟨xs, h1, h2⟩ := h
  exact ⟨xs, e _ _ hn h1, h2⟩
theorem go_ret {te : TE} {D : Ends} {σ : L2.St} {H : Hp} (h : te σ H D.rt) : tRet te D σ H := h
theorem AccL.ext {H : Hp} {D D2 : Addr} {ds es : List PyData} (h : AccL H D ds) (h2 : AccL H D2 es) : ∃ a1 a2, H D = some (.lst a1) ∧ H D2 = some (.lst a2) ∧ a1.length = ds.length ∧ a2.length = es.length ∧ AccL (upd H D (.lst (a1 ++ a2))) D (ds ++ es) := by
  obtain ⟨a1, p1, p2, p3⟩ := h
  obtain ⟨a2, q1, q2, q3⟩ := h2
  have hL : IsL H D := ⟨a1, p1⟩
  exact ⟨a1, a2, p1, q1, p2.len, q2.len, a1 ++ a2, upd_same, DtAll.app (DtAll.monoB hL ExB.upd _ _ p3 p2) (DtAll.monoB hL ExB.upd _ _ q3 q2), noLs_app p3 q3⟩
def restO (t b p : Int) : Option Int := if b % p = 0 then none else some (restI t b p)
theorem oD_restO (t b p : Int) : oD (restO t b p) = restD t b p := by
  unfold restO restD
  split <;> rfl
theorem restO_ok {t b p r : Int} (hp : primeB p = true) (h : restO t b p = some r) : 0 ≤ r ∧ r < p := by
  unfold restO at h
  by_cases z : b % p = 0
  · rw [if_pos z] at h
    cases h
  · rw [if_neg z] at h
    obtain ⟨r', e, r0, r1, _⟩ := restD_ok (t := t) hp z
    unfold restD at e
    rw [if_neg z] at e
    cases h
    cases e
    exact ⟨r0, r1⟩
theorem DtAll.set {H : Hp} {v : V} {d : PyData} (h : Dt H v d) : ∀ {vs : List V} {ds : List PyData} (k : Nat), DtAll H vs ds → DtAll H (vs.set k v) (ds.set k d)
  | _, _, _, .nil => .nil
  | _, _, 0, .cons _ b => .cons h b
  | _, _, k + 1, .cons a b => .cons a (DtAll.set h k b)
theorem noLs_set {d : PyData} (h : noL d = true) : ∀ {ds : List PyData} (k : Nat), noLs ds = true → noLs (ds.set k d) = true
  | [], _, _ => rfl
  | x :: ds, 0, hd => by
    have hd : (noL x && noLs ds) = true := hd
    show (noL d && noLs ds) = true
    rw [h, (Bool.and_eq_true_iff.mp hd).2]
    rfl
  | x :: ds, k + 1, hd => by
    have hd : (noL x && noLs ds) = true := hd
    obtain ⟨h1, h2⟩ := Bool.and_eq_true_iff.mp hd
    show (noL x && noLs (ds.set k d)) = true
    rw [h1, noLs_set h k h2]
    rfl
theorem AccL.set {H : Hp} {D : Addr} {ds : List PyData} {acc : List V} {v : V} {d : PyData} {k : Nat} (h : AccL H D ds) (ha : H D = some (.lst acc)) (hv : Dt H v d) (nd : noL d = true) : AccL (upd H D (.lst (acc.set k v))) D (ds.set k d) := by
  obtain ⟨a1, p1, p2, p3⟩ := h
  have e : a1 = acc := by
    rw [p1] at ha
    cases ha
    rfl
  subst e
  have hL : IsL H D := ⟨a1, p1⟩
  have p4 := DtAll.set hv k p2
  have p5 := noLs_set nd k p3
  exact ⟨a1.set k v, upd_same, DtAll.monoB hL ExB.upd _ _ p5 p4, p5⟩
theorem fst_set {l : List (Int × Option Int)} {k : Nat} {p : Int} {e : Option Int} (h : (l.map (·.1))[k]? = some p) : (l.set k (p, e)).map (·.1) = l.map (·.1) := by
  rw [List.map_set]
  obtain ⟨hl, hp⟩ := List.getElem?_eq_some_iff.mp h
  show (l.map (·.1)).set k p = _
  rw [← hp, List.set_getElem_self]
theorem RdN.set {l : List (Int × Option Int)} {k : Nat} {p : Int} {e : Option Int} (h : RdN l) (hk : (l.map (·.1))[k]? = some p) (hp : primeB p = true) (he : ∀ r, e = some r → 0 ≤ r ∧ r < p) : RdN (l.set k (p, e)) := by
  refine ⟨by rw [List.length_set]; exact h.len, fun q hq => ?_, by rw [fst_set hk]; exact h.nd⟩
  rcases List.mem_or_eq_of_mem_set hq with z | rfl
  · exact h.ok q z
  · exact ⟨hp, he⟩
theorem rd_ps {t b : Int} (ps : List Int) : ((ps.map PyData.int).filter fun _ => true).map (fun d => .tuple [d, restD t b (dI0 d)]) = rdN (ps.map fun p => (p, restO t b p)) := by
  rw [List.filter_eq_self.mpr fun _ _ => rfl]
  unfold rdN
  rw [List.map_map, List.map_map]
  refine List.map_congr_left fun p _ => ?_
  show PyData.tuple [.int p, restD t b p] = .tuple [.int p, oD (restO t b p)]
  rw [oD_restO]
theorem fst_ps {t b : Int} (ps : List Int) : (ps.map fun p => (p, restO t b p)).map (·.1) = ps := by
  rw [List.map_map]
  exact List.map_id ps
theorem RdN.ps {t b : Int} {ps : List Int} (h1 : ps.Nodup) (h2 : ∀ x ∈ ps, x ∈ primesL) (h3 : ps.length ≤ 10) : RdN (ps.map fun p => (p, restO t b p)) := by
  refine ⟨by rw [List.length_map]; exact h3, fun q hq => ?_, by rw [fst_ps]; exact h1⟩
  obtain ⟨p, hp, rfl⟩ := List.mem_map.mp hq
  have pP := primesL_prime p (h2 p hp)
  exact ⟨pP, fun r hr => restO_ok pP hr⟩
theorem ip_mulW {X : Cx} : PIp X .Mult (rI CMulW fun i j => .int (i * j)) := opI fun _ _ _ _ _ _ _ hc q => imul_int q hc.ok
theorem cutFrom (xs : List V) (k : Nat) : cutV xs (some (k : Int)) none = xs.drop k := by
  unfold cutV
  rw [HT.sIx_none, HT.sIx_nat]
  by_cases h : k ≤ xs.length
  · rw [Nat.min_eq_left h, List.take_of_length_le (by rw [List.length_drop]; exact Nat.le_refl _)]
  · rw [Nat.min_eq_right (by omega), List.drop_of_length_le (Nat.le_refl _), List.drop_of_length_le (by omega), List.take_nil]
theorem cutFromI (cs : List Int) {k : Int} (h : 0 ≤ k) : cutV (cs.map V.int) (some k) none = (cs.drop k.toNat).map V.int := by
  have := cutFrom (cs.map V.int) k.toNat
  rw [Int.toNat_of_nonneg h, ← List.map_drop] at this
  exact this
theorem go_lst {ta : TA} {σ : L2.St} {H : Hp} {Q : VK} (h : ta σ H fun vs H1 => vs.length ≤ sizeLine ∧ ∀ p, H1 p = none → Q (.ref p) (upd H1 p (.lst vs))) : tLst ta σ H Q := h
theorem go_tup {ta : TA} {σ : L2.St} {H : Hp} {Q : VK} (h : ta σ H fun vs H1 => vs.length ≤ sizeLine ∧ ∀ p, H1 p = none → Q (.ref p) (upd H1 p (.tup vs))) : tTup ta σ H Q := h
/-! ### comprehensions over readings -/
section
variable {K : PySem.W.Frag} {σ : L2.St} {H : Hp} {tl te : TE} {t : TT} {vs : List Nat}
theorem flt_lenR {α β : Type} (f : α → Bool) (g : α → β) (l : List α) (i : Nat) : (((l.take i).filter f).map g).length ≤ l.length := flt_len f g l i
/-- [te for p, rest in readings if t] -/
theorem en_lcP {i j : Nat} {l : List (Int × Option Int)} (f : Int × Option Int → Bool) (g : Int × Option Int → PyData) (h : EvD tl σ H (.list (rdN l))) (hz : l.length ≤ 40000)
    (hw : ∀ x y, wipe (((wipe σ vs).set i (some x)).set j (some y)) vs = wipe σ vs)
    (ht : ∀ H1 q, Ex H H1 → q ∈ l → EvT t (((wipe σ vs).set i (some (.int q.1))).set j (some (oV q.2))) H1 (f q)) (he : ∀ H1 q, Ex H H1 → q ∈ l → f q = true → EvD te (((wipe σ vs).set i (some (.int q.1))).set j (some (oV q.2))) H1 (g q)) (hn : ∀ q, q ∈ l → f q = true → noL (g q) = true) :
    EvN (tLc (iList K tl) (gTup K 2 (gCons (gName i) (gCons (gName j) gNil))) t te vs) σ H ((l.filter f).map g) := fun H0 e Q q => h H0 e _ fun v H1 e1 hv => by
  obtain ⟨a, xs, rfl, ha, hx⟩ := hv.lst_get
  refine ⟨a, rfl, ⟨xs, sq_of ha⟩, fun D hD => lc_list (xs := xs) (fun i H' => Ex H1 H' ∧ AccL H' D (((l.take i).filter f).map g)) ⟨Ex.new hD, AccL.new⟩ (fun i H' _ p => sq_of (p.1 a _ ha)) (fun k x H' hi p => ?_) (fun H' p => ?_)⟩
  · obtain ⟨c, b, hc, rfl, hb⟩ := rdN_get hx hi
    have hm := List.mem_of_getElem? hc
    refine ⟨b, _, rfl, st_of (p.1 _ _ hb), rfl, _, _, rfl, _, _, rfl, rfl, hw _ _, ?_⟩
    rw [take_flt f g hc]
    exact lc_turn p hD (by have := flt_len f g l k; omega) (ht H1 c (e.trans e1) hm) (fun hf => he H1 c (e.trans e1) hm hf) (hn c hm)
  · rw [hx.len, show (rdN l).length = l.length from List.length_map .., List.take_length] at p
    exact q D H' (fresh_back e1 hD) (e1.trans p.1) p.2
/-- [te for reading in readings if t] -/
theorem en_lcQ {j : Nat} {l : List (Int × Option Int)} (f : Int × Option Int → Bool) (g : Int × Option Int → PyData) (h : EvD tl σ H (.list (rdN l))) (hz : l.length ≤ 40000)
    (hw : ∀ x, wipe ((wipe σ vs).set j (some x)) vs = wipe σ vs)
    (ht : ∀ H1 b q, Ex H H1 → q ∈ l → H1 b = some (.tup [.int q.1, oV q.2]) → EvT t ((wipe σ vs).set j (some (.ref b))) H1 (f q)) (he : ∀ H1 b q, Ex H H1 → q ∈ l → H1 b = some (.tup [.int q.1, oV q.2]) → f q = true → EvD te ((wipe σ vs).set j (some (.ref b))) H1 (g q)) (hn : ∀ q, q ∈ l → f q = true → noL (g q) = true) :
    EvN (tLc (iList K tl) (gName j) t te vs) σ H ((l.filter f).map g) := fun H0 e Q q => h H0 e _ fun v H1 e1 hv => by
  obtain ⟨a, xs, rfl, ha, hx⟩ := hv.lst_get
  refine ⟨a, rfl, ⟨xs, sq_of ha⟩, fun D hD => lc_list (xs := xs) (fun i H' => Ex H1 H' ∧ AccL H' D (((l.take i).filter f).map g)) ⟨Ex.new hD, AccL.new⟩ (fun i H' _ p => sq_of (p.1 a _ ha)) (fun k x H' hi p => ?_) (fun H' p => ?_)⟩
  · obtain ⟨c, b, hc, rfl, hb⟩ := rdN_get hx hi
    have hm := List.mem_of_getElem? hc
    refine ⟨hw _, ?_⟩
    rw [take_flt f g hc]
    exact lc_turn p hD (by have := flt_len f g l k; omega) (ht H1 b c (e.trans e1) hm hb) (fun hf => he H1 b c (e.trans e1) hm hb hf) (hn c hm)
  · rw [hx.len, show (rdN l).length = l.length from List.length_map .., List.take_length] at p
    exact q D H' (fresh_back e1 hD) (e1.trans p.1) p.2
end
theorem dec_non (e : Option Int) : decide (oV e = V.non) = decide (e = none) := by
  cases e with
  | none => exact (decide_eq_true rfl).trans (decide_eq_true rfl).symm
  | some r => exact (decide_eq_false (fun z => nomatch z)).trans (decide_eq_false (fun z => nomatch z)).symm
theorem exUp {H H1 : Hp} {a : Addr} {o : HO} (e : Ex H H1) (h : H a = some o) : H1 a = some o := e _ _ h
theorem dtUp {H H1 : Hp} {v : V} {d : PyData} (e : Ex H H1) (h : Dt H v d) : Dt H1 v d := h.up e
/-! ### what are readings, whole readings -/
def dSnd : PyData → Option Int
  | .tuple [_, .int r] => some r
  | _ => none
theorem dReading_two {d : PyData} (h : dReading d = true) : d = .tuple [.int (dFst d), oD (dSnd d)] ∧ primeB (dFst d) = true ∧ ∀ r, dSnd d = some r → 0 ≤ r ∧ r < dFst d := by
  obtain ⟨p, e, rfl, hp, he⟩ := dReading_get h
  cases e with
  | none => exact ⟨rfl, hp, fun r hr => nomatch hr⟩
  | int r =>
    have he : (decide (0 ≤ r) && decide (r < p)) = true := he
    rw [Bool.and_eq_true, decide_eq_true_iff, decide_eq_true_iff] at he
    exact ⟨rfl, hp, fun r' hr => by cases hr; exact he⟩
  | bool b => exact nomatch he
  | str x => exact nomatch he
  | list x => exact nomatch he
  | tuple x => exact nomatch he
  | dict x => exact nomatch he
theorem readings_get {d : PyData} (h : dReadings d = true) : ∃ l, d = .list (rdN l) ∧ RdN l := by
  cases d with
  | list ds =>
    have h : (decide (ds.length ≤ 10) && (ds.all dReading && decide (cntD (fstAt ds) ds.length = ds.length))) = true := h
    rw [Bool.and_eq_true, Bool.and_eq_true, decide_eq_true_iff, decide_eq_true_iff] at h
    obtain ⟨h1, h2, h3⟩ := h
    have h2 := List.all_eq_true.mp h2
    have e : ds = rdN (ds.map fun d => (dFst d, dSnd d)) := by
      unfold rdN
      rw [List.map_map]
      refine (List.map_id ds).symm.trans (List.map_congr_left fun d hd => ?_)
      exact (dReading_two (h2 d hd)).1
    refine ⟨ds.map fun d => (dFst d, dSnd d), by rw [← e], by rw [List.length_map]; exact h1, fun q hq => ?_, ?_⟩
    · obtain ⟨d, hd, rfl⟩ := List.mem_map.mp hq
      exact (dReading_two (h2 d hd)).2
    · rw [List.map_map]
      refine List.pairwise_iff_getElem.mpr fun i j hi hj hij => ?_
      rw [List.length_map] at hi hj
      rw [List.getElem_map, List.getElem_map]
      have := (cntD_all _ _).mp h3 i j hij hj
      unfold fstAt at this
      rw [List.getD_eq_getElem?_getD, List.getD_eq_getElem?_getD, List.getElem?_eq_getElem hi, List.getElem?_eq_getElem hj] at this
      exact this
  | none => exact nomatch h
  | bool b => exact nomatch h
  | int i => exact nomatch h
  | str x => exact nomatch h
  | tuple x => exact nomatch h
  | dict x => exact nomatch h
/-- readings, none of them without a rest -/
def dWholeR : PyData → Bool
  | .list ds => dReadings (.list ds) && ds.all fun d => (dSnd d).isSome
  | _ => false
theorem snd_at (q : Int × Option Int) : dSnd (.tuple [.int q.1, oD q.2]) = q.2 := by
  obtain ⟨p, e⟩ := q
  cases e <;> rfl
def noNone (l : List (Int × Option Int)) : Bool := l.all fun q => q.2.isSome
theorem whole_rdN {l : List (Int × Option Int)} (h : RdN l) : dWholeR (.list (rdN l)) = noNone l := by
  show (dReadings (.list (rdN l)) && (rdN l).all fun d => (dSnd d).isSome) = _
  rw [h.isR, Bool.true_and]
  unfold rdN noNone
  rw [List.all_map]
  congr 1
  funext q
  show (dSnd (.tuple [.int q.1, oD q.2])).isSome = _
  rw [snd_at]
def stripO (l : List (Int × Option Int)) : List (Int × Int) := l.map fun q => (q.1, q.2.getD 0)
theorem strip_rdD {l : List (Int × Option Int)} (h : noNone l = true) : rdD (stripO l) = rdN l := by
  unfold rdD stripO rdN
  rw [List.map_map]
  refine List.map_congr_left fun q hq => ?_
  have := List.all_eq_true.mp h q hq
  obtain ⟨p, e⟩ := q
  cases e with
  | none => exact nomatch this
  | some r => rfl
theorem strip_ok {l : List (Int × Option Int)} (h : RdN l) (hn : noNone l = true) : RdOk (stripO l) := by
  refine ⟨by unfold stripO; rw [List.length_map]; exact h.len, fun q hq => ?_, by unfold stripO; rw [List.map_map]; exact h.nd⟩
  obtain ⟨q2, hq2, e2⟩ := List.mem_map.mp hq
  subst e2
  have := List.all_eq_true.mp hn q2 hq2
  obtain ⟨h1, h2⟩ := h.ok q2 hq2
  obtain ⟨p, e⟩ := q2
  cases e with
  | none => exact nomatch this
  | some r => exact ⟨h1, (h2 r rfl).1, (h2 r rfl).2⟩
theorem any_none (l : List (Int × Option Int)) : opAny (fun i => decide ((l.getD i (0, none)).2 = none)) l.length = !noNone l := by
  unfold opAny noNone
  rw [Bool.eq_iff_iff, List.any_eq_true, Bool.not_eq_true', ← Bool.not_eq_true, List.all_eq_true]
  constructor
  · rintro ⟨i, hi, h⟩ z
    rw [List.mem_range] at hi
    have h : (l.getD i (0, none)).2 = none := of_decide_eq_true h
    rw [List.getD_eq_getElem?_getD, List.getElem?_eq_getElem hi] at h
    have := z l[i] (List.getElem_mem hi)
    have h : l[i].2 = none := h
    rw [h] at this
    cases this
  · intro h
    apply Classical.byContradiction
    intro n
    refine h fun q hq => ?_
    obtain ⟨i, hi, e⟩ := List.getElem_of_mem hq
    cases z : q.2 with
    | some r => rfl
    | none =>
      exfalso
      refine n ⟨i, List.mem_range.mpr hi, decide_eq_true ?_⟩
      rw [List.getD_eq_getElem?_getD, List.getElem?_eq_getElem hi]
      show l[i].2 = none
      rw [e, z]
/-! ### defs called in an except suite, where nothing is raised -/
structure RoomQ (k : Nat) (A : Around) : Prop where
  deep : A.depth + 3 * k + 5 < recursionLimit
  unit : A.units + 16 * k + 200 < cLine
theorem RoomQ.units {k : Nat} {A : Around} (r : RoomQ k A) : A.units + 64 < cLine := by
  have h := r.unit
  omega
theorem un65Q {k : Nat} {A : Around} (r : RoomQ k A) : A.units + 65 < cLine := by
  have h := r.unit
  omega
theorem roomQ_m {k : Nat} {A : Around} {v : Option Value} (r : Room k A) : RoomQ k (A.mark v) := ⟨r.dp, r.un⟩
theorem RoomQ.down {k : Nat} {A : Around} (r : RoomQ (k + 1) A) (env : Env) : RoomQ k (A.deeper env) := by
  refine ⟨?_, ?_⟩
  · have h := r.deep
    show A.depth + 1 + 3 * k + 5 < recursionLimit
    omega
  · have h := r.unit
    show A.units + 3 + 16 * k + 200 < cLine
    omega
structure FnQ (P : Program) (w : World) (K : PySem.W.Frag) (mg : Str → Option Value) (base : Heap) (k : Nat) (f : Addr) (fd : FuncData) (ps : List Str) (sp : Sp) : Prop where
  len : ∀ vs H Q E, sp vs H Q E → vs.length = ps.length
  go : ∀ (A : Around) (outer : List Env) (s : Shared) (H : Hp) (args : Args) (us : List Value) (vs : List V) (Q : VK) (E : XK),
    RoomQ k A → Env0 P w K mg base A outer s H → BindsTo s fd args (ps.zip us) → Vals vs us → sp vs H Q E →
    codeAny (model P w) A (.call (.ref f) args) (CR CX0 outer P w H s Q E) s
def cxQ (P : Program) (w : World) (K : PySem.W.Frag) (mg : Str → Option Value) (base : Heap) (N : List Str) (qual : Str) (scope : Scope) (f : Addr) (cd : Value) (A : Around) (outer : List Env) (s : Shared) (H : Hp) (E : XK) : Cx :=
  { cxOf CX0 P w K mg base N qual scope f cd A outer s H E with
    calm := false }
/-- the start of such a body: as where nothing is handled -/
theorem startQ {P : Program} {w : World} {K : PySem.W.Frag} {mg : Str → Option Value} {base : Heap} {N ps : List Str} {qual : Str} {scope : Scope} {f : Addr} {cd : Value} {A : Around} {outer : List Env} {s s1 : Shared} {H : Hp} {E : XK} {us : List Value} {vs : List V}
    (S : FnScope N ps scope) (e0 : Env0 P w K mg base A outer s H) (hl : vs.length = ps.length) (r : Vals vs us)
    (x : InCallC s s.heap.objs.size (bindL (envOfC qual scope s.heap.objs.size f cd).kindOf (ps.zip us) fun _ => none)
      (cellsFrom (s.heap.objs.size + 1) scope.names []) (bindC (envOfC qual scope s.heap.objs.size f cd).kindOf (ps.zip us) fun _ => none) s1) :
    Inv (cxQ P w K mg base N qual scope f cd A outer s H E) [] (L2.start N vs) H s1 := by
  have em : Env0 P w K mg base { A with handled := none } outer s H :=
    ⟨e0.frames, e0.mod, e0.bs, e0.bsz, e0.funs, e0.frf, e0.hok, e0.bare⟩
  have J := inv_start (CX := CX0) (E := E) S rfl em hl r x
  have o := J.ok
  exact ⟨⟨o.mod, o.kind, o.glob, o.blt, o.above, o.inj, o.has, o.cab, fun z => Bool.noConfusion z, o.frames, o.stk, o.exf, o.bs, o.bsz, o.noex, o.exfs, o.funs, o.frf⟩,
    J.os, J.bare, J.base, J.loc, J.cell, J.free, J.freeC, J.pin, J.hok, J.len⟩
theorem fnq_of {P : Program} {w : World} {K : PySem.W.Frag} {mg : Str → Option Value} {base : Heap} {x qual : Str} {params : Arguments} {body : List Stmt} {scope : Scope} {dvs : List V} {kws : List (Str × V)} {f : Addr} {fd : FuncData} {N ps : List Str} {k : Nat} {sp : Sp}
    (F : FunD K x qual params body scope dvs kws f fd) (S : FnScope N ps scope) (len : ∀ vs H Q E, sp vs H Q E → vs.length = ps.length)
    (hbody : ∀ (cd : Value) (A : Around) (outer : List Env) (s : Shared) (H : Hp) (vs : List V) (Q : VK) (E : XK), RoomQ k (A.deeper (envOfC qual scope s.heap.objs.size f cd)) → sp vs H Q E →
      ∃ t, PSs (cxQ P w K mg base N qual scope f cd A outer s H E) body t ∧ t { nx := fun _ H1 => Q .non H1, rt := Q } (L2.start N vs) H) : FnQ P w K mg base (k + 1) f fd ps sp := by
  obtain ⟨oc, od, dV, kV, doc, pm, an, cdv, ct, osl, rfl, lk, hcd, _, _⟩ := F.ex
  refine ⟨len, fun A outer s H args us vs Q E room e0 bnd rv hsp => ?_⟩
  have there : K.In s.heap := e0.mod.kin.keeps fun c u z => (e0.bs c u z).1
  have free : s.heap.NoLimit := e0.mod.nolimit.keeps fun c u z => (e0.bs c u z).1
  have kinds : ∀ y ∈ ps.zip us, scope.names.lookup y.1 = some .local ∨
      (scope.names.lookup y.1 = some .cell ∧ ((cellsFrom (s.heap.objs.size + 1) scope.names []).lookup y.1).isSome = true) := fun y hy => by
    cases S.par y.1 (List.of_mem_zip hy).1 with
    | inl q => exact Or.inl q
    | inr q => exact Or.inr (And.intro q (PySem.W.cellsFrom_some _ _ _ (Or.inl q)))
  have dp : A.depth < recursionLimit := by
    have h := room.deep
    omega
  refine codeAny_call_function dp (there _ _ lk) rfl S.co S.gen rfl
    (PySem.W.codeRec_of there hcd) (bnd _ _ _ _ ?_)
  refine wpAny_newFunctionEnv_cells S.kind kinds fun env0 he0 s2 made => ?_
  subst he0
  refine And.intro (free.keeps made.toInCall.keep) (codeAny_func ?_)
  obtain ⟨t, run, ask⟩ := hbody cdv A outer s H vs Q E (room.down _) hsp
  have J : Inv (cxQ P w K mg base N qual scope f cdv A outer s H E) [] (L2.start N vs) H s2 :=
    startQ S e0 (len _ _ _ _ hsp) rv made
  refine wpAny_mono (run.run [] s2 _ H _ J ask) (fun fl s3 h3 => ?_) (fun e s3 h3 => h3)
  cases fl with
  | ret u =>
    obtain ⟨v, _, H3, J3, r3, q3⟩ := h3
    exact ⟨v, H3, J3.os, J3.bare, J3.base, J3.hok, r3, q3⟩
  | next =>
    obtain ⟨_, H3, J3, q3⟩ := h3
    exact ⟨V.non, H3, J3.os, J3.bare, J3.base, J3.hok, rfl, q3⟩
  | brk => exact h3.elim fun _ h => h.elim fun _ h => False.elim h.2
  | cont => exact h3.elim fun _ h => h.elim fun _ h => False.elim h.2
section
variable {X : Cx} {k : Nat} {f : Addr} {fd : FuncData} {ps : List Str} {sp : Sp} {x : Str} {p pos : Pos} {e : Expr} {es : List Expr} {t : TA}
theorem pe_callQ (F : FnQ X.prog X.w X.K X.mg X.base k f fd ps sp) (hr : RoomQ k X.A) (hg : Gl X x) (hm : X.mg x = some (.ref f)) (hk : PySem.W.keepIn X.K (.ref f) = true) (hb : Binds X.K fd ps [])
    (ha : PA X (e :: es) t) (hdb : (x == ("__debug__" : Str)) = false := by decide)
    (he : starEach (e :: es) X.env = (false, eval e X.env) :: starEach es X.env := by rfl) (hpl : (backTo pos (starEach es X.env)).any (·.1) = false := by rfl) :
    PE X (.Call (.Name x p) (e :: es) [] pos) (tCall sp [] E0 t) := by
  refine ⟨fun pins s σ H Q I ask => wpAny_Call_Name_kw (ld_glob I hg hm ?_ hdb)⟩
  refine PySem.W.callWith_K (h₀ := X.base) I.ok.mod.kin hk
    (thn (ha.run pos pins s σ H _ I ask) fun us s1 h1 => ?_) he hpl
  obtain ⟨vs, H1, I1, r1, q1⟩ := h1
  rw [List.append_nil] at q1
  have ln : us.length = ps.length := (Vals.length r1).symm.trans (F.len _ _ _ _ q1)
  have bd := hb s1 us I1.kIn (by rw [List.append_nil]; exact ln)
  rw [List.append_nil] at bd
  refine ⟨I1.kIn, wpAny_call (codeAny_mono (F.go X.A X.stack s1 H1 ⟨us, []⟩ us vs Q E0 hr I1.env0 bd r1 q1) fun res s2 h2 => ?_)⟩
  cases res with
  | error z => exact False.elim h2
  | ok fl =>
    cases fl with
    | ret u => exact I1.after h2
    | next => exact h2.elim
    | brk => exact h2.elim
    | cont => exact h2.elim
end
/-- what the clause 'except x as n' wishes, where the error is tracked in its suite -/
def wTrk (K : PySem.W.Frag) (c : Value) (i : Nat) (ts : Addr → TS) (Wout : WX) (D : Ends) : WX := fun cls d σ H =>
  ∃ b, PySem.W.exmOne K cls c = some b ∧ (b = true → d = none ∧ ∀ a, H a = none → ts a { nx := fun σ' H' => D.nx (σ'.set i none) H', rt := D.rt, bk := fun σ' H' => D.bk (σ'.set i none) H', ct := fun σ' H' => D.ct (σ'.set i none) H' } (σ.set i (some (.ref a))) (upd H a (ExK cls a))) ∧ (b = false → Wout cls d σ H)
section
variable {X : Cx} {x n : Str} {c : Value} {i : Nat} {body suite : List Stmt} {b₀ : Stmt} {npp pos pos' : Pos} {tb : WX → TS} {ts : Addr → TS} {Wout : WX}
theorem ps_try_trk (hs : X.stack = X.env :: X.outer) (hf : X.env.frame = some X.env.locals) (hex : X.ex = []) (hN : X.N.Nodup) (hi : X.N[i]? = some n) (hln : X.env.kindOf n = some .local) (hc : Names X x c) (tk : Takes X Wout)
    (hb : ∀ (W : WX) (pn : List (Addr × Obj)) (xe : Value → Shared → Prop), Takes (X.tr pn xe) W → PassesOwn (model X.prog X.w) X.A X.env xe → PSs (X.tr pn xe) body (tb W))
    (hsu : ∀ (a : Addr) (pn : List (Addr × Obj)), PSs (X.suite a pn) (b₀ :: suite) (ts a)) :
    PS X (.Try body [.ExceptHandler (some (.Name x npp)) (some n) (b₀ :: suite) pos'] [] [] pos) (fun D σ H => tb (wTrk X.K c i ts Wout D) D σ H) := by
  refine ⟨fun pins s σ H D I h => ?_⟩
  have ok := I.ok
  have hfr : X.A.frames = some (X.env :: X.outer) := by rw [ok.frames, hs]
  have hloc : Loc X.env.scope n := .inl hln
  refine wpAny_Try_except ?_
  refine wpAny_mono ((hb (wTrk X.K c i ts Wout D) (X.pn ++ pins) (fun e s₁ => wpAny (model X.prog X.w) X.A (noteFrame e X.env) (fun _ s₂ => wpAny (model X.prog X.w) X.A (setFlight e none) (fun _ s₃ =>
    wpAny (model X.prog X.w) X.A (handleBy e X.env [.ExceptHandler (some (.Name x npp)) (some n) (b₀ :: suite) pos']) (SP X pins D) X.xe s₃) X.xe s₂) X.xe s₁) (fun u s' xx => ?_) PassesOwn.looking).run [] s σ H D (I.toTry _) h) (fun f s1 hsp => ?_) (fun e s1 he => he)
  · obtain ⟨a, B, sI, pins', σ', H', cls, d, rfl, J', nb, up, sky, na, os, ag, b, hb1, hyes, hno⟩ := xx
    have J : Inv X pins σ' H' sI := J'.ofTry ok
    have sky' : Sky B (X.env :: X.outer) a (Zc cls d) X.env.locals s'.heap := by rw [← hs]; exact sky
    show wpAny (model X.prog X.w) X.A (noteFrame (.ref a) X.env) _ _ _
    refine Sky.land Zc.steady hfr hf sky' fun h3 fl3 up3 => ?_
    have J3 : Inv X pins σ' H' { s' with heap := h3 } := J.landed nb fl3.1 (up.trans up3) os ag
    obtain ⟨oe3, vs3, he3, hz3, hd3⟩ := fl3.there
    have notFr : ∀ {h : Heap} {o : Obj} {vs : Array Value}, h.FunFrames B (X.env :: X.outer) → h.get? a = some o → o.data = .fields vs → a ∉ frs (X.env :: X.outer) := fun {h o vs} ff e dd hm => by
      obtain ⟨_, o', e', hnf⟩ := ff.mem hm
      rw [e] at e'; cases e'
      exact hnf _ dd
    have nfr := notFr fl3.2.2.1 he3 hd3
    have nI : sI.heap.get? a = none := by
      cases e : sI.heap.get? a with
      | none => rfl
      | some o =>
        have z := nb a o e (by rw [hs]; exact nfr)
        rw [fl3.2.1] at z
        cases z
    have n0 : X.s_0.heap.get? a = none := by
      cases e : X.s_0.heap.get? a with
      | none => rfl
      | some o =>
        obtain ⟨o', z⟩ := J.base.there a o e (by rw [hex]; exact fun z => nomatch z)
        rw [nI] at z
        cases z
    have np : ∀ p ∈ X.pn ++ pins, p.1 ≠ a := fun p hp z => by
      have q := (J.pin p hp).1
      rw [z, nI] at q
      cases q
    have nL : a ≠ X.env.locals := fun z => nfr (List.mem_filterMap.mpr ⟨X.env, List.mem_cons_self, by rw [hf, z]⟩)
    have nF : a ∉ X.fs := fun hm => by
      obtain ⟨e, he, q⟩ := List.mem_filterMap.mp hm
      exact nfr (List.mem_filterMap.mpr ⟨e, List.mem_cons_of_mem _ he, q⟩)
    have S3 := J3.suite he3 hd3 na nL nF
    refine wpAny_handleBy_cons (codeAny_handlers_test ?_) (by intro q; cases q)
    have LT : PySem.W.Looks (model X.prog X.w) h3 (typeOf (.ref a)) cls := fun A Q E s k q => wpAny_typeOf_ref (k _ _ he3) (by rw [hz3.1]; exact q)
    have LM := PySem.W.exm_one (M := model X.prog X.w) (J3.kIn) LT hb1
    have test : ∀ {Q : Value → Shared → Prop} {E : Value → Shared → Prop}, Q c { s' with heap := h3 } → wpAny (model X.prog X.w) (X.A.mark (some (.ref a))) (eval (.Name x npp) X.env) Q E { s' with heap := h3 } := fun {Q E} q => by
      obtain ⟨hg, hdbg, hm | ⟨hm, hv, hnn⟩⟩ := hc
      · exact ld_glob (X := X.suite a ((a, oe3) :: (X.pn ++ pins))) S3 hg hm q hdbg
      · exact ld_blt (X := X.suite a ((a, oe3) :: (X.pn ++ pins))) S3 hg hm hv q hnn hdbg
    refine test (LM.here ?_)
    cases b with
    | true =>
      refine codeAny_handlers_suite_as ?_
      refine HandSPX.lands_againZ fl3 fun h4 fl4 up4 => ?_
      have J4 : Inv X pins σ' H' { s' with heap := h4 } := J.landed nb fl4.1 ((up.trans up3).trans up4) os ag
      obtain ⟨oe4, vs4, he4, hz4, hd4⟩ := fl4.there
      have S4 := J4.suite he4 hd4 na nL nF
      obtain ⟨ed, hyes⟩ := hyes rfl
      rw [ed] at hz4
      refine store_ok (X := X.suite a ((a, oe4) :: (X.pn ++ pins))) (v := .ref a) S4 hN hi hloc rfl (fun s5 S5 => ?_) (.inr hln)
      have p5 := S5.pin (a, oe4) (List.mem_append_left _ List.mem_cons_self)
      have U5 : Inv (X.suite a (X.pn ++ pins)) [] (σ'.set i (some (.ref a))) H' s5 := ⟨ok.suite a (X.pn ++ pins), S5.os, S5.bare, S5.base, S5.loc, S5.cell, S5.free, S5.freeC,
        fun p hp => S5.pin p (List.mem_append_left _ (List.mem_cons_of_mem _ (by rwa [List.append_nil] at hp))), S5.hok, S5.len⟩
      have T5 := inv_track (o := ExK cls a) U5 na n0 p5.1 hd4 nL (fun p hp => np p (by rwa [List.append_nil] at hp)) (exK_ok p5.1 hz4 hd4)
      refine wpAny_mono ((hsu a (X.pn ++ pins)).run [] s5 _ _ _ T5 (hyes a na)) (fun f s6 hsp => ?_) (fun _ _ z => False.elim z)
      have end_ : ∀ {σ6 : L2.St} {H6 : Hp} {Q : Shared → Prop}, Inv (X.suite a (X.pn ++ pins)) [] σ6 H6 s6 → (∀ s7, Inv X pins (σ6.set i none) H6 s7 → Q s7) →
          wpAny (model X.prog X.w) X.A (do bindName X.env n .none; unbindBehindTheSuite X.env n pos') (fun _ s7 => Q s7) X.xe s6 := fun {σ6 H6 Q} S6 hq => by
        have V : Inv X pins σ6 H6 s6 := ⟨ok, S6.os, S6.bare, S6.base, S6.loc, S6.cell, S6.free, S6.freeC, fun p hp => S6.pin p (by rw [List.append_nil]; exact hp), S6.hok, S6.len⟩
        exact gone_ok V hN hi hln fun s7 V7 => hq s7 V7
      cases f with
      | next =>
        obtain ⟨σ6, H6, S6, q6⟩ := hsp
        exact end_ S6 fun s7 J7 => ⟨_, _, J7, q6⟩
      | brk =>
        obtain ⟨σ6, H6, S6, q6⟩ := hsp
        exact end_ S6 fun s7 J7 => ⟨_, _, J7, q6⟩
      | cont =>
        obtain ⟨σ6, H6, S6, q6⟩ := hsp
        exact end_ S6 fun s7 J7 => ⟨_, _, J7, q6⟩
      | ret u =>
        obtain ⟨v6, σ6, H6, S6, r6, q6⟩ := hsp
        exact end_ S6 fun s7 J7 => ⟨_, _, _, J7, r6, q6⟩
    | false =>
      show wpAny _ X.A (handleBy (.ref a) X.env []) _ _ _
      refine wpAny_handleBy_nil ?_
      obtain ⟨k1, k2, k3, oe, vs, T, oT, ts', he, hz, hd, h1, hr⟩ := id fl3
      unfold PySem.passOn
      refine wpAny_bind (wpAny_field he hd h1 ?_)
      rw [if_neg (show ¬ ((Value.ref T == Value.none) = true) from by simp)]
      have fin : wpAny (model X.prog X.w) X.A (setFlight (.ref a) X.env.frame) (fun _ s4 => wpAny (model X.prog X.w) X.A (throw (.ref a) : Sem Flow) (SP X pins D) X.xe s4) X.xe { s' with heap := h3 } := by
        rw [hf]
        refine HandSPX.setFlight_upZ fl3 fun h4 hh4 up4 => wpAny_throw (tk _ _ ?_)
        exact ⟨a, B, sI, pins, σ', H', cls, d, rfl, J, nb, (up.trans up3).trans up4, .inr (.inr (by rw [hs]; exact hh4)), na, os, ag, hno rfl⟩
      first
        | exact wpAny_bind (wpAny_pure (wpAny_bind fin))
        | exact wpAny_bind fin
  · cases f with
    | next =>
      obtain ⟨σ', H', J', q⟩ := hsp
      exact wpAny_execs_nil ⟨σ', H', J'.ofTry ok, q⟩
    | brk =>
      obtain ⟨σ', H', J', q⟩ := hsp
      exact ⟨σ', H', J'.ofTry ok, q⟩
    | cont =>
      obtain ⟨σ', H', J', q⟩ := hsp
      exact ⟨σ', H', J'.ofTry ok, q⟩
    | ret u =>
      obtain ⟨v, σ', H', J', r, q⟩ := hsp
      exact ⟨v, σ', H', J'.ofTry ok, r, q⟩
end
/-! ### list.count of any data; list.index and list.count of truths -/
def rCountD (K : PySem.W.Frag) : V → List V → Hp → VK → Prop := fun x xs H Q => ∃ (a : Addr) (y : V) (d : PyData) (ds : List PyData), x = .ref a ∧ xs = [y] ∧ Dp K H (.ref a) (.list ds) ∧ Dp K H y d ∧ SeqAt.shaped (.list ds) = true ∧ SeqAt.shaped d = true ∧ Q (.int ((ds.countP fun z => PyData.eqv z d : Nat) : Int)) H
theorem mt_countD {X : Cx} (hu : X.A.units + 65 < cLine) : MtR X "list.count" (rCountD X.K) := by
  intro pins s σ H x xs v us Q I rx rxs h
  obtain ⟨a, y, d, ds, rfl, rfl, hl, hy, sl, sd, q⟩ := h
  cases rx
  obtain ⟨uy, rfl, ry⟩ := rxs.one
  obtain ⟨bs, r1⟩ := Dp.reads I d y uy hy ry
  have hxs : PyData.canLayAll0 ds = true := SeqAt.canLay_of_shaped sl
  have hds : d.canLay0 = true := SeqAt.canLay_of_shaped sd
  cases hl with
  | lst hs ha =>
    obtain ⟨its, rv, ⟨⟨cls, dd, data, sls⟩, n, ho, hc, hdn, hdt⟩, hlen⟩ := I.list hs
    simp only at hc hdt
    subst hc hdt
    obtain ⟨as, h4⟩ := Dp.readsAll I ds _ its ha rv
    have hmap : its.map (SeqAt.readOf s.heap) = ds := SeqAt.readsAll_map ds its as hxs h4
    have ec : its.toArray.toList.countP (fun u => PyData.eqv (SeqAt.readOf s.heap u) d) = ds.countP fun z => PyData.eqv z d := by
      rw [← hmap, List.countP_map]
      rfl
    have all_ := SeqAt.items_eqAt (vs := its.toArray) (show ReadsAll s.heap its.toArray.toList ds as from h4) r1 hxs hds (room_in_shaped (xs := ds) sd hu)
    refine call_meets PySem.F.slot_list_count ⟨_, ho, rfl⟩ PySem.F.entry_list_count (PySem.F.args_list_count_2 _ _) (SeqAt.list_countAt a its.toArray n dd sls uy fun u => PyData.eqv (SeqAt.readOf s.heap u) d) ⟨ho, all_, ?_⟩
    refine ⟨.int ((ds.countP fun z => PyData.eqv z d : Nat) : Int), H, I.tok _, ⟨s.toks, ?_⟩, q⟩
    show Value.int ((its.toArray.toList.countP (fun u => PyData.eqv (SeqAt.readOf s.heap u) d) : Nat) : Int) s.toks = _
    rw [ec]
theorem dt_bls {H : Hp} : ∀ bs : List Bool, DtAll H (bs.map V.bl) (bs.map PyData.bool)
  | [] => .nil
  | b :: bs => .cons (.bl b) (dt_bls bs)
theorem sh_bls (bs : List Bool) : SeqAt.shaped (.list (bs.map PyData.bool)) = true := shaped_of (lay_list (k := 0) fun d hd => by
  obtain ⟨b, _, rfl⟩ := List.mem_map.mp hd
  exact ⟨rfl, Nat.le_refl 0⟩) (by decide)
/-- truths.count(True) -/
theorem cnt_true {K : PySem.W.Frag} {H : Hp} {a : Addr} {bs : List Bool} {Q : VK} (h : H a = some (.lst (bs.map V.bl))) (q : Q (.int ((bs.count true : Nat) : Int)) H) : rCountD K (.ref a) [.bl true] H Q := by
  refine ⟨a, .bl true, .bool true, bs.map PyData.bool, rfl, rfl, Dt.dp _ _ (SeqAt.canLay_of_shaped (sh_bls bs)) (.lst h (dt_bls bs)), .bl true, sh_bls bs, rfl, ?_⟩
  have e : (bs.map PyData.bool).countP (fun z => PyData.eqv z (.bool true)) = bs.count true := by
    rw [List.countP_map]
    unfold List.count
    congr 1
  rw [e]
  exact q
/-- truths.index(True) -/
theorem idx_true {K : PySem.W.Frag} {H : Hp} {a : Addr} {bs : List Bool} {j : Nat} {Q : VK} (h : H a = some (.lst (bs.map V.bl))) (hj : bs[j]? = some true) (hno : ∀ m, m < j → bs[m]? = some false) (q : Q (.int ((j : Nat) : Int)) H) : rIndex K (.ref a) [.bl true] H Q := by
  refine ⟨a, bs.map V.bl, .bl true, j, .bl true, rfl, rfl, .inl (.inl h), rfl, ?_, by rw [List.getElem?_map, hj]; rfl, rfl, fun m z hm hz => ?_, q⟩
  · rw [List.all_map]
    exact List.all_eq_true.mpr fun b _ => rfl
  · rw [List.getElem?_map, hno m hm] at hz
    cases Option.some.inj hz
    rfl
theorem un65 {k : Nat} {A : Around} (r : Room k A) : A.units + 65 < cLine := by
  have := r.un
  omega
theorem cnt_eq (bs : List Bool) : (bs.map PyData.bool).countP (fun z => PyData.eqv z (.bool true)) = bs.count true := by
  rw [List.countP_map]
  unfold List.count
  congr 1
theorem bls_flat (bs : List Bool) : (bs.map V.bl).all flatV = true := by
  rw [List.all_map]
  exact List.all_eq_true.mpr fun b _ => rfl
theorem bls_at {bs : List Bool} {j : Nat} {b : Bool} (h : bs[j]? = some b) : (bs.map V.bl)[j]? = some (.bl b) := by
  rw [List.getElem?_map, h]
  rfl
theorem bls_no {bs : List Bool} {j : Nat} (hno : ∀ m, m < j → bs[m]? = some false) : ∀ m z, m < j → (bs.map V.bl)[m]? = some z → eqV z (.bl true) = false := fun m z hm hz => by
  rw [List.getElem?_map, hno m hm] at hz
  cases Option.some.inj hz
  rfl
theorem sgn_mul_lo {x c : Int} (hx : 1 ≤ x) (hc : 1 ≤ c) : c ≤ x * c := by
  have : 1 * c ≤ x * c := Int.mul_le_mul_of_nonneg_right hx (by omega)
  omega
/-- a fraction with small parts, alike, is a multiple of the row's -/
theorem row_mult {m N n l f tt b : Int} (h : Row m N n l f) (n0 : 0 ≤ n) (b1 : 1 ≤ b) (t0 : -n ≤ tt) (t1 : tt ≤ n) (hd : m ∣ tt - b * N) (hm : 2 * n * b < m) : ∃ y : Int, tt = y * l ∧ b = y * f := by
  obtain ⟨ab, fa, t, ta, s, I, hk, hx⟩ := h
  have tot := I.tot
  obtain ⟨hl, ha, hs, sg, l0, la, am, f1, fa0⟩ := I
  have nb : n ≤ n * b := by
    have : n * 1 ≤ n * b := Int.mul_le_mul_of_nonneg_left b1 n0
    omega
  have nab : n < ab := by
    rcases hx with h | ⟨_, _, rfl⟩
    · exact h
    · have : 2 * n * b = 2 * (n * b) := by rw [Int.mul_assoc]
      omega
  obtain ⟨c, hc⟩ := hd
  -- b = x fa + y f, c = x ta + y t
  have ss : s * s = 1 := by rcases sg with rfl | rfl <;> rfl
  obtain ⟨x, ex⟩ : ∃ x, x = (c * f - b * t) * s := ⟨_, rfl⟩
  obtain ⟨y, ey⟩ : ∃ y, y = (b * ta - fa * c) * s := ⟨_, rfl⟩
  have e1 : b = x * fa + y * f := by rw [ex, ey]; grind
  have e2 : c = x * ta + y * t := by rw [ex, ey]; grind
  have e3 : tt = x * ab + y * l := by
    have : tt = b * N + m * c := by omega
    rw [this, ha, hl, e1, e2]
    grind
  have key : x = 0 := by
    by_cases z : x = 0
    · exact z
    · exfalso
      -- the row below: |f| ≤ b
      have small : s * f ≤ b → False := fun hf => by
        have d : l * b - tt * f = 0 := by
          have dv : m ∣ l * b - tt * f := ⟨t * b - c * f, by
            have h1 : tt = b * N + m * c := by omega
            rw [hl, h1]
            grind⟩
          have u1 : l * b ≤ n * b := Int.mul_le_mul_of_nonneg_right hk (by omega)
          have u0 : 0 ≤ l * b := Int.mul_nonneg l0 (by omega)
          have v1 : -(n * b) ≤ tt * f ∧ tt * f ≤ n * b := by
            have w1 : n * (s * f) ≤ n * b := Int.mul_le_mul_of_nonneg_left hf n0
            have w2 : tt * (s * f) ≤ n * (s * f) := Int.mul_le_mul_of_nonneg_right t1 (by omega)
            have w3 : -n * (s * f) ≤ tt * (s * f) := Int.mul_le_mul_of_nonneg_right t0 (by omega)
            rw [Int.neg_mul] at w3
            rcases sg with rfl | rfl
            · simp only [Int.one_mul] at w1 w2 w3
              omega
            · have : tt * (-1 * f) = -(tt * f) := by grind
              rw [this] at w2 w3
              omega
          have hm2 : 2 * n * b = n * b + n * b := by grind
          obtain ⟨k, hk2⟩ := dv
          have m0 : 0 < m := by omega
          have k0 : k = 0 := by
            rcases Int.lt_trichotomy k 0 with w | w | w
            · have : m * k ≤ m * (-1) := Int.mul_le_mul_of_nonneg_left (by omega) (by omega)
              omega
            · exact w
            · have : m * 1 ≤ m * k := Int.mul_le_mul_of_nonneg_left (by omega) (by omega)
              omega
          rw [hk2, k0, Int.mul_zero]
        have : x * (m * s) = 0 := by
          have h1 : f * ab - fa * l = m * s := by
            rw [ha, hl]
            grind
          rw [← h1]
          have : l * (x * fa + y * f) - (x * ab + y * l) * f = 0 := by rw [← e1, ← e3]; exact d
          grind
        rcases Int.mul_eq_zero.mp this with w | w
        · exact z w
        · rcases Int.mul_eq_zero.mp w with w | w
          · omega
          · rcases sg with rfl | rfl <;> omega
      rcases Int.lt_trichotomy y 0 with w | w | w
      · rcases Int.lt_or_gt_of_ne z with v | v
        · -- both below
          have h1 : ab ≤ (-x) * ab := sgn_mul_lo (by omega) (by omega)
          have h2 : 0 ≤ (-y) * l := Int.mul_nonneg (by omega) l0
          rw [Int.neg_mul] at h1 h2
          omega
        · -- x above, y below: s * b = x * (s*fa) + y * (s*f)
          have h1 : s * b = x * (s * fa) + y * (s * f) := by rw [e1]; grind
          have h2 : x * (s * fa) ≤ 0 := by
            have := Int.mul_nonneg (show 0 ≤ x by omega) (show 0 ≤ -(s * fa) by omega)
            rw [Int.mul_neg] at this
            omega
          have h3 : s * f ≤ (-y) * (s * f) := sgn_mul_lo (by omega) f1
          rw [Int.neg_mul] at h3
          refine small ?_
          rcases sg with rfl | rfl <;> omega
      · rw [w, Int.zero_mul, Int.add_zero] at e3
        rcases Int.lt_or_gt_of_ne z with v | v
        · have h1 : ab ≤ (-x) * ab := sgn_mul_lo (by omega) (by omega)
          rw [Int.neg_mul] at h1
          omega
        · have h1 : ab ≤ x * ab := sgn_mul_lo (by omega) (by omega)
          omega
      · rcases Int.lt_or_gt_of_ne z with v | v
        · have h1 : s * b = x * (s * fa) + y * (s * f) := by rw [e1]; grind
          have h2 : 0 ≤ x * (s * fa) := by
            have := Int.mul_nonneg (show 0 ≤ -x by omega) (show 0 ≤ -(s * fa) by omega)
            rw [Int.neg_mul_neg] at this
            exact this
          have h3 : s * f ≤ y * (s * f) := sgn_mul_lo (by omega) f1
          refine small ?_
          rcases sg with rfl | rfl <;> omega
        · have h1 : ab ≤ x * ab := sgn_mul_lo (by omega) (by omega)
          have h2 : 0 ≤ y * l := Int.mul_nonneg (by omega) l0
          omega
  refine ⟨y, ?_, ?_⟩
  · rw [e3, key, Int.zero_mul, Int.zero_add]
  · rw [e1, key, Int.zero_mul, Int.zero_add]
/-! ### one fraction back: products of primes, readings with and without a rest -/
def prodI (ps : List Int) : Int := ps.foldl (· * ·) 1
theorem prodI_eq (ps : List Int) : prodI ps = prodP (ps.map fun p => (p, 0)) := by
  unfold prodI prodP
  rw [List.map_map, show ((fun q : Int × Int => q.1) ∘ fun p => (p, (0 : Int))) = id from rfl, List.map_id]
theorem prodI_cons (p : Int) (ps : List Int) : prodI (p :: ps) = p * prodI ps := by
  unfold prodI
  rw [List.foldl_cons, foldl_mul, Int.one_mul]
theorem prodI_snoc (p : Int) (ps : List Int) : prodI (ps ++ [p]) = prodI ps * p := by
  unfold prodI
  rw [List.foldl_append]
  rfl
theorem prodI_facts {ps : List Int} (h : ∀ p ∈ ps, primeB p = true) : 0 < prodI ps ∧ prodI ps ≤ 1000 ^ ps.length ∧ ∀ p ∈ ps, p ∣ prodI ps := by
  have h2 : ∀ q ∈ ps.map fun p => (p, (0 : Int)), primeB q.1 = true := fun q hq => by
    obtain ⟨p, hp, rfl⟩ := List.mem_map.mp hq
    exact h p hp
  obtain ⟨a, b, c, _⟩ := prodP_facts _ (ps.map fun p => (p, (0 : Int))) rfl h2
  rw [← prodI_eq] at a b c
  rw [List.length_map] at b
  exact ⟨a, b, fun p hp => c (p, 0) (List.mem_map.mpr ⟨p, hp, rfl⟩)⟩
theorem prodI_small {ps : List Int} (hl : ps.length ≤ 10) (h : ∀ p ∈ ps, primeB p = true) : 0 < prodI ps ∧ prodI ps ≤ 1000000000000000000000000000000 := by
  rw [prodI_eq]
  refine prodP_small (by rw [List.length_map]; exact hl) fun q hq => ?_
  obtain ⟨p, hp, rfl⟩ := List.mem_map.mp hq
  exact h p hp
theorem prodI_dvd {ps : List Int} {d : Int} (h : ∀ p ∈ ps, primeB p = true) (nd : ps.Nodup) (hd : ∀ p ∈ ps, p ∣ d) : prodI ps ∣ d := by
  rw [prodI_eq]
  refine prodP_dvd _ _ d rfl (fun q hq => ?_) ?_ (fun q hq => ?_)
  · obtain ⟨p, hp, rfl⟩ := List.mem_map.mp hq
    exact h p hp
  · rw [List.map_map, show ((fun q : Int × Int => q.1) ∘ fun p => (p, (0 : Int))) = id from rfl, List.map_id]
    exact nd
  · obtain ⟨p, hp, rfl⟩ := List.mem_map.mp hq
    exact hd p hp
def knL (l : List (Int × Option Int)) : List (Int × Int) := l.filterMap fun q => q.2.map fun r => (q.1, r)
def shL (l : List (Int × Option Int)) : List Int := (l.filter fun q => decide (q.2 = none)).map (·.1)
theorem prod_split : ∀ l : List (Int × Option Int), prodI (l.map (·.1)) = prodP (knL l) * prodI (shL l)
  | [] => rfl
  | (p, none) :: l => by
    show prodI (p :: l.map (·.1)) = prodP (knL l) * prodI (p :: shL l)
    rw [prodI_cons, prodI_cons, prod_split l]
    grind
  | (p, some r) :: l => by
    show prodI (p :: l.map (·.1)) = prodP ((p, r) :: knL l) * prodI (shL l)
    rw [prodI_cons, prodP_cons, prod_split l]
    grind
theorem knL_mem {l : List (Int × Option Int)} {q : Int × Int} : q ∈ knL l ↔ (q.1, some q.2) ∈ l := by
  unfold knL
  rw [List.mem_filterMap]
  constructor
  · rintro ⟨⟨p, e⟩, hq, h⟩
    cases e with
    | none => cases h
    | some r =>
      cases h
      exact hq
  · intro h
    exact ⟨_, h, rfl⟩
theorem shL_mem {l : List (Int × Option Int)} {p : Int} : p ∈ shL l ↔ (p, none) ∈ l := by
  unfold shL
  rw [List.mem_map]
  constructor
  · rintro ⟨⟨p, e⟩, hq, rfl⟩
    obtain ⟨h1, h2⟩ := List.mem_filter.mp hq
    have h2 : e = none := of_decide_eq_true h2
    rw [h2] at h1
    exact h1
  · intro h
    exact ⟨_, List.mem_filter.mpr ⟨h, rfl⟩, rfl⟩
theorem knL_sub : ∀ l : List (Int × Option Int), ((knL l).map (·.1)).Sublist (l.map (·.1))
  | [] => .slnil
  | (p, none) :: l => .cons _ (knL_sub l)
  | (p, some r) :: l => .cons_cons _ (knL_sub l)
theorem shL_sub (l : List (Int × Option Int)) : (shL l).Sublist (l.map (·.1)) := List.Sublist.map _ List.filter_sublist
theorem RdN.kn {l : List (Int × Option Int)} (h : RdN l) : RdOk (knL l) := by
  have hs := (knL_sub l).length_le
  rw [List.length_map, List.length_map] at hs
  refine ⟨Nat.le_trans hs h.len, fun q hq => ?_, h.nd.sublist (knL_sub l)⟩
  obtain ⟨h1, h2⟩ := h.ok _ (knL_mem.mp hq)
  exact ⟨h1, h2 _ rfl⟩
theorem RdN.shp {l : List (Int × Option Int)} (h : RdN l) : ∀ p ∈ shL l, primeB p = true := fun p hp => (h.ok _ (shL_mem.mp hp)).1
theorem RdN.prs {l : List (Int × Option Int)} (h : RdN l) : ∀ p ∈ l.map (·.1), primeB p = true := fun p hp => by
  obtain ⟨q, hq, rfl⟩ := List.mem_map.mp hp
  exact (h.ok q hq).1
/-- the one that may be it -/
def candP (sh l f : Int) : Int × Int := if f < 0 then (-l, -f * sh) else (l, f * sh)
def AllK (l : List (Int × Option Int)) (t b : Int) : Prop := ∀ q ∈ l, keepsB t b q.1 q.2 = true
theorem cand_kept {l : List (Int × Option Int)} {w n x f : Int} (hR : RdN l) (hw : ∀ q ∈ knL l, w % q.1 = q.2) (h : Row (prodP (knL l)) (w * prodI (shL l) % prodP (knL l)) n x f) : AllK l (candP (prodI (shL l)) x f).1 (candP (prodI (shL l)) x f).2 := by
  obtain ⟨m0, _, mdv, _⟩ := prodP_facts _ (knL l) rfl fun q hq => (hR.kn.ok q hq).1
  obtain ⟨s0, _, sdv⟩ := prodI_facts hR.shp
  obtain ⟨ab, fa, t, ta, s, I, _, _⟩ := h
  have hx := I.hl
  obtain ⟨σ, hσ, e1, e2⟩ : ∃ σ : Int, (σ = 1 ∨ σ = -1) ∧ (candP (prodI (shL l)) x f).1 = σ * x ∧ (candP (prodI (shL l)) x f).2 = σ * f * prodI (shL l) := by
    unfold candP
    split
    · exact ⟨-1, .inr rfl, by show -x = _; omega, by show -f * _ = _; congr 1; omega⟩
    · exact ⟨1, .inl rfl, by show x = _; omega, by show f * _ = _; congr 1; omega⟩
  rw [e1, e2]
  clear e1 e2
  intro q hq
  obtain ⟨p, e⟩ := q
  cases e with
  | none =>
    refine decide_eq_true (Int.emod_eq_zero_of_dvd ?_)
    exact Int.dvd_mul_of_dvd_right (sdv p (shL_mem.mpr hq))
  | some r =>
    refine decide_eq_true (Int.emod_eq_zero_of_dvd ?_)
    have hk : (p, r) ∈ knL l := knL_mem.mpr hq
    have h1 := hw _ hk
    have d1 : p ∣ prodP (knL l) := mdv _ hk
    have d2 : p ∣ w - r := by
      have := Int.dvd_self_sub_emod (x := w) (m := p)
      rw [h1] at this
      exact this
    have d3 : prodP (knL l) ∣ w * prodI (shL l) - w * prodI (shL l) % prodP (knL l) := Int.dvd_self_sub_emod
    obtain ⟨c1, h1⟩ := d1
    obtain ⟨c2, h2⟩ := d2
    obtain ⟨c3, h3⟩ := d3
    generalize w * prodI (shL l) % prodP (knL l) = N at *
    generalize prodI (shL l) = S at *
    generalize prodP (knL l) = M at *
    refine ⟨σ * (f * c1 * c3 - t * c1 - c2 * f * S), ?_⟩
    show r * (σ * f * S) - σ * x = _
    have hr : r = w - p * c2 := by omega
    have hN : w * S = N + M * c3 := by omega
    rw [hx, hr]
    have : (w - p * c2) * (σ * f * S) - σ * (f * N + t * M) = σ * (f * (w * S - N) - t * M - p * c2 * f * S) := by grind
    rw [this, show w * S - N = M * c3 by omega, h1]
    grind
theorem cand_uniq {l : List (Int × Option Int)} {w n d x f t b : Int} (hR : RdN l) (hw : ∀ q ∈ knL l, w % q.1 = q.2) (h : Row (prodP (knL l)) (w * prodI (shL l) % prodP (knL l)) n x f) (n0 : 0 ≤ n) (hp : 2 * n * d < prodI (l.map (·.1))) (b1 : 1 ≤ b) (hb : b ≤ d) (t0 : -n ≤ t) (t1 : t ≤ n) (hg : Int.gcd t b = 1) (hk : AllK l t b) : candP (prodI (shL l)) x f = (t, b) := by
  obtain ⟨m0, _, mdv, _⟩ := prodP_facts _ (knL l) rfl fun q hq => (hR.kn.ok q hq).1
  obtain ⟨s0, _, _⟩ := prodI_facts hR.shp
  rw [prod_split] at hp
  obtain ⟨b', hb'⟩ : prodI (shL l) ∣ b := prodI_dvd hR.shp (hR.nd.sublist (shL_sub l)) fun p hp => Int.dvd_of_emod_eq_zero (of_decide_eq_true (hk _ (shL_mem.mp hp)))
  have b'1 : 1 ≤ b' := by
    by_cases z : 1 ≤ b'
    · exact z
    · have : prodI (shL l) * b' ≤ prodI (shL l) * 0 := Int.mul_le_mul_of_nonneg_left (by omega) (by omega)
      omega
  have hdv : prodP (knL l) ∣ t - b' * (w * prodI (shL l) % prodP (knL l)) := by
    refine prodP_dvd _ _ _ rfl (fun q hq => (hR.kn.ok q hq).1) hR.kn.nd fun q hq => ?_
    have h0 := hk _ (knL_mem.mp hq)
    have h0 : q.1 ∣ q.2 * b - t := Int.dvd_of_emod_eq_zero (of_decide_eq_true h0)
    have d1 := mdv q hq
    have d2 : q.1 ∣ w - q.2 := by
      have := Int.dvd_self_sub_emod (x := w) (m := q.1)
      rw [hw q hq] at this
      exact this
    have d3 : prodP (knL l) ∣ w * prodI (shL l) - w * prodI (shL l) % prodP (knL l) := Int.dvd_self_sub_emod
    obtain ⟨c0, h0⟩ := h0
    obtain ⟨c1, h1⟩ := d1
    obtain ⟨c2, h2⟩ := d2
    obtain ⟨c3, h3⟩ := d3
    generalize w * prodI (shL l) % prodP (knL l) = N at *
    generalize prodI (shL l) = S at *
    generalize prodP (knL l) = M at *
    refine ⟨b' * c1 * c3 - c2 * b - c0, ?_⟩
    have e1 : t = q.2 * b - q.1 * c0 := by omega
    have e2 : N = w * S - M * c3 := by omega
    have e3 : w = q.2 + q.1 * c2 := by omega
    rw [e1, e2, h1, e3, hb']
    grind
  have hm : 2 * n * b' < prodP (knL l) := by
    by_cases z : 2 * n * b' < prodP (knL l)
    · exact z
    · exfalso
      have h1 : prodP (knL l) * prodI (shL l) ≤ 2 * n * b' * prodI (shL l) := Int.mul_le_mul_of_nonneg_right (by omega) (by omega)
      have h2 : 2 * n * b ≤ 2 * n * d := Int.mul_le_mul_of_nonneg_left hb (by omega)
      have h3 : 2 * n * b' * prodI (shL l) = 2 * n * b := by rw [hb']; grind
      omega
  obtain ⟨y, e1, e2⟩ := row_mult h n0 b'1 t0 t1 hdv hm
  have yd : y ∣ (1 : Int) := by
    have := Int.dvd_coe_gcd (a := t) (b := b) (c := y) ⟨x, e1⟩ ⟨prodI (shL l) * f, by rw [hb', e2]; grind⟩
    rw [hg] at this
    exact this
  have yy : y = 1 ∨ y = -1 := by
    have h1 := Nat.dvd_one.mp (Int.natAbs_dvd_natAbs.mpr yd)
    omega
  unfold candP
  rcases yy with rfl | rfl
  · rw [if_neg (by omega), hb', e2]
    rw [Int.one_mul] at e1 e2 ⊢
    rw [e1, Int.mul_comm]
  · rw [if_pos (by omega), hb', e2]
    refine Prod.ext ?_ ?_
    · show -x = t
      omega
    · show -f * prodI (shL l) = prodI (shL l) * (-1 * f)
      grind
/-- what one_back tells: None, or the one -/
def TellsOne (l : List (Int × Option Int)) (n d : Int) : Option (Int × Int) → Prop
  | none => ∀ t b : Int, 1 ≤ b → b ≤ d → -n ≤ t → t ≤ n → Int.gcd t b = 1 → ¬ AllK l t b
  | some (t, b) => 1 ≤ b ∧ b ≤ d ∧ -n ≤ t ∧ t ≤ n ∧ Int.gcd t b = 1 ∧ AllK l t b ∧ ∀ t' b' : Int, 1 ≤ b' → b' ≤ d → -n ≤ t' → t' ≤ n → Int.gcd t' b' = 1 → AllK l t' b' → t' = t ∧ b' = b
def fD1 : Option (Int × Int) → PyData
  | none => .none
  | some (t, b) => .tuple [.int t, .int b]
theorem sel_of {f : Nat → Bool} {g : Nat → PyData} {i : Nat} (h : f i = true) : ∀ {n : Nat}, i < n → g i ∈ sel f g n
  | 0, hi => absurd hi (Nat.not_lt_zero i)
  | n + 1, hi => by
    by_cases z : i = n
    · subst z
      rw [sel_yes h]
      exact List.mem_append_right _ List.mem_cons_self
    · have := sel_of (f := f) (g := g) h (show i < n by omega)
      show g i ∈ sel f g n ++ (if f n = true then [g n] else [])
      exact List.mem_append_left _ this
theorem sel_nd {f : Nat → Bool} {g : Nat → PyData} (hg : ∀ i j, g i = g j → i = j) : ∀ n : Nat, (sel f g n).Nodup
  | 0 => List.nodup_nil
  | n + 1 => by
    have ih := sel_nd (f := f) hg n
    cases e : f n with
    | false =>
      rw [sel_no e]
      exact ih
    | true =>
      rw [sel_yes e]
      refine List.nodup_append.mpr ⟨ih, by simp, fun a ha b hb => ?_⟩
      have hb : b = g n := by simpa using hb
      obtain ⟨t, h1, _, h3⟩ := sel_mem ha
      rw [hb, h3]
      intro z
      have := hg _ _ z
      omega
theorem frows_of {n t b : Int} (t0 : -n ≤ t) (t1 : t ≤ n) (b0 : 1 ≤ b) (hg : Int.gcd t b = 1) : ∀ {i : Nat}, b ≤ (i : Int) → PyData.tuple [.int t, .int b] ∈ frows n i
  | 0, h => by omega
  | i + 1, h => by
    show _ ∈ frows n i ++ frow n (1 + (i : Int)) (2 * n + 1).toNat
    by_cases z : b ≤ (i : Int)
    · exact List.mem_append_left _ (frows_of t0 t1 b0 hg z)
    · have e : b = 1 + (i : Int) := by omega
      refine List.mem_append_right _ ?_
      have := sel_of (f := fun t => decide (Int.gcd (-n + (t : Int)) (1 + (i : Int)) = 1)) (g := fun t => .tuple [.int (-n + (t : Int)), .int (1 + (i : Int))]) (i := (t + n).toNat) (n := (2 * n + 1).toNat) (by
        rw [show -n + ((t + n).toNat : Int) = t by omega, ← e]
        exact decide_eq_true hg) (by omega)
      rw [show -n + ((t + n).toNat : Int) = t by omega, ← e] at this
      unfold frow
      rw [← e]
      exact this
theorem frows_nd {n : Int} (n0 : 0 ≤ n) : ∀ i : Nat, (frows n i).Nodup
  | 0 => List.nodup_nil
  | i + 1 => by
    show (frows n i ++ frow n (1 + (i : Int)) (2 * n + 1).toNat).Nodup
    refine List.nodup_append.mpr ⟨frows_nd n0 i, sel_nd (fun a b h => ?_) _, fun x hx y hy => ?_⟩
    · have h : PyData.tuple [.int (-n + (a : Int)), .int (1 + (i : Int))] = .tuple [.int (-n + (b : Int)), .int (1 + (i : Int))] := h
      simp only [PyData.tuple.injEq, List.cons.injEq, PyData.int.injEq] at h
      omega
    · obtain ⟨t, b, rfl, _, _, _, hb, _⟩ := frows_mem n0 hx
      obtain ⟨s, _, _, rfl⟩ := sel_mem hy
      intro z
      simp only [PyData.tuple.injEq, List.cons.injEq, PyData.int.injEq] at z
      omega
theorem nd_one {α : Type} {x : α} : ∀ {l : List α}, l.Nodup → (∀ y ∈ l, y = x) → x ∈ l → l = [x]
  | [], _, _, h => by cases h
  | [y], _, h, _ => by rw [h y List.mem_cons_self]
  | y :: z :: l, nd, h, _ => by
    exfalso
    have e1 := h y List.mem_cons_self
    have e2 := h z (List.mem_cons_of_mem _ List.mem_cons_self)
    have := (List.nodup_cons.mp nd).1
    rw [e1, e2] at this
    exact this List.mem_cons_self
def allE (t b : Int) (l : List (Int × Option Int)) : Bool := l.all fun q => keepsB t b q.1 q.2
theorem allE_iff {t b : Int} {l : List (Int × Option Int)} : allE t b l = true ↔ AllK l t b := List.all_eq_true
def keepE (l : List (Int × Option Int)) : PyData → Bool
  | .tuple [.int t, .int b] => allE t b l
  | _ => false
def backE (n d : Int) (l : List (Int × Option Int)) : List PyData := ((frows n d.toNat).filter (keepE l)).map fun x => x
theorem tells_back {l : List (Int × Option Int)} {n d : Int} {o : Option (Int × Int)} (n0 : 0 ≤ n) (d0 : 1 ≤ d) (h : TellsOne l n d o) : backE n d l = match o with | none => [] | some f => [.tuple [.int f.1, .int f.2]] := by
  unfold backE
  rw [List.map_id']
  cases o with
  | none =>
    refine List.filter_eq_nil_iff.mpr fun x hx => ?_
    obtain ⟨t, b, rfl, t0, t1, b0, b1, hg⟩ := frows_mem n0 hx
    intro z
    exact h t b b0 (by omega) t0 t1 hg (allE_iff.mp z)
  | some f =>
    obtain ⟨b0, b1, t0, t1, hg, hk, hu⟩ := h
    refine nd_one ((frows_nd n0 _).sublist List.filter_sublist) (fun y hy => ?_) (List.mem_filter.mpr ⟨frows_of t0 t1 b0 hg (by omega), allE_iff.mpr hk⟩)
    obtain ⟨h1, h2⟩ := List.mem_filter.mp hy
    obtain ⟨t, b, rfl, t0, t1, b0, b1, hg⟩ := frows_mem n0 h1
    obtain ⟨rfl, rfl⟩ := hu t b b0 (by omega) t0 t1 hg (allE_iff.mp h2)
    rfl
def kpE (t b : Int) : PyData → Bool
  | .tuple [.int p, .none] => keepsB t b p none
  | .tuple [.int p, .int r] => keepsB t b p (some r)
  | _ => true
theorem kpE_at (t b p : Int) (e : Option Int) : kpE t b (.tuple [.int p, oD e]) = keepsB t b p e := by
  cases e <;> rfl
theorem kpE_all (t b : Int) : ∀ l : List (Int × Option Int), (((rdN l).filter fun d => !kpE t b d).map fun d => d).isEmpty = allE t b l
  | [] => rfl
  | q :: l => by
    show (((PyData.tuple [.int q.1, oD q.2] :: rdN l).filter fun d => !kpE t b d).map fun d => d).isEmpty = (keepsB t b q.1 q.2 && allE t b l)
    rw [List.filter_cons, kpE_at]
    cases h : keepsB t b q.1 q.2 with
    | true =>
      rw [if_neg (by decide), kpE_all t b l, Bool.true_and]
    | false =>
      rw [if_pos (by decide), Bool.false_and]
      rfl
theorem rdE_lay1 {l : List (Int × Option Int)} {d : PyData} (hd : d ∈ rdN l) : d.canLay0 = true ∧ d.depth ≤ 1 := by
  obtain ⟨q, _, rfl⟩ := List.mem_map.mp hd
  match q.2 with
  | none => exact ⟨rfl, Nat.le_refl 1⟩
  | some r => exact ⟨rfl, Nat.le_refl 1⟩
theorem rdE_lay (l : List (Int × Option Int)) : (PyData.list (rdN l)).canLay0 = true ∧ (PyData.list (rdN l)).depth ≤ 2 := lay_list (k := 1) fun d hd => rdE_lay1 hd
theorem four_pow : ∀ ps : List Int, ps.Nodup → (∀ p ∈ ps, 2 ≤ p) → (4 : Int) ^ ps.length ≤ prodI ps * (if 2 ∈ ps then 2 else 1) * (if 3 ∈ ps then 2 else 1)
  | [], _, _ => by decide
  | p :: ps, nd, h => by
    obtain ⟨hn, nd⟩ := List.nodup_cons.mp nd
    have ih := four_pow ps nd fun x hx => h x (List.mem_cons_of_mem _ hx)
    have h2 := h p List.mem_cons_self
    have pos : 0 < prodI ps := by
      clear ih hn nd
      have : ∀ qs : List Int, (∀ q ∈ qs, 2 ≤ q) → 0 < prodI qs := fun qs hq => by
        induction qs with
        | nil => decide
        | cons q qs i =>
          rw [prodI_cons]
          exact Int.mul_pos (by have := hq q List.mem_cons_self; omega) (i fun x hx => hq x (List.mem_cons_of_mem _ hx))
      exact this ps fun x hx => h x (List.mem_cons_of_mem _ hx)
    rw [List.length_cons, Int.pow_succ, prodI_cons]
    have c2 : (if 2 ∈ ps then (2 : Int) else 1) = 1 ∨ (if 2 ∈ ps then (2 : Int) else 1) = 2 := by split <;> simp
    have c3 : (if 3 ∈ ps then (2 : Int) else 1) = 1 ∨ (if 3 ∈ ps then (2 : Int) else 1) = 2 := by split <;> simp
    by_cases z2 : p = 2
    · subst z2
      rw [if_neg hn] at ih
      rw [if_pos List.mem_cons_self]
      have e3 : (if 3 ∈ (2 : Int) :: ps then (2 : Int) else 1) = if 3 ∈ ps then 2 else 1 := by simp
      rw [e3]
      generalize (if 3 ∈ ps then (2 : Int) else 1) = C at *
      rcases c3 with rfl | rfl <;> omega
    · by_cases z3 : p = 3
      · subst z3
        rw [if_neg hn] at ih
        have e2 : (if 2 ∈ (3 : Int) :: ps then (2 : Int) else 1) = if 2 ∈ ps then 2 else 1 := by simp
        rw [e2, if_pos List.mem_cons_self]
        generalize (if 2 ∈ ps then (2 : Int) else 1) = C at *
        rcases c2 with rfl | rfl <;> omega
      · have e2 : (if 2 ∈ p :: ps then (2 : Int) else 1) = if 2 ∈ ps then 2 else 1 := by
          by_cases w : 2 ∈ ps
          · rw [if_pos (List.mem_cons_of_mem _ w), if_pos w]
          · rw [if_neg fun y => w ((List.mem_cons.mp y).resolve_left (by omega)), if_neg w]
        have e3 : (if 3 ∈ p :: ps then (2 : Int) else 1) = if 3 ∈ ps then 2 else 1 := by
          by_cases w : 3 ∈ ps
          · rw [if_pos (List.mem_cons_of_mem _ w), if_pos w]
          · rw [if_neg fun y => w ((List.mem_cons.mp y).resolve_left (by omega)), if_neg w]
        rw [e2, e3]
        have : 4 * prodI ps ≤ p * prodI ps := Int.mul_le_mul_of_nonneg_right (by omega) (by omega)
        generalize (if 2 ∈ ps then (2 : Int) else 1) = C at *
        generalize (if 3 ∈ ps then (2 : Int) else 1) = C' at *
        rcases c2 with rfl | rfl <;> rcases c3 with rfl | rfl <;> omega
theorem ten_primes {ps : List Int} (nd : ps.Nodup) (h : ∀ p ∈ ps, 2 ≤ p) (hl : ps.length = 10) : 262144 ≤ prodI ps := by
  have := four_pow ps nd h
  rw [hl] at this
  have e : (4 : Int) ^ 10 = 1048576 := by decide
  have c2 : (if 2 ∈ ps then (2 : Int) else 1) = 1 ∨ (if 2 ∈ ps then (2 : Int) else 1) = 2 := by split <;> simp
  have c3 : (if 3 ∈ ps then (2 : Int) else 1) = 1 ∨ (if 3 ∈ ps then (2 : Int) else 1) = 2 := by split <;> simp
  generalize (if 2 ∈ ps then (2 : Int) else 1) = C at *
  generalize (if 3 ∈ ps then (2 : Int) else 1) = C' at *
  rcases c2 with rfl | rfl <;> rcases c3 with rfl | rfl <;> omega
theorem exB_mutN {B a : Addr} {H H1 : Hp} {o : HO} (e : ExB B H H1) (n : H a = none) : ExB B H (upd H1 a o) := fun b u hb k => by
  rw [upd_ne (ne_of_none k n)]
  exact e b u hb k
theorem DeckB.mut {H : Hp} {da a : Addr} {o : HO} (h : DeckB H da) (n : a ≠ da) : DeckB (upd H a o) da := by
  obtain ⟨xs, h1, h2⟩ := h
  exact ⟨xs, by rw [upd_ne fun z => n z.symm]; exact h1, h2⟩
theorem kn_flt : ∀ l : List (Int × Option Int), (l.filter fun q => !decide (q.2 = none)).map (fun q => PyData.tuple [.int q.1, oD q.2]) = rdD (knL l)
  | [] => rfl
  | (p, none) :: l => kn_flt l
  | (p, some r) :: l => by
    show PyData.tuple [.int p, .int r] :: (l.filter fun q => !decide (q.2 = none)).map (fun q => PyData.tuple [.int q.1, oD q.2]) = _
    rw [kn_flt l]
    rfl
theorem sh_flt (l : List (Int × Option Int)) : (l.filter fun q => decide (q.2 = none)).map (fun q => PyData.int q.1) = (shL l).map PyData.int := by
  unfold shL
  rw [List.map_map]
  rfl
/-! ### two that keep the same readings -/
theorem kept_uniq {l : List (Int × Option Int)} {n d t b t' b' : Int} (hR : RdN l) (n0 : 0 ≤ n) (hp : 2 * n * d < prodI (l.map (·.1))) (b1 : 1 ≤ b) (hb : b ≤ d) (t0 : -n ≤ t) (t1 : t ≤ n) (hg : Int.gcd t b = 1) (hk : AllK l t b) (b1' : 1 ≤ b') (hb' : b' ≤ d) (t0' : -n ≤ t') (t1' : t' ≤ n) (hg' : Int.gcd t' b' = 1) (hk' : AllK l t' b') : t' = t ∧ b' = b := by
  have hdv : prodI (l.map (·.1)) ∣ t * b' - t' * b := by
    refine prodI_dvd hR.prs hR.nd fun p hp => ?_
    obtain ⟨⟨p, e⟩, hq, rfl⟩ := List.mem_map.mp hp
    have h1 := hk _ hq
    have h2 := hk' _ hq
    cases e with
    | none =>
      have h1 : p ∣ b := Int.dvd_of_emod_eq_zero (of_decide_eq_true h1)
      have h2 : p ∣ b' := Int.dvd_of_emod_eq_zero (of_decide_eq_true h2)
      exact Int.dvd_sub (Int.dvd_mul_of_dvd_right h2) (Int.dvd_mul_of_dvd_right h1)
    | some r =>
      have h1 : p ∣ r * b - t := Int.dvd_of_emod_eq_zero (of_decide_eq_true h1)
      have h2 : p ∣ r * b' - t' := Int.dvd_of_emod_eq_zero (of_decide_eq_true h2)
      obtain ⟨c1, h1⟩ := h1
      obtain ⟨c2, h2⟩ := h2
      refine ⟨c2 * b - c1 * b', ?_⟩
      have e1 : t = r * b - p * c1 := by omega
      have e2 : t' = r * b' - p * c2 := by omega
      rw [e1, e2]
      grind
  have bnd : ∀ x y : Int, -n ≤ x → x ≤ n → 1 ≤ y → y ≤ d → -(n * d) ≤ x * y ∧ x * y ≤ n * d := fun x y x0 x1 y0 y1 => by
    have w1 : x * y ≤ n * y := Int.mul_le_mul_of_nonneg_right x1 (by omega)
    have w2 : -n * y ≤ x * y := Int.mul_le_mul_of_nonneg_right x0 (by omega)
    have w3 : n * y ≤ n * d := Int.mul_le_mul_of_nonneg_left y1 n0
    rw [Int.neg_mul] at w2
    omega
  have z1 := bnd t b' t0 t1 b1' hb'
  have z2 := bnd t' b t0' t1' b1 hb
  have e0 : 2 * n * d = n * d + n * d := by grind
  have ez : t * b' = t' * b := by
    obtain ⟨c, hc⟩ := hdv
    generalize prodI (l.map (·.1)) = M at *
    have m0 : 0 < M := by omega
    have c0 : c = 0 := by
      rcases Int.lt_trichotomy c 0 with w | w | w
      · have : M * c ≤ M * (-1) := Int.mul_le_mul_of_nonneg_left (by omega) (by omega)
        omega
      · exact w
      · have : M * 1 ≤ M * c := Int.mul_le_mul_of_nonneg_left (by omega) (by omega)
        omega
    rw [c0, Int.mul_zero] at hc
    omega
  have d1 : b ∣ b' := dvd_left_of (b := t) ⟨t', by rw [Int.mul_comm b' t, ez, Int.mul_comm]⟩ (by rw [Int.gcd_comm]; exact hg)
  have d2 : b' ∣ b := dvd_left_of (b := t') ⟨t, by rw [Int.mul_comm b t', ← ez, Int.mul_comm]⟩ (by rw [Int.gcd_comm]; exact hg')
  have l1 := Int.le_of_dvd (by omega) d1
  have l2 := Int.le_of_dvd (by omega) d2
  have eb : b' = b := by omega
  subst eb
  exact ⟨(Int.eq_of_mul_eq_mul_right (by omega) ez).symm, rfl⟩
theorem own_kept {t b : Int} {ps : List Int} (hp : ∀ p ∈ ps, primeB p = true) (hg : Int.gcd t b = 1) : AllK (ps.map fun p => (p, restO t b p)) t b := fun q hq => by
  obtain ⟨p, h, rfl⟩ := List.mem_map.mp hq
  exact (keeps_rest hg (hp p h) fun r hr => restO_ok (hp p h) hr).mpr (oD_restO t b p).symm
theorem tells_it {l : List (Int × Option Int)} {n d t b : Int} {o : Option (Int × Int)} (h : TellsOne l n d o) (b1 : 1 ≤ b) (hb : b ≤ d) (t0 : -n ≤ t) (t1 : t ≤ n) (hg : Int.gcd t b = 1) (hk : AllK l t b) : o = some (t, b) := by
  cases o with
  | none => exact absurd hk (h t b b1 hb t0 t1 hg)
  | some f =>
    obtain ⟨_, _, _, _, _, _, hu⟩ := h
    obtain ⟨e1, e2⟩ := hu t b b1 hb t0 t1 hg hk
    rw [e1, e2]
theorem tells_no {l : List (Int × Option Int)} {n d : Int} {o : Option (Int × Int)} (h : TellsOne l n d o) (hn : ∀ t b : Int, 1 ≤ b → b ≤ d → -n ≤ t → t ≤ n → Int.gcd t b = 1 → ¬ AllK l t b) : o = none := by
  cases o with
  | none => rfl
  | some f =>
    obtain ⟨h1, h2, h3, h4, h5, h6, _⟩ := h
    exact absurd h6 (hn _ _ h1 h2 h3 h4 h5)
theorem prodI_perm {ps qs : List Int} (h : ps.Perm qs) : prodI ps = prodI qs := by
  rw [prodI_eq, prodI_eq]
  exact prodP_perm (h.map _)
theorem prodI_cut {ps : List Int} {k : Nat} {p : Int} (h : ps[k]? = some p) : prodI ps = p * prodI (ps.take k ++ ps.drop (k + 1)) := by
  rw [← List.eraseIdx_eq_take_drop_succ, ← prodI_cons]
  exact (prodI_perm (erase_perm ps k p h)).symm
theorem set_split {α : Type} {l : List α} {k : Nat} (v : α) (h : k < l.length) : l.set k v = l.take k ++ v :: l.drop (k + 1) := by
  rw [List.set_eq_take_append_cons_drop, if_pos h]
/-- [(p, rest of f by p) for p in primes] -/
theorem en_own {K : PySem.W.Frag} {σ : L2.St} {H : Hp} {tl te : TE} {j : Nat} {vs : List Nat} {t b : Int} {ps : List Int} (h : EvD tl σ H (.list (ps.map PyData.int))) (hz : ps.length ≤ 1000) (hw : ∀ x, wipe ((wipe σ vs).set j (some x)) vs = wipe σ vs) (hj : ∀ x, ((wipe σ vs).set j (some x))[j]? = some (some x))
    (he : ∀ H1 p, Ex H H1 → p ∈ ps → ∀ Q : VK, (∀ H2 (e : Option Int), Ex H1 H2 → restD t b p = oD e → Q (oV e) H2) → te ((wipe σ vs).set j (some (.int p))) H1 Q) :
    EvN (tLc (iList K tl) (gName j) tYes (tTup (tCons (tVar j) (tCons te tNil))) vs) σ H (rdN (ps.map fun p => (p, restO t b p))) := by
  rw [← rd_ps]
  refine en_lcD (fun _ => true) (fun d => .tuple [d, restD t b (dI0 d)]) h (by rw [List.length_map]; omega) hw (fun H4 w d e4 hm hv H5 e5 Q k => k H5 (Ex.refl _)) (fun H4 w d e4 hm hv _ => ?_) (fun d hm _ => ?_)
  · obtain ⟨p, hp, rfl⟩ := List.mem_map.mp hm
    cases hv
    refine ed_tup (eda_cons (ed_int (ev_var (hj _))) (eda_cons (fun H5 e5 Q k => he H5 p (e4.trans e5) hp Q fun H6 e e6 hre => k _ H6 e6 ?_) eda_nil)) (Nat.le_of_ble_eq_true rfl)
    show Dt H6 (oV e) (restD t b p)
    rw [hre]
    exact .o e
  · obtain ⟨p, hp, rfl⟩ := List.mem_map.mp hm
    show noL (.tuple [.int p, restD t b p]) = true
    rw [← oD_restO]
    cases restO t b p <;> rfl
/-! ### heaps but for some lists -/
/-- the heap without what stands at S -/
def hid (S : List Addr) (H : Hp) : Hp := fun a => if a ∈ S then none else H a
theorem hid_in {S : List Addr} {H : Hp} {a : Addr} (h : a ∈ S) : hid S H a = none := if_pos h
theorem hid_out {S : List Addr} {H : Hp} {a : Addr} (h : a ∉ S) : hid S H a = H a := if_neg h
theorem hid_get {S : List Addr} {H : Hp} {a : Addr} {o : HO} (h : H a = some o) (n : a ∉ S) : hid S H a = some o := by
  rw [hid_out n]
  exact h
theorem hid_ex (S : List Addr) (H : Hp) : Ex (hid S H) H := fun a o h => by
  by_cases z : a ∈ S
  · rw [hid_in z] at h
    cases h
  · rwa [hid_out z] at h
/-- what stands outside of S is as it was -/
def ExS (S : List Addr) (H H' : Hp) : Prop := Ex (hid S H) (hid S H')
section
variable {S : List Addr} {H H1 H2 : Hp} {a p : Addr} {o : HO}
theorem ExS.refl (S : List Addr) (H : Hp) : ExS S H H := Ex.refl _
theorem ExS.trans (e : ExS S H H1) (f : ExS S H1 H2) : ExS S H H2 := Ex.trans e f
theorem ExS.of (e : Ex H H1) : ExS S H H1 := fun a o h => by
  by_cases z : a ∈ S
  · rw [hid_in z] at h
    cases h
  · rw [hid_out z] at h ⊢
    exact e a o h
theorem ExS.new (h : H p = none) : ExS S H (upd H p o) := .of (Ex.new h)
theorem ExS.at (e : ExS S H H1) (h : H a = some o) (n : a ∉ S) : H1 a = some o := by
  have := e a o (hid_get h n)
  rwa [hid_out n] at this
theorem ExS.mut (h : a ∈ S) : ExS S H (upd H a o) := fun b u k => by
  by_cases z : b ∈ S
  · rw [hid_in z] at k
    cases k
  · rw [hid_out z] at k ⊢
    rw [upd_ne (fun (y : b = a) => z (by rw [y]; exact h))]
    exact k
/-- what was not there may change -/
theorem ExS.mutN (e : ExS S H H1) (n : H a = none) : ExS S H (upd H1 a o) := fun b u k => by
  by_cases z : b ∈ S
  · rw [hid_in z] at k
    cases k
  · have k2 := e b u k
    rw [hid_out z] at k k2 ⊢
    rw [upd_ne (ne_of_none k n)]
    exact k2
theorem ExS.keep {H0 : Hp} (e0 : Ex H0 H) (n : ∀ s ∈ S, H0 s = none) (e : ExS S H H1) : Ex H0 H1 := fun b u k => by
  have z : b ∉ S := fun y => by
    rw [n b y] at k
    cases k
  exact e.at (e0 b u k) z
theorem ExS.back (e : ExS S H H1) (h : H1 p = none) (n : p ∉ S) : H p = none := by
  cases q : H p with
  | none => rfl
  | some u =>
    rw [e.at q n] at h
    cases h
theorem ExS.wid {R : List Addr} (e : ExS S H H1) (h : ∀ s ∈ S, s ∈ R) : ExS R H H1 := fun b u k => by
  by_cases z : b ∈ R
  · rw [hid_in z] at k
    cases k
  · rw [hid_out z] at k ⊢
    exact e.at k (fun y => z (h b y))
end
/-! ### a deck of pools -/
def PlU (H : Hp) (q : Addr) : Prop := ∃ a b c : Int, H q = some (.lst [.int a, .int b, .int c])
structure DkB (H : Hp) (da : Addr) (S : List Addr) : Prop where
  ex : ∃ (pl : Addr) (qs : List Addr) (c : Int), S = da :: pl :: qs ∧ H da = some (.lst [.ref pl, .int c]) ∧ H pl = some (.lst (qs.map V.ref)) ∧ da ≠ pl ∧ da ∉ qs ∧ pl ∉ qs ∧ qs ≠ [] ∧ qs.length ≤ 63 ∧ ∀ q ∈ qs, PlU H q
section
variable {S : List Addr} {H H1 : Hp} {da a p : Addr} {o : HO}
theorem DkB.all (h : DkB H da S) : ∀ s ∈ S, IsL H s := by
  obtain ⟨pl, qs, c, rfl, h1, h0, _, _, _, _, _, h2⟩ := h
  intro s hs
  rcases List.mem_cons.mp hs with rfl | hs
  · exact ⟨_, h1⟩
  · rcases List.mem_cons.mp hs with rfl | hs
    · exact ⟨_, h0⟩
    · obtain ⟨a, b, c, h⟩ := h2 s hs
      exact ⟨_, h⟩
theorem DkB.ne (h : DkB H da S) (hp : H p = none) : p ∉ S := fun z => by
  obtain ⟨xs, hx⟩ := h.all p z
  rw [hx] at hp
  cases hp
theorem DkB.tup {xs : List V} (h : DkB H da S) (hp : H p = some (.tup xs)) : p ∉ S := fun z => by
  obtain ⟨xs, hx⟩ := h.all p z
  rw [hx] at hp
  cases hp
theorem DkB.up (h : DkB H da S) (e : Ex H H1) : DkB H1 da S := by
  obtain ⟨pl, qs, c, h1, h2, h3, h4, h5, h6, h7, h8, h9⟩ := h
  exact ⟨pl, qs, c, h1, e _ _ h2, e _ _ h3, h4, h5, h6, h7, h8, fun q hq => by
    obtain ⟨a, b, c, h⟩ := h9 q hq
    exact ⟨a, b, c, e _ _ h⟩⟩
/-- a list beside it may change -/
theorem DkB.mut (h : DkB H da S) (n : a ∉ S) : DkB (upd H a o) da S := by
  obtain ⟨pl, qs, c, h1, h2, h3, h4, h5, h6, h7, h8, h9⟩ := h
  subst h1
  refine ⟨pl, qs, c, rfl, ?_, ?_, h4, h5, h6, h7, h8, fun q hq => ?_⟩
  · rw [upd_ne fun z => n (by rw [← z]; exact List.mem_cons_self)]
    exact h2
  · rw [upd_ne fun z => n (by rw [← z]; exact List.mem_cons_of_mem _ List.mem_cons_self)]
    exact h3
  · obtain ⟨a1, b, c, h⟩ := h9 q hq
    exact ⟨a1, b, c, by rw [upd_ne fun z => n (by rw [← z]; exact List.mem_cons_of_mem _ (List.mem_cons_of_mem _ hq))]; exact h⟩
end
theorem field_lo {p : Int} (h : dField (.int p) = true) : 3 ≤ p ∧ p ≤ 97 := by
  obtain ⟨n, e, _, h1, h2⟩ := dField_get h
  cases e
  exact ⟨h1, h2⟩
/-! data without lists in it, where some lists change -/
mutual
theorem Dt.exS {S : List Addr} {H H' : Hp} (hS : ∀ s ∈ S, IsL H s) (e : ExS S H H') : ∀ (d : PyData) (v : V), noL d = true → Dt H v d → Dt H' v d
  | .none, _, _, h => by cases h; exact .non
  | .bool b, _, _, h => by cases h; exact .bl b
  | .int i, _, _, h => by cases h; exact .int i
  | .str x, _, _, h => by cases h; exact .str x
  | .list ds, _, n, h => nomatch n
  | .tuple ds, _, n, h => by
    cases h with
    | @tup a _ _ hs ha =>
      refine .tup (e.at hs fun z => ?_) (DtAll.exS hS e ds _ n ha)
      obtain ⟨xs, hx⟩ := hS a z
      rw [hx] at hs
      cases hs
  | .dict _, _, _, h => by
    cases h with
    | @dic a _ hs =>
      refine .dic (e.at hs fun z => ?_)
      obtain ⟨xs, hx⟩ := hS a z
      rw [hx] at hs
      cases hs
theorem DtAll.exS {S : List Addr} {H H' : Hp} (hS : ∀ s ∈ S, IsL H s) (e : ExS S H H') : ∀ (ds : List PyData) (vs : List V), noLs ds = true → DtAll H vs ds → DtAll H' vs ds
  | [], _, _, h => by cases h; exact .nil
  | d :: ds, _, n, h => by
    obtain ⟨n1, n2⟩ := Bool.and_eq_true_iff.mp (show (noL d && noLs ds) = true from n)
    cases h with
    | cons h1 h2 => exact .cons (Dt.exS hS e d _ n1 h1) (DtAll.exS hS e ds _ n2 h2)
end
/-! ### polynomials -/
/-- numbers below p, the last of them not 0 -/
structure PolyI (p : Int) (cs : List Int) : Prop where
  lo : ∀ c ∈ cs, 0 ≤ c ∧ c < p
  la : ∀ h : cs ≠ [], cs.getLast h ≠ 0
def dPoly (p : Int) : PyData → Bool
  | .list ds => ds.all (dBelow p) && (decide (ds.length = 0) || !decide (dI0 (ds.getLastD .none) = 0))
  | _ => false
theorem getLastD_map {cs : List Int} (h : cs ≠ []) : (cs.map PyData.int).getLastD .none = .int (cs.getLast h) := by
  rw [List.getLastD_eq_getLast?, List.getLast?_map, List.getLast?_eq_getLast h]
  rfl
theorem PolyI.d {p : Int} {cs : List Int} (h : PolyI p cs) : dPoly p (.list (cs.map PyData.int)) = true := by
  show ((cs.map PyData.int).all (dBelow p) && (decide ((cs.map PyData.int).length = 0) || !decide (dI0 ((cs.map PyData.int).getLastD .none) = 0))) = true
  rw [Bool.and_eq_true]
  refine ⟨List.all_eq_true.mpr fun d hd => ?_, ?_⟩
  · obtain ⟨c, hc, rfl⟩ := List.mem_map.mp hd
    exact dBelow_of (h.lo c hc).1 (h.lo c hc).2
  · by_cases z : cs = []
    · subst z
      rfl
    · rw [getLastD_map z, show dI0 (.int (cs.getLast z)) = cs.getLast z from rfl, decide_eq_false (h.la z)]
      exact Bool.or_true _
theorem polyI_nil (p : Int) : PolyI p [] := PolyI.mk (fun c hc => by cases hc) (fun h => absurd rfl h)
theorem PolyI.snoc {p c : Int} {cs : List Int} (h : ∀ c ∈ cs, 0 ≤ c ∧ c < p) (c0 : 0 < c) (c1 : c < p) : PolyI p (cs ++ [c]) := by
  refine ⟨fun x hx => ?_, fun hn => ?_⟩
  · rcases List.mem_append.mp hx with z | z
    · exact h x z
    · rcases List.mem_cons.mp z with rfl | z
      · omega
      · cases z
  · rw [List.getLast_concat]
    omega
/-- the worth by Horner's way -/
def horner (p x : Int) : List Int → Int
  | [] => 0
  | c :: cs => (horner p x cs * x + c) % p
theorem horner_lo {p x : Int} (hp : 0 < p) (cs : List Int) : 0 ≤ horner p x cs ∧ horner p x cs < p := by
  cases cs with
  | nil => exact ⟨Int.le_refl 0, hp⟩
  | cons c cs => exact ⟨Int.emod_nonneg _ (by omega), Int.emod_lt_of_pos _ hp⟩
/-- the worth as a sum of products -/
def powB (p x : Int) : Nat → Int
  | 0 => 1
  | n + 1 => powB p x n * x % p
def sumB (p x : Int) : Nat → List Int → Int
  | _, [] => 0
  | i, c :: cs => c * powB p x i + sumB p x (i + 1) cs
theorem sumB_snoc (p x : Int) : ∀ (i : Nat) (cs : List Int) (c : Int), sumB p x i (cs ++ [c]) = sumB p x i cs + c * powB p x (i + cs.length)
  | i, [], c => by
    show c * powB p x i + 0 = 0 + c * powB p x (i + 0)
    rw [Int.add_zero, Int.zero_add, Nat.add_zero]
  | i, d :: cs, c => by
    show d * powB p x i + sumB p x (i + 1) (cs ++ [c]) = d * powB p x i + sumB p x (i + 1) cs + c * powB p x (i + (cs.length + 1))
    rw [sumB_snoc p x (i + 1) cs c, show i + 1 + cs.length = i + (cs.length + 1) by omega]
    omega
theorem sumB_pow {p x : Int} (hp : 0 < p) : ∀ (cs : List Int) (i : Nat), sumB p x i cs % p = powB p x i * horner p x cs % p
  | [], i => by
    show 0 % p = powB p x i * 0 % p
    rw [Int.mul_zero]
  | c :: cs, i => by
    have ih := sumB_pow (x := x) hp cs (i + 1)
    show (c * powB p x i + sumB p x (i + 1) cs) % p = powB p x i * ((horner p x cs * x + c) % p) % p
    rw [Int.add_emod, ih, show powB p x (i + 1) = powB p x i * x % p from rfl]
    have h1 : powB p x i * x % p * horner p x cs % p = powB p x i * x * horner p x cs % p := by
      rw [Int.mul_emod, Int.emod_emod_of_dvd _ (Int.dvd_refl p), ← Int.mul_emod]
    rw [h1, ← Int.add_emod, Int.mul_emod, Int.emod_emod_of_dvd _ (Int.dvd_refl p), ← Int.mul_emod]
    congr 1
    grind
theorem worth_same {p x : Int} (hp : 0 < p) (cs : List Int) : sumB p x 0 cs % p = horner p x cs := by
  rw [sumB_pow hp cs 0, show powB p x 0 = 1 from rfl, Int.one_mul]
  obtain ⟨h1, h2⟩ := horner_lo (x := x) hp cs
  exact Int.emod_eq_of_lt h1 h2
theorem powB_lo {p x : Int} (hp : 1 < p) : ∀ i, 0 ≤ powB p x i ∧ powB p x i < p
  | 0 => ⟨show (0 : Int) ≤ 1 by decide, hp⟩
  | i + 1 => ⟨Int.emod_nonneg _ (by omega), Int.emod_lt_of_pos _ (by omega)⟩
/-! ### noughts at the end -/
def LI (H : Hp) (a : Addr) (cs : List Int) : Prop := H a = some (.lst (cs.map V.int))
theorem LI.dt {H : Hp} {a : Addr} {cs : List Int} (h : LI H a cs) : Dt H (.ref a) (.list (cs.map PyData.int)) := .lst h (DtAll.ints cs)
theorem LI.up {H H1 : Hp} {a : Addr} {cs : List Int} (h : LI H a cs) (e : Ex H H1) : LI H1 a cs := e _ _ h
theorem LI.sq {K : PySem.W.Frag} {H : Hp} {a : Addr} {cs : List Int} (h : LI H a cs) : SqL K H a (cs.map V.int) := sq_of h
theorem LI.of {H : Hp} {v : V} {cs : List Int} (h : Dt H v (.list (cs.map PyData.int))) : ∃ a, v = .ref a ∧ LI H a cs := by
  obtain ⟨a, xs, rfl, ha, hx⟩ := h.lst_get
  have := DtAll.ints_eq _ hx
  subst this
  exact ⟨a, rfl, ha⟩
theorem int_get {cs : List Int} {i : Nat} {x : V} (h : (cs.map V.int)[i]? = some x) : ∃ c, cs[i]? = some c ∧ x = .int c := by
  rw [List.getElem?_map] at h
  cases hc : cs[i]? with
  | none =>
    rw [hc] at h
    cases h
  | some c =>
    rw [hc] at h
    exact ⟨c, rfl, (Option.some.inj h).symm⟩
theorem int_at {cs : List Int} {x : Int} (h0 : 0 ≤ x) (h : x < (cs.length : Int)) : atI (cs.map V.int) x = some (.int (cs.getD x.toNat 0)) := by
  refine atI_of h0 ?_
  rw [List.getElem?_map, List.getD_eq_getElem?_getD, List.getElem?_eq_getElem (by omega)]
  rfl
theorem set_at {cs : List Int} {x : Int} (h0 : 0 ≤ x) (h : x < (cs.length : Int)) : ixN (cs.map V.int).length x = some x.toNat := by
  unfold ixN
  rw [if_pos h0, List.length_map, if_pos h]
def trimL : List Int → List Int
  | [] => []
  | c :: cs => if c = 0 ∧ trimL cs = [] then [] else c :: trimL cs
theorem trim_take : ∀ (cs : List Int) (m : Nat), m ≤ cs.length → (∀ i c, m ≤ i → cs[i]? = some c → c = 0) → (∀ c, 0 < m → cs[m - 1]? = some c → c ≠ 0) → cs.take m = trimL cs
  | [], m, _, _, _ => by rw [List.take_nil]; rfl
  | c :: cs, 0, _, h1, _ => by
    have i := trim_take cs 0 (Nat.zero_le _) (fun i d _ hd => h1 (i + 1) d (Nat.zero_le _) hd) (fun d z => absurd z (Nat.lt_irrefl 0))
    have c0 : c = 0 := h1 0 c (Nat.le_refl 0) rfl
    show [] = if c = 0 ∧ trimL cs = [] then [] else c :: trimL cs
    rw [if_pos ⟨c0, i.symm⟩]
  | c :: cs, m + 1, hm, h1, h2 => by
    have hm : m ≤ cs.length := Nat.le_of_succ_le_succ hm
    have i := trim_take cs m hm (fun i d hi hd => h1 (i + 1) d (Nat.succ_le_succ hi) hd) (fun d z hd => h2 d (Nat.succ_pos m) (by
      obtain ⟨k, rfl⟩ : ∃ k, m = k + 1 := ⟨m - 1, by omega⟩
      exact hd))
    show c :: cs.take m = if c = 0 ∧ trimL cs = [] then [] else c :: trimL cs
    rw [if_neg, i]
    rintro ⟨z1, z2⟩
    cases m with
    | zero => exact h2 c (by decide) rfl z1
    | succ k =>
      rw [← i] at z2
      have := congrArg List.length z2
      rw [List.length_take, Nat.min_eq_left hm] at this
      cases this
theorem trim_mem : ∀ {cs : List Int} {x : Int}, x ∈ trimL cs → x ∈ cs
  | c :: cs, x, h => by
    have h : x ∈ (if c = 0 ∧ trimL cs = [] then [] else c :: trimL cs) := h
    split at h
    · cases h
    · rcases List.mem_cons.mp h with rfl | h
      · exact List.mem_cons_self
      · exact List.mem_cons_of_mem _ (trim_mem h)
theorem trim_len : ∀ cs : List Int, (trimL cs).length ≤ cs.length
  | [] => Nat.le_refl 0
  | c :: cs => by
    have := trim_len cs
    show (if c = 0 ∧ trimL cs = [] then [] else c :: trimL cs).length ≤ cs.length + 1
    split
    · exact Nat.zero_le _
    · exact Nat.succ_le_succ this
theorem trim_last' : ∀ cs : List Int, (trimL cs).getLast? ≠ some 0
  | [] => fun h => nomatch h
  | c :: cs => by
    have i := trim_last' cs
    show (if c = 0 ∧ trimL cs = [] then [] else c :: trimL cs).getLast? ≠ some 0
    split
    · exact fun h => nomatch h
    · rename_i n
      cases z : trimL cs with
      | nil =>
        intro h
        have h : some c = some 0 := h
        exact n ⟨Option.some.inj h, z⟩
      | cons d ds =>
        rw [List.getLast?_cons_cons, ← z]
        exact i
theorem trim_last (cs : List Int) (h : trimL cs ≠ []) : (trimL cs).getLast h ≠ 0 := fun y => trim_last' cs (by rw [List.getLast?_eq_getLast h, y])
theorem trim_poly {p : Int} {cs : List Int} (h : ∀ c ∈ cs, 0 ≤ c ∧ c < p) : PolyI p (trimL cs) := ⟨fun c hc => h c (trim_mem hc), trim_last cs⟩
theorem trim_getD : ∀ (cs : List Int) (i : Nat), (trimL cs).getD i 0 = cs.getD i 0
  | [], i => rfl
  | c :: cs, i => by
    show (if c = 0 ∧ trimL cs = [] then [] else c :: trimL cs).getD i 0 = (c :: cs).getD i 0
    split
    · rename_i z
      cases i with
      | zero => exact z.1.symm
      | succ i =>
        have := trim_getD cs i
        rw [z.2] at this
        exact this
    · cases i with
      | zero => rfl
      | succ i => exact trim_getD cs i
/-- a polynomial is as it is trimmed -/
theorem PolyI.trim : ∀ {p : Int} {cs : List Int}, PolyI p cs → trimL cs = cs := fun {p cs} h => by
  have := trim_take cs cs.length (Nat.le_refl _) (fun i c hi hc => by
    obtain ⟨hl, _⟩ := List.getElem?_eq_some_iff.mp hc
    omega) (fun c hm hc => by
    have hn : cs ≠ [] := fun z => by
      rw [z] at hm
      cases hm
    have := h.la hn
    rw [List.getLast_eq_getElem] at this
    obtain ⟨_, he⟩ := List.getElem?_eq_some_iff.mp hc
    rw [← he]
    exact this)
  rw [← this, List.take_length]
/-! ### sums -/
def padL (cs : List Int) (n : Nat) : List Int := cs ++ List.replicate (n - cs.length) 0
theorem pad_get {cs : List Int} {n i : Nat} (h : cs.length ≤ n) (hi : i < n) : (padL cs n)[i]? = some (cs.getD i 0) := by
  unfold padL
  rw [List.getD_eq_getElem?_getD]
  by_cases z : i < cs.length
  · rw [List.getElem?_append_left z, List.getElem?_eq_getElem z]
    rfl
  · rw [List.getElem?_append_right (by omega), List.getElem?_replicate_of_lt (by omega), List.getElem?_eq_none (by omega)]
    rfl
theorem pad_len {cs : List Int} {n : Nat} (h : cs.length ≤ n) : (padL cs n).length = n := by
  unfold padL
  rw [List.length_append, List.length_replicate]
  omega
def mapR (f : Nat → Int) (n : Nat) : List Int := (List.range n).map f
theorem mapR_len (f : Nat → Int) (n : Nat) : (mapR f n).length = n := by
  unfold mapR
  rw [List.length_map, List.length_range]
theorem mapR_get {f : Nat → Int} {n i : Nat} (h : i < n) : (mapR f n)[i]? = some (f i) := by
  unfold mapR
  rw [List.getElem?_map, List.getElem?_range h]
  rfl
theorem mapR_getD {f : Nat → Int} {n i : Nat} (h : i < n) : (mapR f n).getD i 0 = f i := by
  rw [List.getD_eq_getElem?_getD, mapR_get h]
  rfl
theorem mapR_set (f : Nat → Int) (n k : Nat) (v : Int) : (mapR f n).set k v = mapR (fun i => if i = k then v else f i) n := by
  refine List.ext_getElem? fun i => ?_
  by_cases hi : i < n
  · rw [List.getElem?_set, mapR_get hi, mapR_get hi, mapR_len]
    by_cases z : k = i
    · rw [if_pos z, if_pos (by omega), if_pos z.symm]
    · rw [if_neg z, if_neg (fun y => z y.symm)]
  · rw [List.getElem?_eq_none (by rw [List.length_set, mapR_len]; omega), List.getElem?_eq_none (by rw [mapR_len]; omega)]
theorem mapR_congr {f g : Nat → Int} {n : Nat} (h : ∀ i, i < n → f i = g i) : mapR f n = mapR g n := by
  unfold mapR
  exact List.map_congr_left fun i hi => h i (List.mem_range.mp hi)
theorem mapR_mem {f : Nat → Int} {n : Nat} {x : Int} (h : x ∈ mapR f n) : ∃ i, i < n ∧ x = f i := by
  unfold mapR at h
  obtain ⟨i, hi, rfl⟩ := List.mem_map.mp h
  exact ⟨i, List.mem_range.mp hi, rfl⟩
theorem mapR_succ (f : Nat → Int) (n : Nat) : mapR f (n + 1) = mapR f n ++ [f n] := by
  unfold mapR
  rw [List.range_succ, List.map_append]
  rfl
theorem rep_map (n : Nat) : (List.replicate n [V.int 0]).flatten = (List.replicate n (0 : Int)).map V.int := by
  induction n with
  | zero => rfl
  | succ n ih =>
    rw [List.replicate_succ, List.replicate_succ, List.flatten_cons, ih]
    rfl
theorem rep_mapR (n : Nat) : List.replicate n (0 : Int) = mapR (fun _ => 0) n := by
  refine List.ext_getElem? fun i => ?_
  by_cases hi : i < n
  · rw [mapR_get hi, List.getElem?_replicate_of_lt hi]
  · rw [List.getElem?_eq_none (by rw [List.length_replicate]; omega), List.getElem?_eq_none (by rw [mapR_len]; omega)]
def addZ (p : Int) (a b : List Int) (n : Nat) : List Int := mapR (fun i => (a.getD i 0 + b.getD i 0) % p) n
def addL (p : Int) (a b : List Int) : List Int := trimL (addZ p a b (max a.length b.length))
theorem addL_poly {p : Int} (hp : 0 < p) (a b : List Int) : PolyI p (addL p a b) := trim_poly fun c hc => by
  obtain ⟨i, _, rfl⟩ := mapR_mem hc
  exact ⟨Int.emod_nonneg _ (by omega), Int.emod_lt_of_pos _ hp⟩
/-! ### products -/
def rowM (p : Int) : Nat → Int → List Int → List Int → List Int
  | _, _, [], ns => ns
  | k, a, b :: bs, ns => rowM p (k + 1) a bs (ns.set k ((ns.getD k 0 + a * b) % p))
def mulM (p : Int) : Nat → List Int → List Int → List Int → List Int
  | _, [], _, ns => ns
  | k, a :: as, other, ns => mulM p (k + 1) as other (rowM p k a other ns)
theorem rowM_len (p : Int) : ∀ (bs : List Int) (k : Nat) (a : Int) (ns : List Int), (rowM p k a bs ns).length = ns.length
  | [], _, _, _ => rfl
  | b :: bs, k, a, ns => by
    show (rowM p (k + 1) a bs _).length = _
    rw [rowM_len p bs, List.length_set]
theorem mulM_len (p : Int) : ∀ (as : List Int) (k : Nat) (bs ns : List Int), (mulM p k as bs ns).length = ns.length
  | [], _, _, _ => rfl
  | a :: as, k, bs, ns => by
    show (mulM p (k + 1) as bs _).length = _
    rw [mulM_len p as, rowM_len]
theorem rowM_lo {p : Int} (hp : 0 < p) : ∀ (bs : List Int) (k : Nat) (a : Int) (ns : List Int), (∀ c ∈ ns, 0 ≤ c ∧ c < p) → ∀ c ∈ rowM p k a bs ns, 0 ≤ c ∧ c < p
  | [], _, _, _, h => h
  | b :: bs, k, a, ns, h => rowM_lo hp bs (k + 1) a _ fun c hc => by
    rcases List.mem_or_eq_of_mem_set hc with z | z
    · exact h c z
    · rw [z]
      exact ⟨Int.emod_nonneg _ (by omega), Int.emod_lt_of_pos _ hp⟩
theorem mulM_lo {p : Int} (hp : 0 < p) : ∀ (as : List Int) (k : Nat) (bs ns : List Int), (∀ c ∈ ns, 0 ≤ c ∧ c < p) → ∀ c ∈ mulM p k as bs ns, 0 ≤ c ∧ c < p
  | [], _, _, _, h => h
  | a :: as, k, bs, ns, h => mulM_lo hp as (k + 1) bs _ (rowM_lo hp bs k a ns h)
def mulL (p : Int) (a b : List Int) : List Int := trimL (mulM p 0 a b (List.replicate (a.length + b.length) 0))
theorem mulL_poly {p : Int} (hp : 0 < p) (a b : List Int) : PolyI p (mulL p a b) := trim_poly (mulM_lo hp a 0 b _ fun c hc => by
  rw [List.eq_of_mem_replicate hc]
  exact ⟨Int.le_refl 0, hp⟩)
theorem row_step {p : Int} {k : Nat} {a : Int} {bs ns : List Int} {j : Nat} {b : Int} (h : bs[j]? = some b) : rowM p (k + j) a (bs.drop j) ns = rowM p (k + (j + 1)) a (bs.drop (j + 1)) (ns.set (k + j) ((ns.getD (k + j) 0 + a * b) % p)) := by
  obtain ⟨hl, he⟩ := List.getElem?_eq_some_iff.mp h
  rw [List.drop_eq_getElem_cons hl, he]
  rfl
theorem mul_step {p : Int} {as bs ns : List Int} {i : Nat} {a : Int} (h : as[i]? = some a) : mulM p i (as.drop i) bs ns = mulM p (i + 1) (as.drop (i + 1)) bs (rowM p i a bs ns) := by
  obtain ⟨hl, he⟩ := List.getElem?_eq_some_iff.mp h
  rw [List.drop_eq_getElem_cons hl, he]
  rfl
/-! ### sums as the laws take them -/
def plusS (p : Int) (f : Nat → Int) (cs : List Int) (m : Nat) : Nat → Int := fun k => if k < m then (f k + cs.getD k 0) % p else f k
theorem plusS_step (p : Int) (f : Nat → Int) (cs : List Int) (m n : Nat) : (mapR (plusS p f cs m) n).set m ((f m + cs.getD m 0) % p) = mapR (plusS p f cs (m + 1)) n := by
  rw [mapR_set]
  refine mapR_congr fun i _ => ?_
  unfold plusS
  by_cases z : i = m
  · rw [if_pos z, z, if_pos (by omega)]
  · rw [if_neg z]
    by_cases y : i < m
    · rw [if_pos y, if_pos (by omega)]
    · rw [if_neg y, if_neg (by omega)]
theorem getD_out {cs : List Int} {i : Nat} (h : cs.length ≤ i) : cs.getD i 0 = 0 := by
  rw [List.getD_eq_getElem?_getD, List.getElem?_eq_none h]
  rfl
theorem emod_add_l (a b p : Int) : (a % p + b) % p = (a + b) % p := by
  rw [Int.add_emod, Int.emod_emod_of_dvd _ (Int.dvd_refl p), ← Int.add_emod]
theorem plus_same {p : Int} {one other : List Int} {n : Nat} (hn : n = max one.length other.length) : mapR (plusS p (plusS p (fun _ => 0) one one.length) other other.length) n = addZ p one other n := by
  unfold addZ
  refine mapR_congr fun k hk => ?_
  unfold plusS
  by_cases z : k < other.length
  · rw [if_pos z]
    by_cases y : k < one.length
    · rw [if_pos y, Int.zero_add, emod_add_l]
    · rw [if_neg y, getD_out (cs := one) (by omega)]
  · rw [if_neg z, if_pos (by omega), Int.zero_add, getD_out (cs := other) (by omega), Int.add_zero]
theorem cutLast (cs : List Int) (k : Nat) (hk : 0 < k) : cutV (cs.map V.int) (some (-(k : Int))) none = (cs.drop (cs.length - k)).map V.int := by
  unfold cutV
  have e : HT.sIx (cs.map V.int).length 0 (some (-(k : Int))) = cs.length - k := by
    show (if -(k : Int) < 0 then (-(k : Int) + ((cs.map V.int).length : Int)).toNat else min (-(k : Int)).toNat (cs.map V.int).length) = cs.length - k
    rw [if_pos (by omega), List.length_map]
    omega
  rw [e, HT.sIx_none, List.take_of_length_le (by rw [List.length_drop]; exact Nat.le_refl _), List.map_drop]
theorem PolyI.drop {p : Int} {cs : List Int} (h : PolyI p cs) (k : Nat) : PolyI p (cs.drop k) := by
  refine ⟨fun c hc => h.lo c (List.mem_of_mem_drop hc), fun hn => ?_⟩
  rw [List.getLast_drop]
  exact h.la _
theorem lay_ints (cs : List Int) : (PyData.list (cs.map PyData.int)).canLay0 = true ∧ (PyData.list (cs.map PyData.int)).depth ≤ 1 := lay_list (k := 0) fun d hd => by
  obtain ⟨c, _, rfl⟩ := List.mem_map.mp hd
  exact ⟨rfl, Nat.le_refl 0⟩
theorem lay_two (one other : List Int) : (PyData.list [.list (one.map PyData.int), .list (other.map PyData.int)]).canLay0 = true ∧ (PyData.list [.list (one.map PyData.int), .list (other.map PyData.int)]).depth ≤ 2 := lay_list (k := 1) fun d hd => by
  simp only [List.mem_cons, List.not_mem_nil, or_false] at hd
  rcases hd with rfl | rfl
  · exact lay_ints one
  · exact lay_ints other
theorem lay_twoT (one other : List Int) : (PyData.tuple [.list (one.map PyData.int), .list (other.map PyData.int)]).canLay0 = true ∧ (PyData.tuple [.list (one.map PyData.int), .list (other.map PyData.int)]).depth ≤ 2 := lay_tup (k := 1) fun d hd => by
  simp only [List.mem_cons, List.not_mem_nil, or_false] at hd
  rcases hd with rfl | rfl
  · exact lay_ints one
  · exact lay_ints other
section
variable {X : Cx}
/-! ### dict(enumerate(xs)) -/
def enKF (k : Nat) (xs : List V) : List (Key × V) := (xs.zipIdx k).map fun p => ((Sum.inl (p.2 : Int) : Key), p.1)
def enVF (k : Nat) (us : List Value) : List (Key × Value) := (us.zipIdx k).map fun p => ((Sum.inl (p.2 : Int) : Key), p.1)
def tDEn (K : PySem.W.Frag) (ta : TA) : TE := fun σ H Q => ta σ H fun vs H1 => ∃ a xs, vs = [.ref a] ∧ SqL K H1 a xs ∧ ∀ p, H1 p = none → Q (.ref p) (upd H1 p (.dK (enKF 0 xs)))
theorem en_kv : ∀ (k : Nat) {xs : List V} {us : List Value}, Vals xs us → KV (enKF k xs) (enVF k us)
  | _, _, _, .nil => .nil
  | k, _, _, .cons r t => .cons ⟨rfl, r⟩ (en_kv (k + 1) t)
theorem en_ge : ∀ (us : List Value) (k : Nat) (x : Key), x ∈ (enVF k us).map (·.1) → ∃ i : Nat, k ≤ i ∧ x = Sum.inl (i : Int)
  | [], _, _, h => nomatch h
  | u :: us, k, x, h => by
    rcases List.mem_cons.mp h with e | e
    · exact ⟨k, Nat.le_refl _, e⟩
    · obtain ⟨i, h1, h2⟩ := en_ge us (k + 1) x e
      exact ⟨i, by omega, h2⟩
theorem en_nd : ∀ (us : List Value) (k : Nat), ((enVF k us).map (·.1)).Nodup
  | [], _ => .nil
  | u :: us, k => by
    refine List.nodup_cons.mpr ⟨fun h => ?_, en_nd us (k + 1)⟩
    obtain ⟨i, h1, h2⟩ := en_ge us (k + 1) _ h
    have h2 : (Sum.inl (k : Int) : Key) = Sum.inl (i : Int) := h2
    injection h2 with h2
    omega
theorem en_at (us : List Value) (i : Nat) {v : Value} (h : us[i]? = some v) : (enVF 0 us)[i]? = some (Sum.inl (i : Int), v) := by
  unfold enVF
  rw [List.getElem?_map, List.getElem?_zipIdx, h]
  simp
theorem en_len (us : List Value) : (enVF 0 us).length = us.length := by
  unfold enVF
  rw [List.length_map, List.length_zipIdx]
theorem enK_len (xs : List V) : (enKF 0 xs).length = xs.length := by
  unfold enKF
  rw [List.length_map, List.length_zipIdx]
theorem pe_dictEnum {e : Expr} {ta : TA} {p p2 pos pos2 : Pos} (hc : X.calm = true) (hg : Gl X "dict") (hm : X.mg "dict" = none) (hg2 : Gl X "enumerate") (hm2 : X.mg "enumerate" = none) (ha : PA X [e] ta)
    (hs : starEach [e] X.env = [(false, eval e X.env)] := by rfl)
    (he : starEach [.Call (.Name "enumerate" p2) [e] [] pos2] X.env = (false, eval (.Call (.Name "enumerate" p2) [e] [] pos2) X.env) :: starEach [] X.env := by rfl) :
    PE X (.Call (.Name "dict" p) [.Call (.Name "enumerate" p2) [e] [] pos2] [] pos) (tDEn X.K ta) := by
  refine ⟨fun pins s σ H Q I h => ?_⟩
  refine wpAny_Call_Name_kw (ld_blt I hg hm PyProof.Rows.boot_dict ?_)
  refine PyProof.Rows.callWith_type1 ?_ he rfl
  rw [he]
  refine Calls.spliced_cons ?_
  refine Call_ (ld_blt I hg2 hm2 boot_enumerate (PyProof.Rows.callWith_type1 (thn (ha.run pos2 pins s σ H _ I h) fun us s1 ⟨vs, H1, I1, r1, q1⟩ => ?_) hs rfl))
  obtain ⟨a, xs, ex, hq, q⟩ := q1
  subst ex
  cases r1 with
  | cons r rr =>
    cases rr
    cases r
    obtain ⟨its, rv, p', hz⟩ := I1.list hq
    have hal : a < s1.heap.objs.size := by
      obtain ⟨_, e1, _⟩ := p'.isList
      exact Heap.lt_size e1
    refine call_enumerate_list p'.isList fun h' hen hit hsz hk => ?_
    refine Calls.spliced_nil ?_
    have hil : h'.IsList a its.toArray := p'.isList.at fun o x => hk _ o x
    refine PySem.call_dict_pairs (knd := mixKind X.prog X.w) (kvs := enVF 0 its) (s := { s1 with heap := h' }) (PairArg.enumerate (s1.heap.objs.size + 1) s1.heap.objs.size a (Nat.succ_ne_self _) (Nat.ne_of_lt (Nat.lt_succ_of_lt hal)) (Nat.ne_of_lt hal) its.toArray) (I.ok.hd hc) ⟨⟨_, hen⟩, hit, hil⟩ ⟨by rw [en_len]; simp, fun i key v hR => ?_⟩ ?_ fun h2 tk hd2 hk2 => ?_
    · obtain ⟨⟨t, rfl⟩, hv⟩ := hR
      exact ⟨_, en_at _ i (by simpa using hv), by show Value.isInt (i : Int) (.int i t) = true; simp [Value.isInt]⟩
    · rw [List.size_toArray, ← rv.length]
      exact hz
    · rw [merged_nil_of_nodup _ (en_nd its 0)] at hd2
      have hb : s1.heap.objs.size ≤ h'.objs.size := by rw [hsz]; exact Nat.le_add_right _ _
      have hne : (h'.objs.size == sysModules) = false := beq_eq_false_iff_ne.mpr (Nat.ne_of_gt (Nat.lt_of_lt_of_le I1.big hb))
      have hkk : ∀ b u, s1.heap.get? b = some u → h2.get? b = some u := fun b u hbu => by
        have hlt := Heap.lt_size hbu
        refine hk2 b u (fun hm => ?_) (hk b u hbu)
        rcases List.mem_cons.mp hm with z | z
        · rw [z] at hlt
          exact absurd hlt (Nat.not_lt.mpr (Nat.le_succ _))
        · rw [List.mem_singleton.mp z] at hlt
          exact absurd hlt (Nat.lt_irrefl _)
      exact ⟨.ref h'.objs.size, upd H1 h'.objs.size (.dK (enKF 0 xs)), I1.laid (t' := tk) hkk hb (show ObjOk X.prog X.w _ _ _ (.dK (enKF 0 xs)) from ⟨by rw [enK_len]; exact hz, hne, enVF 0 its, en_kv 0 rv, hd2⟩), rfl, q _ (I1.hok.fresh hb)⟩
end
theorem go_asgS {te : TE} {tg : TG} {tz : TS} {D : Ends} {σ : L2.St} {H : Hp} (h : te σ H fun x H1 => tg x σ H1 fun σ2 H2 => tz D σ2 H2) : tSeq (tAsg te tg) tz D σ H := h
/-- [number * lead % p for number in ..] -/
theorem lc_scaled {K : PySem.W.Frag} {σ : L2.St} {H : Hp} {tl : TE} {j jl jp : Nat} {vs : List Nat} {xs : List Int} {iv p : Int} {Q : VK} (hw : ∀ x, wipe ((wipe σ vs).set j (some x)) vs = wipe σ vs) (h1 : ∀ x, ((wipe σ vs).set j (some x))[j]? = some (some x)) (h2 : ∀ x, ((wipe σ vs).set j (some x))[jl]? = some (some (.int iv))) (h3 : ∀ x, ((wipe σ vs).set j (some x))[jp]? = some (some (.int p)))
    (pp : 0 < p) (p1 : p ≤ 97) (i0 : 0 ≤ iv) (i1 : iv < p) (hx : ∀ x ∈ xs, 0 ≤ x ∧ x < p) (hl : xs.length ≤ 5000) (htl : ∀ R : VK, (∀ xa H1, LI H1 xa xs → Ex H H1 → R (.ref xa) H1) → tl σ H R)
    (q : ∀ D H1 H2, H1 D = none → Ex H H1 → Ex H1 H2 → LI H2 D (xs.map fun c => c * iv % p) → Q (.ref D) H2) :
    tLc (iList K tl) (gName j) tYes (tOp (rI (fun _ j => 0 < j) fun i j => .int (i % j)) (tOp (rI CMulW fun i j => .int (i * j)) (tVar j) (tVar jl)) (tVar jp)) vs σ H Q := by
  refine htl _ fun xa H1 ha e1 => ?_
  refine ⟨xa, rfl, ⟨_, ha.sq⟩, fun D hD => lc_list (xs := xs.map V.int) (fun i H2 => LI H2 D ((xs.take i).map fun c => c * iv % p) ∧ Ex H1 H2) ⟨upd_same, Ex.new hD⟩ (fun i H2 _ hP => (ha.up hP.2).sq) (fun i v H2 hi hP => ?_) (fun H2 hP => ?_)⟩
  · obtain ⟨hL, e2⟩ := hP
    obtain ⟨c, hci, rfl⟩ := int_get hi
    obtain ⟨c0, c1⟩ := hx c (List.mem_of_getElem? hci)
    have hl3 : (((xs.take i).map fun c => c * iv % p).map V.int).length ≤ 5000 := by
      rw [List.length_map, List.length_map, List.length_take]
      omega
    refine ⟨hw _, .int c, h1 _, .int iv, h2 _, _, _, rfl, rfl, wide_mul (a := 20) (b := 20) (by omega) (by omega) (by decide) (by decide) (by decide), .int p, h3 _, _, _, rfl, rfl, pp, _, hL, sz_lt (by omega), ?_, Ex.mut e2 hD⟩
    unfold LI
    rw [upd_same, take_snoc hci, List.map_append, List.map_append]
    rfl
  · obtain ⟨hL, e2⟩ := hP
    rw [List.length_map, List.take_length] at hL
    exact q D H1 H2 hD e1 e2 hL
/-! ### a deck as the one address of a store -/
def DDB (H : Hp) (da : Addr) (S : List Addr) : Prop := S = [da] ∧ DeckB H da
theorem DDB.all {H : Hp} {da : Addr} {S : List Addr} (h : DDB H da S) : ∀ s ∈ S, IsL H s := fun s hs => by
  rw [h.1] at hs
  rw [List.mem_singleton.mp hs]
  exact h.2.isL
theorem DDB.ne {H : Hp} {da p : Addr} {S : List Addr} (h : DDB H da S) (hp : H p = none) : p ∉ S := fun z => by
  rw [h.1] at z
  exact h.2.ne hp (List.mem_singleton.mp z)
theorem DDB.up {H H1 : Hp} {da : Addr} {S : List Addr} (h : DDB H da S) (e : Ex H H1) : DDB H1 da S := ⟨h.1, h.2.up e⟩
theorem exS_ofB {H H1 : Hp} {da : Addr} (e : ExB da H H1) : ExS [da] H H1 := fun b o z => by
  by_cases y : b ∈ [da]
  · cases (if_pos y).symm.trans z
  · exact (if_neg y).trans (e b o (fun w => y (List.mem_singleton.mpr w)) ((if_neg y).symm.trans z))
theorem exB_ofS {H H1 : Hp} {da : Addr} (e : ExS [da] H H1) : ExB da H H1 := fun b o n z => e.at z fun y => n (List.mem_singleton.mp y)
/-! ### what may be shown, dicts too -/
structure ShB (k n : Nat) (d : PyData) : Prop where
  sh : d.showable = true
  tx : txtOk d
  dp : d.depth ≤ k
  wd : wdt d ≤ n
structure ShAB (k n : Nat) (ds : List PyData) : Prop where
  sh : PyData.showableAll ds = true
  tx : txtOks ds
  dp : PyData.depthAll ds ≤ k
  wd : wdts ds ≤ n * ds.length
theorem ShB.shows {k n : Nat} {d : PyData} (h : ShB k n d) (hk : k ≤ 60) (hn : n ≤ 100000) : ShowsB d := ⟨h.sh, Nat.le_trans h.dp hk, sz_of (Nat.le_trans (Nat.le_trans (shown_le d h.sh h.tx) h.wd) hn)⟩
theorem shab {k n : Nat} : ∀ {ds : List PyData}, (∀ d ∈ ds, ShB k n d) → ShAB k (n + 2) ds
  | [], _ => ⟨rfl, trivial, Nat.zero_le _, Nat.zero_le _⟩
  | d :: ds, h => by
    have h1 := h d List.mem_cons_self
    have h2 := shab fun x hx => h x (List.mem_cons_of_mem _ hx)
    refine ⟨?_, ⟨h1.tx, h2.tx⟩, ?_, ?_⟩
    · show (d.showable && PyData.showableAll ds) = true
      rw [h1.sh, h2.sh]
      rfl
    · show max d.depth (PyData.depthAll ds) ≤ k
      have := h1.dp
      have := h2.dp
      omega
    · show wdt d + 2 + wdts ds ≤ (n + 2) * (ds.length + 1)
      rw [Nat.mul_succ]
      have := h1.wd
      have := h2.wd
      omega
theorem shb_lst {k n m : Nat} {ds : List PyData} (h : ∀ d ∈ ds, ShB k n d) (hm : 2 + (n + 2) * ds.length ≤ m) : ShB (k + 1) m (.list ds) := by
  have a := shab h
  exact ⟨a.sh, a.tx, Nat.succ_le_succ a.dp, Nat.le_trans (Nat.add_le_add_left a.wd 2) hm⟩
theorem shb_tup {k n m : Nat} {ds : List PyData} (h : ∀ d ∈ ds, ShB k n d) (hm : 3 + (n + 2) * ds.length ≤ m) : ShB (k + 1) m (.tuple ds) := by
  have a := shab h
  exact ⟨a.sh, a.tx, Nat.succ_le_succ a.dp, Nat.le_trans (Nat.add_le_add_left a.wd 3) hm⟩
theorem ShB.mono {k k2 n m : Nat} {d : PyData} (h : ShB k n d) (hk : k ≤ k2) (hn : n ≤ m) : ShB k2 m d := ⟨h.sh, h.tx, Nat.le_trans h.dp hk, Nat.le_trans h.wd hn⟩
theorem shb_of {k n : Nat} {d : PyData} (h : Sh k n d) : ShB k n d := ⟨h.sh, h.tx, h.dp, h.wd⟩
theorem shb_ints {cs : List Int} {p : Int} (h : ∀ c ∈ cs, 0 ≤ c ∧ c < p) (hp : p ≤ 1000) : ∀ d ∈ cs.map PyData.int, ShB 0 1921 d := fun d hd => by
  obtain ⟨c, hc, rfl⟩ := List.mem_map.mp hd
  obtain ⟨h1, h2⟩ := h c hc
  exact shb_of (sh_int (log_of (k := 20) (Nat.lt_of_lt_of_le (show c.natAbs < 1000 by omega) (by decide)) (by decide) (by decide)))
/-! ### new things, in a heap without the deck -/
section
variable {K : PySem.W.Frag} {σ : L2.St} {W0 : Hp} {a : Addr} {i : Nat} {cs c : List Int} {tlo thi : TO} {lo hi : Option Int} {k : Int}
def Pt (t : TO) (σ : L2.St) (lo : Option Int) : Prop := ∀ (H : Hp) (Q : Option Int → Hp → Prop), Q lo H → t σ H Q
theorem pt_no : Pt tNoPart σ none := fun H Q q => q
theorem pt_vr (h : σ[i]? = some (some (.int k))) : Pt (tPart (tVar i)) σ (some k) := fun H Q q => ⟨.int k, h, k, rfl, q⟩
theorem pt_add (h : σ[i]? = some (some (.int k))) : Pt (tPart (tOp (rI0 fun i j => V.int (i + j)) (tVar i) (tC (.int 1)))) σ (some (k + 1)) := fun H Q q => ⟨.int k, h, k, 1, rfl, rfl, k + 1, rfl, q⟩
theorem pt_neg : Pt (tPart (tUn (rU fun i => V.int (-i)) (tC (.int 1)))) σ (some (-1)) := fun H Q q => ⟨1, rfl, -1, rfl, q⟩
theorem ef_sl (h : σ[i]? = some (some (.ref a))) (ha : W0 a = some (.lst (cs.map V.int))) (h1 : Pt tlo σ lo) (h2 : Pt thi σ hi) (hc : cutV (cs.map V.int) lo hi = c.map V.int) : EvF (L2.tSl (rSlL K) (tVar i) tlo thi) σ W0 (.list (c.map PyData.int)) := fun W H1 e0 e1 Q q =>
  ⟨.ref a, h, h1 _ _ (h2 _ _ ⟨a, _, rfl, sq_of ((e0.trans e1) _ _ ha), fun p hp => by
    rw [hc]
    exact q _ _ _ (Grow.new (o := .lst (c.map V.int)) e1 hp) (.lst upd_same (DtAll.ints c))⟩)⟩
theorem ef_rv (h : σ[i]? = some (some (.ref a))) (ha : W0 a = some (.lst (cs.map V.int))) : EvF (tRevL K (tVar i)) σ W0 (.list (cs.reverse.map PyData.int)) := fun W H1 e0 e1 Q q =>
  ⟨.ref a, h, a, _, rfl, sq_of ((e0.trans e1) _ _ ha), fun p hp => by
    rw [← List.map_reverse]
    exact q _ _ _ (Grow.new (o := .lst (cs.reverse.map V.int)) e1 hp) (.lst upd_same (DtAll.ints _))⟩
theorem ef_to (h : σ[i]? = some (some (.ref a))) (ha : W0 a = some (.lst (cs.map V.int))) : EvF (tCB (fun xs H Q => ∃ p ys, xs = [V.ref p] ∧ ((SqL K H p ys ∧ ∀ l, H l = none → Q (.ref l) (upd H l (.tup ys))) ∨ (SqT K H p ys ∧ Q (.ref p) H))) (tCons (tVar i) tNil)) σ W0 (.tuple (cs.map PyData.int)) := fun W H1 e0 e1 Q q =>
  ⟨.ref a, h, a, _, rfl, .inl ⟨sq_of ((e0.trans e1) _ _ ha), fun p hp => q _ _ _ (Grow.new (o := .tup (cs.map V.int)) e1 hp) (.tup upd_same (DtAll.ints _))⟩⟩
def nsF (k : Nat) (cs : List Int) : List (Int × Option Int) := (cs.zipIdx k).map fun p => ((p.2 : Int), some p.1)
theorem ns_en : ∀ (cs : List Int) (k : Nat), enKF k (cs.map V.int) = (nsF k cs).map fun p => ((Sum.inl p.1 : Key), oV p.2)
  | [], _ => rfl
  | c :: cs, k => congrArg (((Sum.inl (k : Int) : Key), V.int c) :: ·) (ns_en cs (k + 1))
theorem ef_de (h : σ[i]? = some (some (.ref a))) (ha : W0 a = some (.lst (cs.map V.int))) : EvF (tDEn K (tCons (tVar i) tNil)) σ W0 (.dict ((nsF 0 cs).map fun p => (PyData.int p.1, oD p.2))) := fun W H1 e0 e1 Q q =>
  ⟨.ref a, h, a, _, rfl, sq_of ((e0.trans e1) _ _ ha), fun p hp => by
    rw [ns_en]
    exact q _ _ _ (Grow.new (o := .dK ((nsF 0 cs).map fun p => ((Sum.inl p.1 : Key), oV p.2))) e1 hp) (.dic upd_same)⟩
end
theorem shb_ns {p : Int} (hp : p ≤ 1000) : ∀ (cs : List Int) (k : Nat), (∀ c ∈ cs, 0 ≤ c ∧ c < p) → k + cs.length ≤ 1000 → ShB 1 (2 + 3846 * cs.length) (.dict ((nsF k cs).map fun p => (PyData.int p.1, oD p.2)))
  | [], _, _, _ => ⟨rfl, trivial, Nat.le_refl _, Nat.le_refl _⟩
  | c :: cs, k, h, hk => by
    have h2 := shb_ns hp cs (k + 1) (fun x hx => h x (List.mem_cons_of_mem _ hx)) (by rw [List.length_cons] at hk; omega)
    obtain ⟨c0, c1⟩ := h c List.mem_cons_self
    rw [List.length_cons] at hk
    have s1 : (PyData.int (k : Int)).showable = true := showI (log_of (k := 20) (Nat.lt_of_lt_of_le (show ((k : Int)).natAbs < 1001 by omega) (by decide)) (by decide) (by decide))
    have s2 : (PyData.int c).showable = true := showI (log_of (k := 20) (Nat.lt_of_lt_of_le (show c.natAbs < 1001 by omega) (by decide)) (by decide) (by decide))
    refine ⟨?_, ⟨trivial, trivial, h2.tx⟩, ?_, ?_⟩
    · show ((PyData.int (k : Int)).showable && (PyData.int c).showable && PyData.showableKv ((nsF (k + 1) cs).map fun p => (PyData.int p.1, oD p.2))) = true
      rw [s1, s2]
      exact h2.sh
    · have := h2.dp
      show PyData.depthKv ((PyData.int (k : Int), PyData.int c) :: ((nsF (k + 1) cs).map fun p => (PyData.int p.1, oD p.2))) + 1 ≤ 1
      have : PyData.depthKv ((nsF (k + 1) cs).map fun p => (PyData.int p.1, oD p.2)) + 1 ≤ 1 := h2.dp
      show max (max 0 0) (PyData.depthKv ((nsF (k + 1) cs).map fun p => (PyData.int p.1, oD p.2))) + 1 ≤ 1
      omega
    · have : 2 + wdtk ((nsF (k + 1) cs).map fun p => (PyData.int p.1, oD p.2)) ≤ 2 + 3846 * cs.length := h2.wd
      show 2 + (1921 + 1921 + 4 + wdtk ((nsF (k + 1) cs).map fun p => (PyData.int p.1, oD p.2))) ≤ 2 + 3846 * (cs.length + 1)
      omega
theorem rep_z : ∀ n : Nat, (List.replicate n [V.int 0]).flatten = (List.replicate n (0 : Int)).map V.int
  | 0 => rfl
  | n + 1 => by
    rw [List.replicate_succ, List.flatten_cons, rep_z n]
    rfl
def LenP (d : PyData) : Prop := ∀ ds, d = .list ds → ds.length ≤ 5000
def GoodP (d : PyData) : Prop := ShB 3 60000 d ∧ LenP d
theorem good_lst {ds : List PyData} (h : ∀ d ∈ ds, ShB 1 1927 d) (hl : ds.length ≤ 30) : GoodP (.list ds) := ⟨(shb_lst h (m := 60000) (by have : 1929 * ds.length ≤ 1929 * 30 := Nat.mul_le_mul_left _ hl; omega)).mono (by decide) (Nat.le_refl _), fun es e => by
  injection e with e
  rw [← e]
  omega⟩
theorem good_one {d : PyData} {k n : Nat} (h : ShB k n d) (hk : k ≤ 3) (hn : n ≤ 60000) (nl : ∀ ds, d ≠ .list ds) : GoodP d := ⟨h.mono hk hn, fun ds e => absurd e (nl ds)⟩
theorem at_nn (xs : List V) {j : Int} (h0 : 0 ≤ j) (h1 : j < xs.length) : atI xs j = xs[j.toNat]? := by
  unfold atI ixN
  rw [if_pos h0, if_pos h1]
  rfl
theorem s_forD {K : PySem.W.Frag} {tr : TA} {ds : List PyData} {j : Nat} {tu : TS} {D : Ends} {σ : L2.St} {H : Hp} (h : EvDA tr σ H ds) (hl : ds.length ≤ 100000) (Pv : Nat → L2.St → Hp → Prop) (h0 : ∀ H1, Ex H H1 → Pv 0 σ H1)
    (hs : ∀ i x d σ' H', ds[i]? = some d → Dt H' x d → Pv i σ' H' → tu { D with nx := fun σ3 H3 => Pv (i + 1) σ3 H3 ∧ Ex H' H3, ct := fun σ3 H3 => Pv (i + 1) σ3 H3 ∧ Ex H' H3, bk := D.nx } (σ'.set j (some x)) H')
    (hd : ∀ σ' H', Pv ds.length σ' H' → D.nx σ' H') : tFor (iList K (tLst tr)) (gName j) tu D σ H := q_forD (tz := tNext) h hl Pv h0 hs hd
theorem rep_len (n : Nat) (cs : List Int) : (List.replicate n cs).flatten.length = n * cs.length := by
  rw [List.length_flatten, List.map_replicate, List.sum_replicate_nat]
theorem rep_mapV (n : Nat) (cs : List Int) : (List.replicate n (cs.map V.int)).flatten = ((List.replicate n cs).flatten).map V.int := by
  rw [List.map_flatten, List.map_replicate]
theorem shows_ints {cs : List Int} {p : Int} (h : ∀ c ∈ cs, 0 ≤ c ∧ c < p) (hp : p ≤ 1000) (hl : cs.length ≤ 52) : ShowsB (.list (cs.map PyData.int)) := (shb_lst (shb_ints h hp) (m := 100000) (by rw [List.length_map]; omega)).shows (by decide) (Nat.le_refl _)
/-! ### what a deck gives, in a heap without the deck -/
def EvP (da : Addr) (S : List Addr) (te : TE) (σ : L2.St) (W0 : Hp) (G : PyData → Prop) : Prop := ∀ W H1, Ex W0 W → Ex W H1 → (∀ s ∈ S, W s = none) → DDB H1 da S → ∀ Q : VK, (∀ v d W2 H2, Ex W W2 → Ex W2 H2 → (∀ s ∈ S, W2 s = none) → DDB H2 da S → ExS S H1 H2 → Dt W2 v d → G d → Q v H2) → te σ H1 Q
def EvPA (da : Addr) (S : List Addr) (ta : TA) (σ : L2.St) (W0 : Hp) (G : List PyData → Prop) : Prop := ∀ W H1, Ex W0 W → Ex W H1 → (∀ s ∈ S, W s = none) → DDB H1 da S → ∀ Q : List V → Hp → Prop, (∀ vs ds W2 H2, Ex W W2 → Ex W2 H2 → (∀ s ∈ S, W2 s = none) → DDB H2 da S → ExS S H1 H2 → DtAll W2 vs ds → G ds → Q vs H2) → ta σ H1 Q
theorem DDB.some {H : Hp} {da : Addr} {S : List Addr} (h : DDB H da S) : ∀ s ∈ S, H s ≠ none := fun s hs z => by
  obtain ⟨xs, hxs⟩ := h.all s hs
  rw [hxs] at z
  cases z
section
variable {K : PySem.W.Frag} {σ : L2.St} {W0 : Hp} {da : Addr} {S : List Addr} {te : TE} {ta : TA} {d : PyData} {G G2 : PyData → Prop} {GS GS2 : List PyData → Prop}
theorem evp_of (h : EvF te σ W0 d) (g : G d) : EvP da S te σ W0 G := fun W H1 e0 e1 n hD Q q => h W H1 e0 e1 Q fun v W2 H2 gr hv => q v d W2 H2 gr.w gr.h (fun s hs => gr.n s (hD.some s hs) (n s hs)) (hD.up gr.hh) (ExS.of gr.hh) hv g
theorem evp_mono (h : EvP da S te σ W0 G) (m : ∀ d, G d → G2 d) : EvP da S te σ W0 G2 := fun W H1 e0 e1 n hD Q q => h W H1 e0 e1 n hD Q fun v d W2 H2 a b c x y z g => q v d W2 H2 a b c x y z (m d g)
theorem evpa_nil : EvPA da S tNil σ W0 (· = []) := fun W H1 _ e1 n hD Q q => q [] [] W H1 (Ex.refl W) e1 n hD (ExS.refl S H1) .nil rfl
theorem evpa_cons (h : EvP da S te σ W0 G) (hr : EvPA da S ta σ W0 GS) : EvPA da S (tCons te ta) σ W0 (fun ds => ∃ d r, ds = d :: r ∧ G d ∧ GS r) := fun W H1 e0 e1 n hD Q q =>
  h W H1 e0 e1 n hD _ fun v d W2 H2 a2 b2 n2 hD2 x2 hv g => hr W2 H2 (e0.trans a2) b2 n2 hD2 _ fun vs ds W3 H3 a3 b3 n3 hD3 x3 hvs gs => q (v :: vs) (d :: ds) W3 H3 (a2.trans a3) b3 n3 hD3 (x2.trans x3) (.cons (hv.up a3) hvs) ⟨d, ds, rfl, g, gs⟩
theorem evp_new {W H : Hp} {l : Addr} {o : HO} (e : Ex W H) (n : ∀ s ∈ S, W s = none) (hD : DDB H da S) (hl : H l = none) : Ex W (upd W l o) ∧ Ex (upd W l o) (upd H l o) ∧ (∀ s ∈ S, (upd W l o) s = none) ∧ DDB (upd H l o) da S ∧ ExS S H (upd H l o) := by
  have g := Grow.new (o := o) e hl
  exact ⟨g.w, g.h, fun s hs => g.n s (hD.some s hs) (n s hs), hD.up g.hh, ExS.of g.hh⟩
theorem evp_tup (h : EvPA da S ta σ W0 GS) (hl : ∀ ds, GS ds → ds.length ≤ 100000) : EvP da S (tTup ta) σ W0 (fun d => ∃ ds, d = .tuple ds ∧ GS ds) := fun W H1 e0 e1 n hD Q q =>
  h W H1 e0 e1 n hD _ fun vs ds W2 H2 a2 b2 n2 hD2 x2 hvs gs => ⟨sz_of (by rw [hvs.len]; exact hl ds gs), fun l hl => by
    obtain ⟨r1, r2, r3, r4, r5⟩ := evp_new (o := .tup vs) b2 n2 hD2 hl
    exact q _ _ _ _ (a2.trans r1) r2 r3 r4 (x2.trans r5) (.tup upd_same (hvs.up r1)) ⟨ds, rfl, gs⟩⟩
theorem evp_lst (h : EvPA da S ta σ W0 GS) (hl : ∀ ds, GS ds → ds.length ≤ 100000) : EvP da S (tLst ta) σ W0 (fun d => ∃ ds, d = .list ds ∧ GS ds) := fun W H1 e0 e1 n hD Q q =>
  h W H1 e0 e1 n hD _ fun vs ds W2 H2 a2 b2 n2 hD2 x2 hvs gs => ⟨sz_of (by rw [hvs.len]; exact hl ds gs), fun l hl => by
    obtain ⟨r1, r2, r3, r4, r5⟩ := evp_new (o := .lst vs) b2 n2 hD2 hl
    exact q _ _ _ _ (a2.trans r1) r2 r3 r4 (x2.trans r5) (.lst upd_same (hvs.up r1)) ⟨ds, rfl, gs⟩⟩
/-- how many, and each of them so -/
def Ev_ (n : Nat) (G : PyData → Prop) (ds : List PyData) : Prop := ds.length = n ∧ ∀ d ∈ ds, G d
theorem evpl_nil : EvPA da S tNil σ W0 (Ev_ 0 G) := fun W H1 _ e1 n hD Q q => q [] [] W H1 (Ex.refl W) e1 n hD (ExS.refl S H1) .nil ⟨rfl, fun d h => nomatch h⟩
theorem evpl_cons {m : Nat} (h : EvP da S te σ W0 G) (hr : EvPA da S ta σ W0 (Ev_ m G)) : EvPA da S (tCons te ta) σ W0 (Ev_ (m + 1) G) := fun W H1 e0 e1 n hD Q q =>
  evpa_cons h hr W H1 e0 e1 n hD Q fun vs ds W2 H2 a b c x y z ⟨d, r, e, g, gl, gr⟩ => q vs ds W2 H2 a b c x y z ⟨by rw [e, List.length_cons, gl], fun y hy => by
    rw [e] at hy
    rcases List.mem_cons.mp hy with rfl | hy
    · exact g
    · exact gr y hy⟩
theorem evp_lstn {m : Nat} (h : EvPA da S ta σ W0 (Ev_ m G)) (hm : m ≤ 100000) : EvP da S (tLst ta) σ W0 (fun d => ∃ ds, d = .list ds ∧ Ev_ m G ds) := evp_lst h fun ds g => by
  rw [g.1]
  exact hm
theorem evp_catn {a b : Nat} {t1 t2 : TE} (h1 : EvP da S t1 σ W0 (fun d => ∃ ds, d = .list ds ∧ Ev_ a G ds)) (h2 : EvP da S t2 σ W0 (fun d => ∃ ds, d = .list ds ∧ Ev_ b G ds)) (hl : a + b ≤ 100000) : EvP da S (tOp rCat t1 t2) σ W0 (fun d => ∃ ds, d = .list ds ∧ Ev_ (a + b) G ds) := fun W H1 e0 e1 n hD Q q =>
  h1 W H1 e0 e1 n hD _ fun v d W2 H2 a2 b2 n2 hD2 x2 hv ⟨ds, ed, l1, g1⟩ => h2 W2 H2 (e0.trans a2) b2 n2 hD2 _ fun u e W3 H3 a3 b3 n3 hD3 x3 hu ⟨es, ee, l2, g2⟩ => by
    subst ed ee
    obtain ⟨p, xs, rfl, hp, hx⟩ := (hv.up a3).lst_get
    obtain ⟨r, ys, rfl, hr, hy⟩ := hu.lst_get
    refine ⟨p, r, xs, ys, rfl, rfl, b3 _ _ hp, b3 _ _ hr, sz_of (by rw [hx.len, hy.len, l1, l2]; exact hl), fun l hl => ?_⟩
    obtain ⟨r1, r2, r3, r4, r5⟩ := evp_new (o := .lst (xs ++ ys)) b3 n3 hD3 hl
    exact q _ _ _ _ ((a2.trans a3).trans r1) r2 r3 r4 ((x2.trans x3).trans r5) (.lst upd_same ((hx.up r1).app (hy.up r1))) ⟨ds ++ es, rfl, by rw [List.length_append, l1, l2], fun y hy => by
      rcases List.mem_append.mp hy with z | z
      · exact g1 y z
      · exact g2 y z⟩
theorem evp_var {v : V} {i : Nat} (h : σ[i]? = some (some v)) (hd : Dt W0 v d) (g : G d) : EvP da S (tVar i) σ W0 G := evp_of (ef_var h hd) g
end
/-- something of no list of its own, told of a heap: a call that makes one new list of numbers -/
theorem ef_li {σ : L2.St} {W0 : Hp} {te : TE} {cs : List Int} (h : ∀ H1, Ex W0 H1 → ∀ Q : VK, (∀ fo H2, H1 fo = none → LI H2 fo cs → Ex H1 H2 → Q (.ref fo) H2) → te σ H1 Q) : EvF te σ W0 (.list (cs.map PyData.int)) := fun W H1 e0 e1 Q q =>
  h H1 (e0.trans e1) Q fun fo H2 hfo hL e2 => by
    have hw : W fo = none := fresh_back e1 hfo
    refine q (.ref fo) (upd W fo (.lst (cs.map V.int))) H2 ⟨Ex.new hw, fun b o z => ?_, e2, fun x hx z => ?_⟩ (.lst upd_same (DtAll.ints cs))
    · by_cases y : b = fo
      · rw [y] at z ⊢
        cases upd_same.symm.trans z
        exact hL
      · exact e2 _ _ (e1 _ _ ((upd_ne y).symm.trans z))
    · exact (upd_ne fun (y : x = fo) => hx (y ▸ hfo)).trans z
/-- a heap of some of what stands -/
theorem only_heap {H : Hp} (L : List Addr) {S : List Addr} (h : ∀ a ∈ L, a ∉ S) : ∃ W0 : Hp, (∀ a ∈ L, W0 a = H a) ∧ Ex W0 H ∧ ∀ s ∈ S, W0 s = none := ⟨fun b => if b ∈ L then H b else none, fun a ha => if_pos ha, (fun b o z => by
  by_cases y : b ∈ L
  · exact (if_pos y).symm.trans z
  · cases (if_neg y).symm.trans z), fun s hs => if_neg fun (y : s ∈ L) => h s y hs⟩
/-- of two heaps within a third -/
theorem heap_join {W V H : Hp} (a : Ex W H) (b : Ex V H) : ∃ U : Hp, Ex W U ∧ Ex V U ∧ Ex U H ∧ ∀ s, W s = none → V s = none → U s = none := by
  refine ⟨fun s => match W s with | some o => some o | none => V s, fun s o h => ?_, fun s o h => ?_, fun s o h => ?_, fun s h1 h2 => ?_⟩
  · show (match W s with | some o => some o | none => V s) = some o
    rw [h]
  · show (match W s with | some o => some o | none => V s) = some o
    cases e : W s with
    | none => exact h
    | some u => exact ((a _ _ e).symm.trans (b _ _ h))
  · have h : (match W s with | some o => some o | none => V s) = some o := h
    cases e : W s with
    | none =>
      rw [e] at h
      exact b _ _ h
    | some u =>
      rw [e] at h
      cases h
      exact a _ _ e
  · show (match W s with | some o => some o | none => V s) = none
    rw [h1]
    exact h2
section
variable {K : PySem.W.Frag} {σ : L2.St} {W0 : Hp} {da : Addr} {S : List Addr} {te t1 t2 : TE} {ta : TA} {d : PyData} {G G2 : PyData → Prop}
/-- a call that draws -/
theorem evp_call (h : ∀ H1, Ex W0 H1 → DDB H1 da S → ∀ Q : VK, (∀ v d W2 H2, Dt W2 v d → Ex W2 H2 → (∀ s ∈ S, W2 s = none) → G d → DDB H2 da S → ExS S H1 H2 → Q v H2) → te σ H1 Q) : EvP da S te σ W0 G := fun W H1 e0 e1 n hD Q q =>
  h H1 (e0.trans e1) hD Q fun v d W2 H2 hv x2 n2 g hD2 e2 => by
    obtain ⟨U, a, b, c, m⟩ := heap_join (ExS.keep e1 n e2) x2
    exact q v d U H2 a c (fun s hs => m s (n s hs) (n2 s hs)) hD2 e2 (hv.up b) g
theorem evp_pair (h1 : EvP da S t1 σ W0 G) (h2 : EvP da S t2 σ W0 G2) : EvP da S (tTup (tCons t1 (tCons t2 tNil))) σ W0 (fun d => ∃ a b, d = .tuple [a, b] ∧ G a ∧ G2 b) :=
  evp_mono (evp_tup (evpa_cons h1 (evpa_cons h2 evpa_nil)) fun ds ⟨a, r, e, _, b, r2, e2, _, e3⟩ => by
    rw [e, e2, e3]
    exact Nat.le_of_ble_eq_true rfl) fun d ⟨ds, ed, a, r, e, ga, b, r2, e2, gb, e3⟩ => ⟨a, b, by rw [ed, e, e2, e3], ga, gb⟩
/-- the new list itself is left out of the heap that is told -/
theorem evp_catX {a b : Nat} (h1 : EvP da S t1 σ W0 (fun d => ∃ ds, d = .list ds ∧ Ev_ a G ds)) (h2 : EvP da S t2 σ W0 (fun d => ∃ ds, d = .list ds ∧ Ev_ b G ds)) (hl : a + b ≤ 100000) {W H1 : Hp} (e0 : Ex W0 W) (e1 : Ex W H1) (n : ∀ s ∈ S, W s = none) (hD : DDB H1 da S) {Q : VK}
    (q : ∀ l xs ds W2 H2, H1 l = none → W2 l = none → l ∉ S → H2 l = some (.lst xs) → Ex W W2 → Ex W2 H2 → (∀ s ∈ S, W2 s = none) → DDB H2 da S → ExS S H1 H2 → DtAll W2 xs ds → Ev_ (a + b) G ds → Q (.ref l) H2) : tOp rCat t1 t2 σ H1 Q :=
  h1 W H1 e0 e1 n hD _ fun v d W2 H2 a2 b2 n2 hD2 x2 hv ⟨ds, ed, l1, g1⟩ => h2 W2 H2 (e0.trans a2) b2 n2 hD2 _ fun u e W3 H3 a3 b3 n3 hD3 x3 hu ⟨es, ee, l2, g2⟩ => by
    subst ed ee
    obtain ⟨p, xs, rfl, hp, hx⟩ := (hv.up a3).lst_get
    obtain ⟨r, ys, rfl, hr, hy⟩ := hu.lst_get
    refine ⟨p, r, xs, ys, rfl, rfl, b3 _ _ hp, b3 _ _ hr, sz_of (by rw [hx.len, hy.len, l1, l2]; exact hl), fun l hl => ?_⟩
    have hS : l ∉ S := hD3.ne hl
    have x4 := Ex.new (o := .lst (xs ++ ys)) hl
    exact q l (xs ++ ys) (ds ++ es) W3 _ (ExS.back (x2.trans x3) hl hS) (fresh_back b3 hl) hS upd_same (a2.trans a3) (b3.trans x4) n3 (hD3.up x4) ((x2.trans x3).trans (ExS.of x4)) (hx.app hy) ⟨by rw [List.length_append, l1, l2], fun y hy => by
      rcases List.mem_append.mp hy with z | z
      · exact g1 y z
      · exact g2 y z⟩
end
section
variable {K : PySem.W.Frag} {σ : L2.St} {W0 : Hp} {da : Addr} {S : List Addr} {te t1 t2 : TE} {d : PyData} {G : PyData → Prop}
/-- one of a list, at a drawn place -/
theorem evp_pick {n : Nat} (h1 : EvP da S t1 σ W0 (fun d => ∃ ds, d = .list ds ∧ Ev_ n G ds)) (h2 : ∀ H1, DDB H1 da S → ∀ Q : VK, (∀ (x : Int) H2, 0 ≤ x → x < (n : Int) → DDB H2 da S → ExS S H1 H2 → Q (.int x) H2) → t2 σ H1 Q) : EvP da S (tOp (rIxL K) t1 t2) σ W0 G := fun W H1 e0 e1 hn hD Q q =>
  h1 W H1 e0 e1 hn hD _ fun v d W2 H2 a2 b2 n2 hD2 x2 hv ⟨ds, ed, l1, g1⟩ => h2 H2 hD2 _ fun x H3 x0 x1 hD3 e3 => by
    subst ed
    obtain ⟨p, xs, rfl, hp, hx⟩ := hv.lst_get
    have pS : p ∉ S := fun z => by
      have y := n2 p z
      rw [hp] at y
      cases y
    have lx : xs.length = n := by rw [hx.len, l1]
    obtain ⟨vj, hvj⟩ : ∃ vj, xs[x.toNat]? = some vj := ⟨_, List.getElem?_eq_getElem (by rw [lx]; omega)⟩
    obtain ⟨dj, hdj, hvd⟩ := hx.get _ hvj
    exact ⟨p, xs, x, vj, rfl, rfl, sq_of (e3.at (b2 _ _ hp) pS), (at_nn _ x0 (by rw [lx]; omega)).trans hvj, q vj dj W2 H3 a2 (ExS.keep b2 n2 e3) n2 hD3 (x2.trans e3) hvd (g1 dj (List.mem_of_getElem? hdj))⟩
theorem ef_neg {i : Int} : EvF (tUn (rU fun i => V.int (-i)) (tC (.int i))) σ W0 (.int (-i)) := ef_int fun H Q q => ⟨i, rfl, q⟩
theorem evpl_one {m : Nat} {tr : TA} (h : EvF te σ W0 d) (g : G d) (hr : EvPA da S tr σ W0 (Ev_ m G)) : EvPA da S (tCons te tr) σ W0 (Ev_ (m + 1) G) := evpl_cons (evp_of h g) hr
end
theorem ex_none (H : Hp) : Ex (fun _ => none) H := fun _ _ h => nomatch h
/-- no prime from 3 to 97 -/
structure NoP (d : PyData) : Prop where
  sh : ShB 1 1927 d
  no : dField d = false
  ln : LenP d
theorem np_int {n : Int} (h : n.natAbs < 2 ^ 100) (e : dField (.int n) = false) : NoP (.int n) := ⟨(shb_of (sh_int (log_of h (by decide) (by decide)))).mono (by decide) (by decide), e, fun _ e => nomatch e⟩
theorem np_big {n : Int} (h : n.natAbs < 2 ^ 100) (e : 97 < n) : NoP (.int n) := np_int h (by
  show (primeB n && decide (3 ≤ n) && decide (n ≤ 97)) = false
  rw [decide_eq_false (show ¬ n ≤ 97 by omega), Bool.and_false])
/-- either it tells something, or it raises -/
def OutX (o : Option Addr) (H : Hp) (Q : VK) (E : XK) : Prop := (o = none → ∀ v H', Ex H H' → Q v H') ∧ ∀ C, o = some C → ∀ H', Ex H H' → E (.ref C) none H'
def pI : PyData → Int
  | .int i => i
  | _ => 0
/-- nothing is raised, or the first that is -/
def orX (b : Bool) (C : Addr) (o : Option Addr) : Option Addr := if b then o else some C
/-- the second only where the first raises nothing -/
def thenX : Option Addr → Option Addr → Option Addr
  | none, o => o
  | some C, _ => some C
theorem thenX_none {o u : Option Addr} (h : o = none) : thenX o u = u := by
  rw [h]
  rfl
theorem thenX_some {o u : Option Addr} {C : Addr} (h : o = some C) : thenX o u = some C := by
  rw [h]
  rfl
/-- an empty list -/
def noD : PyData → Bool
  | .list ds => ds.isEmpty
  | _ => false
theorem LenP.ints {cs : List Int} (h : LenP (.list (cs.map PyData.int))) : cs.length ≤ 5000 := by
  have := h _ rfl
  rwa [List.length_map] at this
theorem ShB.shows2 {k n : Nat} {d : PyData} (h : ShB k n d) (hk : k ≤ 60) (hn : n ≤ 10000000) : ShowsB d := ⟨h.sh, Nat.le_trans h.dp hk, Nat.le_trans (Nat.le_trans (Nat.le_trans (shown_le d h.sh h.tx) h.wd) hn) (by decide +kernel)⟩
theorem shb_lst3 {k n : Nat} {d e f : PyData} (h1 : ShB k n d) (h2 : ShB k n e) (h3 : ShB k n f) : ShB (k + 1) (2 + (n + 2) * 3) (.list [d, e, f]) := shb_lst (fun x hx => by
  simp only [List.mem_cons, List.not_mem_nil, or_false] at hx
  rcases hx with rfl | rfl | rfl
  · exact h1
  · exact h2
  · exact h3) (Nat.le_refl _)
theorem shb_lst2 {k n : Nat} {d e : PyData} (h1 : ShB k n d) (h2 : ShB k n e) : ShB (k + 1) (2 + (n + 2) * 2) (.list [d, e]) := shb_lst (fun x hx => by
  simp only [List.mem_cons, List.not_mem_nil, or_false] at hx
  rcases hx with rfl | rfl
  · exact h1
  · exact h2) (Nat.le_refl _)
theorem ed_ofF {te : TE} {σ : L2.St} {W0 H : Hp} {d : PyData} (h : EvF te σ W0 d) (e : Ex W0 H) : EvD te σ H d := fun H1 e1 Q q => h W0 H1 (Ex.refl W0) (e.trans e1) Q fun v W2 H2 g hv => q v H2 g.hh (hv.up g.h)
/-- the primes from 3 to 97, as a list of divisors tells them -/
theorem field_small : ∀ i : Nat, i < 133 → dField (.int (-3 + (i : Int))) = (decide (2 < (-3 + (i : Int))) && (decide ((-3 + (i : Int)) < 98) && ((irng 2 (-3 + (i : Int))).filter fun x => decide ((-3 + (i : Int)) / x * x = (-3 + (i : Int)))).isEmpty)) := by decide +kernel
theorem int_empty (l : List Int) : PyData.eqv (.list (l.map PyData.int)) (.list []) = l.isEmpty := by
  cases l <;> rfl
theorem q_forG {K : PySem.W.Frag} {tr : TA} {ds : List PyData} {g : TG} {tu tz : TS} {D : Ends} {σ : L2.St} {H : Hp} (h : EvDA tr σ H ds) (hl : ds.length ≤ 100000) (Pv : Nat → L2.St → Hp → Prop) (h0 : ∀ H1, Ex H H1 → Pv 0 σ H1)
    (hs : ∀ i x d σ' H', ds[i]? = some d → Dt H' x d → Pv i σ' H' → g x σ' H' fun σ2 H2 => tu { D with nx := fun σ3 H3 => Pv (i + 1) σ3 H3 ∧ Ex H' H3, ct := fun σ3 H3 => Pv (i + 1) σ3 H3 ∧ Ex H' H3, bk := tz D } σ2 H2)
    (hd : ∀ σ' H', Pv ds.length σ' H' → tz D σ' H') : tSeq (tFor (iList K (tLst tr)) g tu) tz D σ H :=
  h H (Ex.refl H) _ fun vs H2 e2 hv => ⟨sz_of (by rw [hv.len]; exact hl), fun p hp => by
    have hp2 : (upd H2 p (.lst vs)) p = some (.lst vs) := upd_same
    have x2 : Ex H2 (upd H2 p (.lst vs)) := Ex.new hp
    refine ⟨p, rfl, ⟨_, sq_of hp2⟩, fun i m σ' H' => m = vs.length - i ∧ i ≤ vs.length ∧ Pv i σ' H' ∧ Ex (upd H2 p (.lst vs)) H', ⟨vs.length, rfl, Nat.zero_le _, h0 _ (e2.trans x2), Ex.refl _⟩, fun i m σ' H' hW => ?_⟩
    obtain ⟨rfl, hi, hP, eW⟩ := hW
    have hS : SqL K H' p vs := sq_of (eW _ _ hp2)
    by_cases z : i < vs.length
    · obtain ⟨d, hd1, hd2⟩ := hv.get i (List.getElem?_eq_getElem z)
      refine .inr ⟨⟨vs, vs[i], hS, List.getElem?_eq_getElem z⟩, fun σ3 H3 => Pv (i + 1) σ3 H3 ∧ Ex H' H3, fun σ3 H3 hN => ⟨vs.length - (i + 1), by omega, rfl, z, hN.1, eW.trans hN.2⟩, fun x H3 y => ?_⟩
      obtain ⟨rfl, y⟩ := y
      have ex : x = vs[i] := Option.some.inj ((y vs hS).symm.trans (List.getElem?_eq_getElem z))
      rw [ex]
      exact hs i _ d σ' _ hd1 (hd2.up (x2.trans eW)) hP
    · have e : i = vs.length := by omega
      subst e
      rw [hv.len] at hP
      exact .inl ⟨⟨vs, hS, Nat.le_refl _⟩, hd σ' H' hP⟩⟩
/-- int(..) of a truth, as a place in a list of two -/
theorem at_two {x y : V} {b : Bool} : atI [x, y] (if b = true then 1 else 0) = some (if b = true then y else x) := by
  cases b <;> rfl
theorem noD_eqv {d : PyData} : PyData.eqv d (.list []) = noD d := by
  cases d with
  | list ds => cases ds <;> rfl
  | none => rfl
  | bool b => rfl
  | int i => rfl
  | str x => rfl
  | tuple x => rfl
  | dict x => rfl
theorem eqv_noD {d : PyData} : PyData.eqv (.list []) d = noD d := by
  cases d with
  | list ds => cases ds <;> rfl
  | none => rfl
  | bool b => rfl
  | int i => rfl
  | str x => rfl
  | tuple x => rfl
  | dict x => rfl
theorem shI {c : Int} (h : c.natAbs < 2 ^ 200) : ShB 0 1921 (.int c) := shb_of (sh_int (log_of (k := 200) h (by decide) (by decide)))
theorem shb_bd {n d : Int} (hn : n.natAbs < 2 ^ 200) (hd : d.natAbs < 2 ^ 200) : ShB 5 49000 (.tuple [.int n, .int d]) := (shb_tup (k := 0) (n := 1921) (m := 4000) (fun x hx => by
  simp only [List.mem_cons, List.not_mem_nil, or_false] at hx
  rcases hx with rfl | rfl
  · exact shI hn
  · exact shI hd) (Nat.le_of_ble_eq_true rfl)).mono (by decide) (by decide)
theorem shO {o : Option Int} (h : ∀ r, o = some r → r.natAbs < 2 ^ 200) : ShB 0 1921 (oD o) := by
  cases o with
  | none => exact ⟨rfl, trivial, Nat.le_refl 0, by decide⟩
  | some r => exact shI (h r rfl)
theorem shb_rd1 {q : Int × Option Int} (h1 : q.1.natAbs < 2 ^ 200) (h2 : ∀ r, q.2 = some r → r.natAbs < 2 ^ 200) : ShB 1 3849 (.tuple [.int q.1, oD q.2]) := shb_tup (k := 0) (n := 1921) (fun x hx => by
  simp only [List.mem_cons, List.not_mem_nil, or_false] at hx
  rcases hx with rfl | rfl
  · exact shI h1
  · exact shO h2) (Nat.le_of_ble_eq_true rfl)
theorem rd_small {l : List (Int × Option Int)} (hR : RdN l) {q : Int × Option Int} (hq : q ∈ l) : q.1.natAbs < 2 ^ 200 ∧ ∀ r, q.2 = some r → r.natAbs < 2 ^ 200 := by
  obtain ⟨h1, h2⟩ := hR.ok q hq
  have lo := primeB_lo h1
  have b : (1001 : Nat) < 2 ^ 200 := by decide
  refine ⟨by omega, fun r hr => ?_⟩
  have := h2 r hr
  omega
theorem shb_rd {l : List (Int × Option Int)} (hR : RdN l) : ShB 5 49000 (.list (rdN l)) := (shb_lst (k := 1) (n := 3849) (m := 40000) (fun x hx => by
  obtain ⟨q, hq, rfl⟩ := List.mem_map.mp hx
  obtain ⟨h1, h2⟩ := rd_small hR hq
  exact shb_rd1 h1 h2) (by
  have := hR.len
  unfold rdN
  rw [List.length_map]
  omega)).mono (by decide) (by decide)
theorem shows2D {a b : PyData} (ha : ShB 5 49000 a) (hb : ShB 5 49000 b) : ShowsB (.list [a, b]) := (shb_lst (k := 5) (n := 49000) (m := 100000) (fun x hx => by
  simp only [List.mem_cons, List.not_mem_nil, or_false] at hx
  rcases hx with rfl | rfl
  · exact ha
  · exact hb) (Nat.le_of_ble_eq_true rfl)).shows (by decide) (Nat.le_refl _)
theorem bd_ok {n d : Int} (n0 : 0 ≤ n) (d0 : 1 ≤ d) : dBounds (.tuple [.int n, .int d]) = true := by
  show (decide (0 ≤ n) && decide (1 ≤ d)) = true
  rw [decide_eq_true n0, decide_eq_true d0]
  rfl
theorem shN : ShB 0 1921 .none := (shb_of sh_non).mono (by decide) (by decide)
theorem shBl {b : Bool} : ShB 0 1921 (.bool b) := (shb_of sh_bl).mono (by decide) (by decide)
theorem shS (x : String) (h : (Str.ofString x).length ≤ 100) : ShB 0 1921 (.str (Str.ofString x)) := (shb_of (sh_str (m := 100) (okS_of x) h)).mono (by decide) (by decide)
theorem shD : ShB 1 6000 (.dict []) := (show ShB 1 2 (.dict []) from ⟨rfl, trivial, Nat.le_refl _, Nat.le_refl _⟩).mono (by decide) (by decide)
theorem al0 {P : PyData → Prop} : ∀ d ∈ ([] : List PyData), P d := fun _ h => nomatch h
theorem al1 {P : PyData → Prop} {a : PyData} (ha : P a) : ∀ d ∈ [a], P d := fun d hd => by rw [List.mem_singleton.mp hd]; exact ha
theorem al2 {P : PyData → Prop} {a b : PyData} (ha : P a) (hb : P b) : ∀ d ∈ [a, b], P d := fun d hd => by
  simp only [List.mem_cons, List.not_mem_nil, or_false] at hd
  rcases hd with rfl | rfl
  · exact ha
  · exact hb
theorem al3 {P : PyData → Prop} {a b c : PyData} (ha : P a) (hb : P b) (hc : P c) : ∀ d ∈ [a, b, c], P d := fun d hd => by
  simp only [List.mem_cons, List.not_mem_nil, or_false] at hd
  rcases hd with rfl | rfl | rfl
  · exact ha
  · exact hb
  · exact hc
theorem shT1 {ds : List PyData} (h : ∀ d ∈ ds, ShB 0 1921 d) (hl : ds.length ≤ 3) : ShB 1 6000 (.tuple ds) := shb_tup h (by omega)
theorem shL1 {ds : List PyData} (h : ∀ d ∈ ds, ShB 0 1921 d) (hl : ds.length ≤ 3) : ShB 1 6000 (.list ds) := shb_lst h (by omega)
theorem shT2 {ds : List PyData} (h : ∀ d ∈ ds, ShB 1 6000 d) (hl : ds.length ≤ 3) : ShB 2 20000 (.tuple ds) := shb_tup h (by omega)
/-- no bounds, and may be shown -/
def BadB (d : PyData) : Prop := dBounds d = false ∧ ShB 5 49000 d
theorem bb {k n : Nat} {d : PyData} (h : dBounds d = false) (s : ShB k n d) (hk : Nat.ble k 5 = true := by rfl) (hn : Nat.ble n 49000 = true := by rfl) : BadB d := ⟨h, s.mono (Nat.le_of_ble_eq_true hk) (Nat.le_of_ble_eq_true hn)⟩
theorem bd_no {n d : Int} (h : ¬ (0 ≤ n ∧ 1 ≤ d)) : dBounds (.tuple [.int n, .int d]) = false := by
  show (decide (0 ≤ n) && decide (1 ≤ d)) = false
  by_cases h1 : 0 ≤ n
  · rw [decide_eq_false (p := 1 ≤ d) fun k => h ⟨h1, k⟩, Bool.and_false]
  · rw [decide_eq_false h1, Bool.false_and]
/-- no reading, and may be shown -/
def OddR (d : PyData) : Prop := dReading d = false ∧ ShB 2 6000 d
theorem og {k n : Nat} {d : PyData} (h : dReading d = false) (s : ShB k n d) (hk : Nat.ble k 2 = true := by rfl) (hn : Nat.ble n 6000 = true := by rfl) : OddR d := ⟨h, s.mono (Nat.le_of_ble_eq_true hk) (Nat.le_of_ble_eq_true hn)⟩
theorem shL1s {ds : List PyData} (h : ∀ d ∈ ds, ShB 0 1921 d) (hl : ds.length ≤ 1) : ShB 1 1925 (.list ds) := shb_lst h (by omega)
theorem shT2s {ds : List PyData} (h : ∀ d ∈ ds, ShB 1 1925 d) (hl : ds.length ≤ 2) : ShB 2 4000 (.tuple ds) := shb_tup h (by omega)
theorem no_big {n : Int} {e : PyData} (h : 1000000 ≤ n) : dReading (.tuple [.int n, e]) = false := by
  cases z : dReading (.tuple [.int n, e]) with
  | false => rfl
  | true =>
    obtain ⟨p, e', ee, hp, _⟩ := dReading_get z
    cases ee
    have lo := primeB_lo hp
    omega
/-- no readings, and may be shown -/
def BadR (d : PyData) : Prop := dReadings d = false ∧ ShB 5 49000 d
theorem br {k n : Nat} {d : PyData} (h : dReadings d = false) (s : ShB k n d) (hk : Nat.ble k 5 = true := by rfl) (hn : Nat.ble n 49000 = true := by rfl) : BadR d := ⟨h, s.mono (Nat.le_of_ble_eq_true hk) (Nat.le_of_ble_eq_true hn)⟩
theorem rds_odd {ds : List PyData} {d : PyData} (hm : d ∈ ds) (hd : dReading d = false) : dReadings (.list ds) = false := by
  show (decide (ds.length ≤ 10) && (ds.all dReading && decide (cntD (fstAt ds) ds.length = ds.length))) = false
  have : ds.all dReading = false := List.all_eq_false.mpr ⟨d, hm, by rw [hd]; exact Bool.false_ne_true⟩
  rw [this, Bool.false_and, Bool.and_false]
theorem rds_twice {ds : List PyData} {i j : Nat} {p : Int} {e f : PyData} (hi : ds[i]? = some (.tuple [.int p, e])) (hj : ds[j]? = some (.tuple [.int p, f])) (hij : i < j) : dReadings (.list ds) = false := by
  cases z : dReadings (.list ds) with
  | false => rfl
  | true =>
    exfalso
    obtain ⟨l, el, hR⟩ := readings_get z
    cases el
    unfold rdN at hi hj
    rw [List.getElem?_map] at hi hj
    obtain ⟨q1, h1, e1⟩ := Option.map_eq_some_iff.mp hi
    obtain ⟨q2, h2, e2⟩ := Option.map_eq_some_iff.mp hj
    have a1 : q1.1 = p := by
      have := PyData.tuple.inj e1
      exact PyData.int.inj (List.cons.inj this).1
    have a2 : q2.1 = p := by
      have := PyData.tuple.inj e2
      exact PyData.int.inj (List.cons.inj this).1
    obtain ⟨b1, c1⟩ := List.getElem?_eq_some_iff.mp h1
    obtain ⟨b2, c2⟩ := List.getElem?_eq_some_iff.mp h2
    have := List.pairwise_iff_getElem.mp hR.nd i j (by rw [List.length_map]; exact b1) (by rw [List.length_map]; exact b2) hij
    rw [List.getElem_map, List.getElem_map, c1, c2, a1, a2] at this
    exact this rfl
theorem rds_many {ds : List PyData} (h : 10 < ds.length) : dReadings (.list ds) = false := by
  show (decide (ds.length ≤ 10) && _) = false
  rw [decide_eq_false (by omega), Bool.false_and]
theorem hid_xD (S : List Addr) (H : Hp) : Ex (hid S H) H := fun b o z => by
  by_cases y : b ∈ S
  · cases (if_pos y).symm.trans z
  · exact (if_neg y).symm.trans z
theorem hid_sD (S : List Addr) (H : Hp) : ExS S H (hid S H) := fun b o z => by
  by_cases y : b ∈ S
  · cases (if_pos y).symm.trans z
  · exact (if_neg y).trans ((if_neg y).trans ((if_neg y).symm.trans z))
theorem hid_ofD {S : List Addr} {W H : Hp} (e : Ex W H) (n : ∀ s ∈ S, W s = none) : Ex W (hid S H) := fun b o z => by
  have y : b ∉ S := fun y => by
    rw [n b y] at z
    cases z
  exact (if_neg y).trans (e b o z)
theorem AccL.hidD {S : List Addr} {H : Hp} {da a : Addr} {ds : List PyData} (h : AccL H a ds) (hS : DDB H da S) (n : a ∉ S) : Dt (hid S H) (.ref a) (.list ds) := by
  obtain ⟨acc, h1, h2, h3⟩ := h
  exact .lst ((if_neg n).trans h1) (DtAll.exS hS.all (hid_sD S H) _ _ h3 h2)
/-- a list of data without lists, by what hides the deck -/
theorem evp_ofN {σ : L2.St} {W0 : Hp} {da : Addr} {S : List Addr} {te : TE} {G : PyData → Prop} {ds : List PyData} (h : ∀ H1, Ex W0 H1 → EvN te σ H1 ds) (g : G (.list ds)) : EvP da S te σ W0 G := fun W H1 e0 e1 n hD Q q => h H1 (e0.trans e1) H1 (Ex.refl _) _ fun p H2 hp e2 a2 =>
  q (.ref p) (.list ds) (hid S H2) H2 (hid_ofD (e1.trans e2) n) (hid_xD S H2) (fun _ hs => if_pos hs) (hD.up e2) (ExS.of e2) (a2.hidD (hD.up e2) (hD.ne hp)) g
theorem dtTake {H : Hp} : ∀ (k : Nat) {xs : List V} {ds : List PyData}, DtAll H xs ds → DtAll H (xs.take k) (ds.take k)
  | 0, _, _, _ => .nil
  | _ + 1, _, _, .nil => .nil
  | k + 1, _, _, .cons h1 h => .cons h1 (dtTake k h)
theorem dtDrop {H : Hp} : ∀ (k : Nat) {xs : List V} {ds : List PyData}, DtAll H xs ds → DtAll H (xs.drop k) (ds.drop k)
  | 0, _, _, h => h
  | _ + 1, _, _, .nil => .nil
  | k + 1, _, _, .cons _ h => dtDrop k h
theorem ef_slD {K : PySem.W.Frag} {σ : L2.St} {W0 : Hp} {tlo thi : TO} {i : Nat} {a : Addr} {xs : List V} {ds es : List PyData} {lo hi : Option Int} (h : σ[i]? = some (some (.ref a))) (ha : W0 a = some (.lst xs)) (hx : ∀ W, DtAll W xs ds → DtAll W (cutV xs lo hi) es) (hd : DtAll W0 xs ds) (h1 : Pt tlo σ lo) (h2 : Pt thi σ hi) : EvF (tSl (rSlL K) (tVar i) tlo thi) σ W0 (.list es) := fun W H1 e0 e1 Q q =>
  ⟨.ref a, h, h1 _ _ (h2 _ _ ⟨a, _, rfl, sq_of ((e0.trans e1) _ _ ha), fun p hp => q _ _ _ (Grow.new (o := .lst (cutV xs lo hi)) e1 hp) (.lst upd_same ((hx _ (hd.up e0)).up (Grow.new e1 hp).w))⟩)⟩
theorem ef_toD {K : PySem.W.Frag} {σ : L2.St} {W0 : Hp} {i : Nat} {a : Addr} {xs : List V} {ds : List PyData} (h : σ[i]? = some (some (.ref a))) (ha : W0 a = some (.lst xs)) (hd : DtAll W0 xs ds) : EvF (tCB (fun xs H Q => ∃ p ys, xs = [V.ref p] ∧ ((SqL K H p ys ∧ ∀ l, H l = none → Q (.ref l) (upd H l (.tup ys))) ∨ (SqT K H p ys ∧ Q (.ref p) H))) (tCons (tVar i) tNil)) σ W0 (.tuple ds) := fun W H1 e0 e1 Q q =>
  ⟨.ref a, h, a, _, rfl, .inl ⟨sq_of ((e0.trans e1) _ _ ha), fun p hp => q _ _ _ (Grow.new (o := .tup xs) e1 hp) (.tup upd_same ((hd.up e0).up (Grow.new e1 hp).w))⟩⟩
theorem idx_x {A B : List PyData} {x y : PyData} : (((A ++ [x]) ++ B) ++ [y])[A.length]? = some x := by simp
theorem idx_y {A B : List PyData} {x y : PyData} : (((A ++ [x]) ++ B) ++ [y])[A.length + 1 + B.length]? = some y := by
  rw [List.getElem?_append_right (by rw [List.length_append, List.length_append]; exact Nat.le_refl _), List.length_append, List.length_append]
  simp
theorem go_c {v : V} {σ : L2.St} {H : Hp} {Q : VK} (h : Q v H) : tC v σ H Q := h
theorem go_asg2 {te : TE} {g : TG} {tz : TS} {D : Ends} {σ : L2.St} {H : Hp} (h : te σ H fun x H1 => g x σ H1 fun σ2 H2 => tz D σ2 H2) : tSeq (tAsg te g) tz D σ H := h
theorem go_forIS {K : PySem.W.Frag} {tl : TE} {g : TG} {tu : TS} {D : Ends} {σ : L2.St} {H : Hp} (h : tl σ H fun x H1 => ∃ a, x = .ref a ∧ (∃ xs, SqL K H1 a xs) ∧ tFor (fun _ H R => R (Itl K a) H) g tu D σ H1) : tFor (iList K tl) g tu D σ H := h
/-- of both ways none answers otherwise -/
theorem en_ways {K : PySem.W.Frag} {te : TE} {σ : L2.St} {H : Hp} {w : Str} (hσ : σ.length = 12) (ask : ∀ (way : Int) H1, (way = 0 ∨ way = 1) → Ex H H1 → ∀ Q : VK, (∀ H', Ex H1 H' → Q (.str w) H') → te ((wipe σ [11]).set 11 (some (.int way))) H1 Q) : EvN (tLc (iTup K (tTup (tCons (tC (V.int 0)) (tCons (tC (V.int 1)) tNil)))) (gName 11) (tTest (tOp rNe te (tC (V.str w)))) (tVar 11) [11]) σ H [] := by
  have e : ([] : List PyData) = (([0, 1] : List Int).map PyData.int |>.filter fun _ => false).map fun d => d := rfl
  rw [e]
  match σ, hσ with
  | [s0, s1, s2, s3, s4, s5, s6, s7, s8, s9, s10, s11], _ =>
  refine en_lcT (fun _ => false) (fun d => d) (ed_tup (eda_cons (ed_int ev_c) (eda_cons (ed_int ev_c) eda_nil)) (Nat.le_of_ble_eq_true rfl)) (Nat.le_of_ble_eq_true rfl) (fun _ => rfl) (fun H4 v d e4 hm hv => ?_) (fun _ _ _ _ _ _ h => nomatch h) (fun _ _ h => nomatch h)
  obtain ⟨way, hw, rfl⟩ := List.mem_map.mp hm
  cases hv
  have hw2 : way = 0 ∨ way = 1 := by simpa using hw
  intro H5 e5 Q q
  refine go_tst (go_op ?_)
  exact ask way H5 hw2 (e4.trans e5) _ fun H6 e6 => ⟨rfl, _, rfl, by rw [show decide (V.str w = V.str w) = true from decide_eq_true rfl]; exact q H6 e6⟩
theorem go_nil {σ : L2.St} {H : Hp} {Q : List V → Hp → Prop} (h : Q [] H) : tNil σ H Q := h
theorem go_call1 {sp : Sp} {E : XK} {te : TE} {tr : TA} {σ : L2.St} {H : Hp} {Q : VK} (h : te σ H fun x H1 => tr σ H1 fun xs H2 => sp ((x :: xs) ++ []) H2 Q E) : tCall sp [] E (tCons te tr) σ H Q := h
theorem go_iftO {te : TE} {u : TT} {A B : TS} {D : Ends} {σ : L2.St} {H : Hp} (h : te σ H fun v H1 => ∃ b, v = .bl b ∧ if b = true then A D σ H1 else u σ H1 fun b H2 => if b = true then A D σ H2 else B D σ H2) : tIfS (tOr (tTest te) u) A B D σ H := h
local macro_rules | `(tactic| trivial) => `(tactic| first
  | assumption
  | rfl
  | exact upd_same
  | exact sq_of (by trivial)
  | exact st_of (by trivial)
  | exact .inl (by trivial)
  | exact .inr (by trivial)
  | exact sz_of (Nat.le_of_ble_eq_true rfl)
  | exact sz_lt (by omega)
  | exact sz_of (by omega)
  | (refine exUp (by assumption) ?_; trivial)
  | (refine exUp (Ex.new (by assumption)) ?_; trivial)
  | exact Dt.int _
  | exact Dt.bl _
  | exact Dt.non
  | (refine dtUp (by assumption) ?_; trivial)
  | (refine dtUp (Ex.new (by assumption)) ?_; trivial)
  | omega
  | decide)
local macro_rules | `(tactic| and_intros) => `(tactic| first
  | refine And.intro (by first | rfl | trivial) ?_
  | (apply Exists.intro; and_intros))
local macro_rules | `(tactic| subst_eqs) => `(tactic| repeat first
  | and_intros
  | refine itT rfl ?_
  | refine itF rfl ?_)
section
variable {P : Program} {w : World} {K : PySem.W.Frag} {mg : Str → Option Value} {base : Heap} {z : Ad}
def sp_is_whole : Sp := fun vs H Q _ => ∃ v d, vs = [v] ∧ Dt H v d ∧ Q (.bl (dWhole d)) H
theorem ok_is_whole (T : Txt K mg base z) : FnOk P w K mg base CX0 1 z.a_is_whole z.d_is_whole ["thing"] (sp_is_whole) := by
  refine T.F_is_whole.ok sc_is_whole (fun vs H Q E h => ?_) (fun cdv A outer s H vs Q E hr h => ?_)
  · obtain ⟨v, d, rfl, _⟩ := h
    rfl
  · obtain ⟨v, d, rfl, hd, q⟩ := h
    refine ⟨_, (PSs.nox (pss_one (ps_ret (pe_and (pe_callB (r := rIsi K) call_isi (by rfl) T.m_isinstance (by decide +kernel) (pa_cons (pv 0) (pa_cons (pe_bltn (v := .ty "int") (by rfl) T.m_int (by decide +kernel) rfl) pa_nil))) (pe_one (pe_not (pe_callB (r := rIsi K) call_isi (by rfl) T.m_isinstance (by decide +kernel) (pa_cons (pv 0) (pa_cons (pe_bltn (v := .ty "bool") (by rfl) T.m_bool (by decide +kernel) rfl) pa_nil))))))))), ?_⟩
    refine ⟨v, rfl, _, _, _, _, _, rfl, .ty _, (hd).ty, kit_ty ( kit_int d), dInt d, rfl, ?_⟩
    cases d with
    | int i => exact itT rfl ⟨v, rfl, _, _, _, _, _, rfl, .ty _, (hd).ty, kit_ty ( kit_bool _), _, rfl, q⟩
    | bool b => exact itT rfl ⟨v, rfl, _, _, _, _, _, rfl, .ty _, (hd).ty, kit_ty ( kit_bool _), _, rfl, q⟩
    | none => exact itF rfl q
    | str x => exact itF rfl q
    | list x => exact itF rfl q
    | tuple x => exact itF rfl q
    | dict x => exact itF rfl q
def sp_is_whole_below : Sp := fun vs H Q _ => ∃ v d m, vs = [v, .int m] ∧ Dt H v d ∧ Q (.bl (dBelow m d)) H
theorem ok_is_whole_below (T : Txt K mg base z) : FnOk P w K mg base CX0 2 z.a_is_whole_below z.d_is_whole_below ["thing", "limit"] (sp_is_whole_below) := by
  refine T.F_is_whole_below.ok sc_is_whole_below (fun vs H Q E h => ?_) (fun cdv A outer s H vs Q E hr h => ?_)
  · obtain ⟨v, d, m, rfl, _⟩ := h
    rfl
  · obtain ⟨v, d, m, rfl, hd, q⟩ := h
    refine ⟨_, (PSs.nox (pss_one (ps_ret (pe_and (pe_call (ok_is_whole T) hr (by rfl) T.g_is_whole T.F_is_whole.kp T.b_is_whole .nil pass0 (pa_cons (pv 0) pa_nil)) (pe_one (pe_chain op_le op_lt pe_int (pv 0) (pv 1))))))), ?_⟩
    refine ⟨v, rfl, v, d, rfl, hd, _, rfl, ?_⟩
    cases d with
    | int r =>
      cases hd
      refine itT rfl ⟨.int r, rfl, 0, r, rfl, rfl, _, rfl, it2 (fun e => ?_) (fun e => ?_)⟩
      · refine ⟨.int m, rfl, r, m, rfl, rfl, ?_⟩
        have z : dBelow m (.int r) = decide (r < m) := by
          show (decide (0 ≤ r) && decide (r < m)) = _
          rw [e]
          rfl
        rw [z] at q
        exact q
      · have z : dBelow m (.int r) = false := by
          show (decide (0 ≤ r) && decide (r < m)) = _
          rw [e]
          rfl
        rw [z] at q
        exact q
    | none => exact itF rfl q
    | bool b => exact itF rfl q
    | str x => exact itF rfl q
    | list x => exact itF rfl q
    | tuple x => exact itF rfl q
    | dict x => exact itF rfl q
def sp_common_divisor : Sp := fun vs H Q _ => ∃ a b : Int, vs = [.int a, .int b] ∧ 0 < b ∧ Q (.int (Int.gcd a b)) H
theorem ok_common_divisor (T : Txt K mg base z) : FnOk P w K mg base CX0 1 z.a_common_divisor z.d_common_divisor ["one", "other"] (sp_common_divisor) := by
  refine T.F_common_divisor.ok sc_common_divisor (fun vs H Q E h => ?_) (fun cdv A outer s H vs Q E hr h => ?_)
  · obtain ⟨a, b, rfl, _⟩ := h
    rfl
  · obtain ⟨a, b, rfl, hb, q⟩ := h
    refine ⟨_, (PSs.nox (pss_cons (ps_while PassesOwn.never (pt_cmpR op_ne (pv 1) pe_int (nomark _)) (pss_one (ps_par (i := 0) (j := 1) (by rfl) sc_common_divisor.nd rfl rfl (by decide) rfl rfl (pa_cons (pv 1) (pa_cons (pe_op op_mod (pv 0) (pv 1)) pa_nil)) (by rfl))))
      (pss_one (ps_ret (pv 0))))), ?_⟩
    refine ⟨fun m σ H' => ∃ x y : Int, σ = [some (.int x), some (.int y)] ∧ H' = H ∧ 0 ≤ y ∧ (y = 0 → 0 ≤ x) ∧ Int.gcd x y = Int.gcd a b ∧ m = y.toNat, ⟨b.toNat, a, b, rfl, rfl, by omega, by omega, rfl, rfl⟩, fun m σ H' hW => ?_⟩
    obtain ⟨x, y, rfl, rfl, hy, hx, hg, rfl⟩ := hW
    refine ⟨.int y, rfl, rfl, _, rfl, it2 (fun e => ?_) (fun e => ?_)⟩
    · rw [dI] at e
      have e : y ≠ 0 := by simpa using e
      refine ⟨fun σ2 H2 => σ2 = [some (.int y), some (.int (x % y))] ∧ H2 = H', fun σ2 H2 hn => ?_, ?_⟩
      · obtain ⟨rfl, rfl⟩ := hn
        have h1 : 0 ≤ x % y := Int.emod_nonneg x e
        have h2 : x % y < y := Int.emod_lt_of_pos x (by omega)
        exact ⟨(x % y).toNat, by omega, y, x % y, rfl, rfl, h1, by omega, by rw [gcd_step, hg], rfl⟩
      · refine ⟨.int y, rfl, .int x, rfl, .int y, rfl, x, y, rfl, rfl, (show (0 : Int) < y by omega), _, _, rfl, rfl, rfl⟩
    · rw [dI] at e
      have e : y = 0 := by simpa using e
      subst e
      have h0 := hx rfl
      refine ⟨.int x, rfl, ?_⟩
      rw [← hg, Int.gcd_zero_right] at q
      rw [show x = ((x.natAbs : Nat) : Int) by omega]
      exact q
def sp_product_of : Sp := fun vs H Q _ => ∃ (v : V) (ps : List Int), vs = [v] ∧ Dt H v (.list (ps.map PyData.int)) ∧ ps.length ≤ 10 ∧ (∀ p ∈ ps, primeB p = true) ∧ Q (.int (prodI ps)) H
theorem ok_product_of (T : Txt K mg base z) : FnOk P w K mg base CX0 1 z.a_product_of z.d_product_of ["numbers"] (sp_product_of) := by
  refine T.F_product_of.ok sc_product_of (fun vs H Q E h => ?_) (fun cdv A outer s H vs Q E hr h => ?_)
  · obtain ⟨v, ps, rfl, _⟩ := h
    rfl
  · obtain ⟨v, ps, rfl, hd, hl, hp, q⟩ := h
    refine ⟨_, (PSs.nox (pss_cons (ps_set (i := 1) sc_product_of.nd rfl (.inl rfl) pe_int)
      (pss_cons (ps_for PassesOwn.never rfl (pi_listK K (pv 0)) (pg_name (i := 2) sc_product_of.nd rfl (.inl rfl)) (pss_one (ps_aug (i := 1) sc_product_of.nd rfl (.inl rfl) (pv 2) ip_mulW)))
      (pss_one (ps_ret (pv 1)))))), ?_⟩
    obtain ⟨a, xs, rfl, ha, hx⟩ := hd.lst_get
    have := DtAll.ints_eq _ hx
    subst this
    refine ⟨.ref a, rfl, a, rfl, ⟨_, sq_of ha⟩, for_list (xs := ps.map V.int) (fun i σ H' => (∃ y2, σ = [some (.ref a), some (.int (prodI (ps.take i))), y2]) ∧ H' = H) ⟨⟨none, rfl⟩, rfl⟩ (fun i σ H' _ hP => by rw [hP.2]; exact sq_of ha) (fun i x σ H' hi hP => ?_) (fun σ H' hP => ?_)⟩
    · obtain ⟨⟨y2, rfl⟩, rfl⟩ := hP
      rw [List.getElem?_map] at hi
      obtain ⟨p, hpi, rfl⟩ := Option.map_eq_some_iff.mp hi
      have lo := primeB_lo (hp p (List.mem_of_getElem? hpi))
      obtain ⟨f0, f1⟩ := prodI_small (ps := ps.take i) (by rw [List.length_take]; omega) fun x hx => hp x (List.mem_of_mem_take hx)
      refine ⟨.int (prodI (ps.take i)), rfl, .int p, rfl, _, _, rfl, rfl, wide_mul (a := 120) (b := 20) (by omega) (by omega) (by decide) (by decide) (by decide), ⟨some (.int p), ?_⟩, rfl⟩
      rw [take_snoc hpi, prodI_snoc]
      rfl
    · obtain ⟨⟨y2, rfl⟩, rfl⟩ := hP
      rw [List.length_map, List.take_length]
      exact ⟨_, rfl, q⟩
def sp_short_row : Sp := fun vs H Q _ => ∃ m n k : Int, vs = [.int m, .int n, .int k] ∧ 0 ≤ n ∧ n < m ∧ 0 ≤ k ∧ m.natAbs < 2 ^ 250 ∧ ∀ l f p H', Row m n k l f → Ex H H' → H p = none → H' p = some (.tup [.int l, .int f]) → Q (.ref p) H'
theorem ok_short_row (T : Txt K mg base z) : FnOk P w K mg base CX0 1 z.a_short_row z.d_short_row ["modulus", "number", "most"] (sp_short_row) := by
  refine T.F_short_row.ok sc_short_row (fun vs H Q E h => ?_) (fun cdv A outer s H vs Q E hr h => ?_)
  · obtain ⟨m, n, k, rfl, _⟩ := h
    rfl
  · obtain ⟨m, n, k, rfl, n0, n1, k0, hm, q⟩ := h
    refine ⟨_, (PSs.nox (pss_cons (ps_par (i := 3) (j := 4) (by rfl) sc_short_row.nd rfl rfl (by decide) rfl rfl (pa_cons (pv 0) (pa_cons (pv 1) pa_nil)) (by rfl))
      (pss_cons (ps_asg (pe_tup (pa_cons pe_int (pa_cons pe_int pa_nil))) (pg_tup (by rfl) (pgs_cons (pg_name (i := 5) sc_short_row.nd rfl (.inl rfl)) (pgs_cons (pg_name (i := 6) sc_short_row.nd rfl (.inl rfl)) pgs_nil))))
      (pss_cons (ps_while PassesOwn.never (pt_cmpR op_gt (pv 4) (pv 2) (nomark _)) (pss_cons (ps_set (i := 7) sc_short_row.nd rfl (.inl rfl) (pe_op op_fdivW (pv 3) (pv 4)))
      (pss_cons (ps_par (i := 3) (j := 4) (by rfl) sc_short_row.nd rfl rfl (by decide) rfl rfl (pa_cons (pv 4) (pa_cons (pe_op op_sub (pv 3) (pe_op op_mulW (pv 7) (pv 4))) pa_nil)) (by rfl))
      (pss_one (ps_par (i := 5) (j := 6) (by rfl) sc_short_row.nd rfl rfl (by decide) rfl rfl (pa_cons (pv 6) (pa_cons (pe_op op_sub (pv 5) (pe_op op_mulW (pv 7) (pv 6))) pa_nil)) (by rfl))))))
      (pss_one (ps_ret (pe_tup (pa_cons (pv 4) (pa_cons (pv 6) pa_nil))))))))), ?_⟩
    refine ⟨.int m, rfl, .int n, rfl, _, _, rfl, sz_of (Nat.le_of_ble_eq_true rfl), fun p0 hp0 => ?_⟩
    refine ⟨p0, _, rfl, .inl (.inl upd_same), rfl, .int 0, [.int 1], rfl, .int 1, [], rfl, rfl, ?_⟩
    have e0 : Ex H (upd H p0 (.tup [.int 0, .int 1])) := Ex.new hp0
    show tSeq _ _ _ _ (upd H p0 (.tup [.int 0, .int 1]))
    generalize upd H p0 (.tup [.int 0, .int 1]) = H0 at e0
    refine ⟨fun c σ H' => ∃ ab l fa f t ta s y7, σ = [some (.int m), some (.int n), some (.int k), some (.int ab), some (.int l), some (.int fa), some (.int f), y7] ∧ H' = H0 ∧ EInv m n ab l fa f t ta s ∧ (k < ab ∨ (f = 1 ∧ fa = 0 ∧ ab = m)) ∧ c = l.toNat,
      ⟨n.toNat, m, n, 0, 1, 0, 1, 1, none, rfl, rfl, ⟨by omega, by omega, by decide, .inl rfl, n0, n1, Int.le_refl _, by decide, by decide⟩, .inr ⟨rfl, rfl, rfl⟩, rfl⟩, fun c σ H' hW => ?_⟩
    obtain ⟨ab, l, fa, f, t, ta, s, y7, rfl, rfl, I, hx, rfl⟩ := hW
    refine ⟨.int l, rfl, .int k, rfl, l, k, rfl, rfl, _, rfl, it2 (fun e => ?_) (fun e => ?_)⟩
    · have e : k < l := of_decide_eq_true e
      have hl : 0 < l := by omega
      obtain ⟨z1, z2⟩ := I.size
      have z2 := z2 hl
      have la := I.la
      have am := I.am
      have w1 : l.natAbs < 2 ^ 250 := by omega
      have d0 : 0 ≤ ab / l := Int.ediv_nonneg (by omega) (by omega)
      have d1 : ab / l ≤ ab := Int.ediv_le_self l (show 0 ≤ ab by omega)
      have w2 : (ab / l).natAbs < 2 ^ 250 := by omega
      have w3 : f.natAbs < 2 ^ 250 := by omega
      refine ⟨fun σ2 H2 => σ2 = [some (.int m), some (.int n), some (.int k), some (.int l), some (.int (ab - ab / l * l)), some (.int f), some (.int (fa - ab / l * f)), some (.int (ab / l))] ∧ H2 = H', fun σ2 H2 hn => ?_, ?_⟩
      · obtain ⟨rfl, rfl⟩ := hn
        have I2 := I.step hl
        have l2 := I2.la
        have l3 := I2.l0
        exact ⟨(ab - ab / l * l).toNat, by omega, l, _, f, _, _, _, _, _, rfl, rfl, I2, .inl e, rfl⟩
      · refine ⟨.int ab, rfl, .int l, rfl, ab, l, rfl, rfl, wide_div (b := 250) hl w1 (by decide) (by decide), ?_⟩
        refine ⟨.int l, rfl, .int ab, rfl, .int (ab / l), rfl, .int l, rfl, _, _, rfl, rfl, wide_mul w2 w1 (by decide) (by decide) (by decide), _, _, rfl, rfl, _, _, rfl, ?_⟩
        exact ⟨.int f, rfl, .int fa, rfl, .int (ab / l), rfl, .int f, rfl, _, _, rfl, rfl, wide_mul w2 w3 (by decide) (by decide) (by decide), _, _, rfl, rfl, _, _, rfl, rfl, rfl⟩
    · have e : ¬ k < l := of_decide_eq_false e
      refine ⟨.int l, rfl, .int f, rfl, sz_of (Nat.le_of_ble_eq_true rfl), fun p hp => ?_⟩
      exact q l f p _ ⟨ab, fa, t, ta, s, I, by omega, hx⟩ (e0.trans (Ex.new hp)) (fresh_back e0 hp) upd_same
def sp_inverse : Sp := fun vs H Q _ => ∃ a p : Int, vs = [.int a, .int p] ∧ 1 < p ∧ p.natAbs < 2 ^ 250 ∧ Int.gcd a p = 1 ∧ ∀ r H', 0 ≤ r → r < p → r * a % p = 1 → Ex H H' → Q (.int r) H'
theorem ok_inverse (T : Txt K mg base z) : FnOk P w K mg base CX0 2 z.a_inverse z.d_inverse ["number", "prime"] (sp_inverse) := by
  refine T.F_inverse.ok sc_inverse (fun vs H Q E h => ?_) (fun cdv A outer s H vs Q E hr h => ?_)
  · obtain ⟨a, p, rfl, _⟩ := h
    rfl
  · obtain ⟨a, p, rfl, hp, hz, hg, q⟩ := h
    refine ⟨_, (PSs.nox (pss_one (ps_ret (pe_op op_mod (pe_ix (r := rIxT K) ix_tup (pe_call (ok_short_row T) hr (by rfl) T.g_short_row T.F_short_row.kp T.b_short_row .nil pass0 (pa_cons (pv 1) (pa_cons (pe_op op_mod (pv 0) (pv 1)) (pa_cons pe_int pa_nil)))) pe_int (fun _ _ => rfl)) (pv 1))))), ?_⟩
    have m0 := Int.emod_nonneg a (show p ≠ 0 by omega)
    have m1 := Int.emod_lt_of_pos a (show 0 < p by omega)
    refine ⟨.int p, rfl, .int a, rfl, .int p, rfl, a, p, rfl, rfl, (show 0 < p by omega), p, a % p, 1, rfl, m0, m1, by decide, hz, fun l f t H1 hR e1 _ h1 => ?_⟩
    obtain ⟨_, hi⟩ := row_inv hR hp hg
    refine ⟨t, _, 1, .int f, rfl, rfl, .inl (.inl h1), rfl, .int p, rfl, f, p, rfl, rfl, (show 0 < p by omega), ?_⟩
    exact q _ H1 (Int.emod_nonneg f (by omega)) (Int.emod_lt_of_pos f (by omega)) hi e1
def sp_is_pair : Sp := fun vs H Q _ => ∃ v d, vs = [v] ∧ Dt H v d ∧ Q (.bl (dPair d)) H
theorem ok_is_pair (T : Txt K mg base z) : FnOk P w K mg base CX0 1 z.a_is_pair z.d_is_pair ["thing"] (sp_is_pair) := by
  refine T.F_is_pair.ok sc_is_pair (fun vs H Q E h => ?_) (fun cdv A outer s H vs Q E hr h => ?_)
  · obtain ⟨v, d, rfl, _⟩ := h
    rfl
  · obtain ⟨v, d, rfl, hd, q⟩ := h
    refine ⟨_, (PSs.nox (pss_one (ps_ret (pe_and (pe_callB (r := rIsi K) call_isi (by rfl) T.m_isinstance (by decide +kernel) (pa_cons (pv 0) (pa_cons (pe_bltn (v := .ty "tuple") (by rfl) T.m_tuple (by decide +kernel) rfl) pa_nil))) (pe_one (pe_cmpR op_eq (pe_callB (r := rLenS K) call_len_seq (by rfl) T.m_len (by decide +kernel) (pa_cons (pv 0) pa_nil)) pe_int (nomark _))))))), ?_⟩
    refine ⟨v, rfl, _, _, _, _, _, rfl, .ty _, (hd).ty, kit_ty ( kit_tup d), dTup d, rfl, ?_⟩
    cases d with
    | tuple ds =>
      obtain ⟨a, xs, rfl, ha, hx⟩ := hd.tup_get
      refine itT rfl ⟨_, rfl, a, xs, rfl, .inr (.inl (.inl ha)), rfl, ?_⟩
      rw [dI, hx.len]
      have e : dPair (.tuple ds) = decide ((ds.length : Int) = 2) := by
        show decide (ds.length = 2) = _
        by_cases z : ds.length = 2
        · rw [decide_eq_true z, decide_eq_true (by omega)]
        · rw [decide_eq_false z, decide_eq_false (by omega)]
      rw [← e]
      exact q
    | int i => exact itF rfl q
    | bool b => exact itF rfl q
    | none => exact itF rfl q
    | str x => exact itF rfl q
    | list x => exact itF rfl q
    | dict x => exact itF rfl q
def sp_is_fraction : Sp := fun vs H Q _ => ∃ v d, vs = [v] ∧ Dt H v d ∧ Q (.bl (dFrac d)) H
theorem ok_is_fraction (T : Txt K mg base z) : FnOk P w K mg base CX0 2 z.a_is_fraction z.d_is_fraction ["thing"] (sp_is_fraction) := by
  refine T.F_is_fraction.ok sc_is_fraction (fun vs H Q E h => ?_) (fun cdv A outer s H vs Q E hr h => ?_)
  · obtain ⟨v, d, rfl, _⟩ := h
    rfl
  · obtain ⟨v, d, rfl, hd, q⟩ := h
    refine ⟨_, (PSs.nox (pss_cons (ps_if (pt_not (pt_val (pe_call (ok_is_pair T) hr (by rfl) T.g_is_pair T.F_is_pair.kp T.b_is_pair .nil pass0 (pa_cons (pv 0) pa_nil)))) (pss_one (ps_ret pe_bl)) pss_nil)
      (pss_cons (ps_asg (pv 0) (pg_tup (by rfl) (pgs_cons (pg_name (i := 1) sc_is_fraction.nd rfl (.inl rfl)) (pgs_cons (pg_name (i := 2) sc_is_fraction.nd rfl (.inl rfl)) pgs_nil))))
      (pss_cons (ps_if (PW.pt (pw_or (pt_not (pt_val (pe_call (ok_is_whole T) hr (by rfl) T.g_is_whole T.F_is_whole.kp T.b_is_whole .nil pass0 (pa_cons (pv 1) pa_nil)))) (pw_or (pt_not (pt_val (pe_call (ok_is_whole T) hr (by rfl) T.g_is_whole T.F_is_whole.kp T.b_is_whole .nil pass0 (pa_cons (pv 2) pa_nil)))) (pw_or1 (pt_cmpR op_lt (pv 2) pe_int (nomark _)))))) (pss_one (ps_ret pe_bl)) pss_nil)
      (pss_one (ps_ret (pe_cmpR op_eq (pe_call (ok_common_divisor T) hr (by rfl) T.g_common_divisor T.F_common_divisor.kp T.b_common_divisor .nil pass0 (pa_cons (pv 1) (pa_cons (pv 2) pa_nil))) pe_int (nomark _)))))))), ?_⟩
    refine ⟨v, rfl, v, d, rfl, hd, _, rfl, it2 (fun e => ?_) (fun e => ?_)⟩
    · have e : dPair d = false := by simpa using e
      rw [dFrac_pair e] at q
      exact q
    · have e : dPair d = true := by simpa using e
      obtain ⟨d1, d2, rfl⟩ := dPair_get e
      obtain ⟨a, xs, rfl, ha, hx⟩ := hd.tup_get
      cases hx with
      | @cons x1 _ _ _ h1 hx => cases hx with
        | @cons x2 _ _ _ h2 hx =>
          cases hx
          refine ⟨.ref a, rfl, a, [x1, x2], rfl, .inl (.inl ha), rfl, x1, [x2], rfl, x2, [], rfl, rfl, ?_⟩
          refine ⟨x1, rfl, x1, d1, rfl, h1, _, rfl, it2 (fun e1 => ?_) (fun e1 => ?_)⟩
          · have z : dFrac (.tuple [d1, d2]) = false := by
              cases d1 <;> first | rfl | exact nomatch e1
            rw [z] at q
            exact itT rfl q
          · have e1 : dWhole d1 = true := by simpa using e1
            obtain ⟨n, rfl⟩ := dWhole_get e1
            cases h1
            refine ⟨x2, rfl, x2, d2, rfl, h2, _, rfl, it2 (fun e2 => ?_) (fun e2 => ?_)⟩
            · have z : dFrac (.tuple [.int n, d2]) = false := by
                cases d2 <;> first | rfl | exact nomatch e2
              rw [z] at q
              exact itT rfl q
            · have e2 : dWhole d2 = true := by simpa using e2
              obtain ⟨m, rfl⟩ := dWhole_get e2
              cases h2
              refine ⟨_, rfl, m, 1, rfl, rfl, _, rfl, it2 (fun e3 => ?_) (fun e3 => ?_)⟩
              · have e3 : m < 1 := of_decide_eq_true e3
                have z : dFrac (.tuple [.int n, .int m]) = false := by
                  show (decide (1 ≤ m) && decide (Int.gcd n m = 1)) = false
                  rw [decide_eq_false (by omega)]
                  rfl
                rw [z] at q
                exact q
              · have e3 : ¬ m < 1 := of_decide_eq_false e3
                refine ⟨_, rfl, _, rfl, n, m, rfl, by omega, rfl, ?_⟩
                have z : dFrac (.tuple [.int n, .int m]) = decide (V.int ((Int.gcd n m : Nat) : Int) = V.int 1) := by
                  show (decide (1 ≤ m) && decide (Int.gcd n m = 1)) = _
                  rw [decide_eq_true (by omega), Bool.true_and, dI]
                  by_cases y : Int.gcd n m = 1
                  · rw [decide_eq_true y, decide_eq_true (by omega)]
                  · rw [decide_eq_false y, decide_eq_false (by omega)]
                rw [z] at q
                exact q
def sp_is_prime : Sp := fun vs H Q _ => ∃ v d, vs = [v] ∧ Dt H v d ∧ Q (.bl (dPrime d)) H
theorem primeB_out {n : Int} (h : n < 2 ∨ 1000 ≤ n) : primeB n = false := by
  cases e : primeB n with
  | false => rfl
  | true =>
    have := primeB_lo e
    omega
theorem ok_is_prime (T : Txt K mg base z) : FnOk P w K mg base CX0 2 z.a_is_prime z.d_is_prime ["thing"] (sp_is_prime) := by
  refine T.F_is_prime.ok sc_is_prime (fun vs H Q E h => ?_) (fun cdv A outer s H vs Q E hr h => ?_)
  · obtain ⟨v, d, rfl, _⟩ := h
    rfl
  · obtain ⟨v, d, rfl, hd, q⟩ := h
    refine ⟨_, (PSs.nox (pss_cons (ps_if (PW.pt (pw_or (pt_not (pt_val (pe_call (ok_is_whole T) hr (by rfl) T.g_is_whole T.F_is_whole.kp T.b_is_whole .nil pass0 (pa_cons (pv 0) pa_nil)))) (pw_or (pt_cmpR op_lt (pv 0) pe_int (nomark _)) (pw_or1 (pt_cmpR op_ge (pv 0) (pe_glob (v := .int 1000) (by rfl) T.c_PRIME_LIMIT ⟨_, rfl⟩) (nomark _)))))) (pss_one (ps_ret pe_bl)) pss_nil)
      (pss_cons (ps_set (i := 1) sc_is_prime.nd rfl (.inl rfl) pe_int)
      (pss_cons (ps_while PassesOwn.never (pt_cmpR op_le (pe_op op_mulW (pv 1) (pv 1)) (pv 0) (nomark _)) (pss_cons (ps_if (pt_cmpR op_eq (pe_op op_mod (pv 0) (pv 1)) pe_int (nomark _)) (pss_one (ps_ret pe_bl)) pss_nil)
      (pss_one (ps_aug (i := 1) sc_is_prime.nd rfl (.inl rfl) pe_int ip_add))))
      (pss_one (ps_ret pe_bl)))))), ?_⟩
    refine ⟨v, rfl, v, d, rfl, hd, _, rfl, it2 (fun e => ?_) (fun e => ?_)⟩
    · have z : dPrime d = false := by
        cases d <;> first | rfl | exact nomatch e
      rw [z] at q
      exact itT rfl q
    · have e : dWhole d = true := by simpa using e
      obtain ⟨n, rfl⟩ := dWhole_get e
      cases hd
      refine ⟨.int n, rfl, n, 2, rfl, rfl, _, rfl, it2 (fun e1 => ?_) (fun e1 => ?_)⟩
      · rw [show dPrime (.int n) = false from primeB_out (.inl (of_decide_eq_true e1))] at q
        exact itT rfl q
      · have e1 : ¬ n < 2 := of_decide_eq_false e1
        refine ⟨.int n, rfl, n, 1000, rfl, rfl, _, rfl, it2 (fun e2 => ?_) (fun e2 => ?_)⟩
        · rw [show dPrime (.int n) = false from primeB_out (.inr (of_decide_eq_true e2))] at q
          exact q
        · have e2 : ¬ (1000 : Int) ≤ n := of_decide_eq_false e2
          refine ⟨fun c σ H' => ∃ k : Int, σ = [some (.int n), some (.int k)] ∧ H' = H ∧ 2 ≤ k ∧ k ≤ 1000 ∧ (∀ j : Int, 2 ≤ j → j < k → n % j ≠ 0) ∧ c = (1000 - k).toNat, ⟨998, 2, rfl, rfl, by decide, by decide, fun j h1 h2 => by omega, rfl⟩, fun c σ H' hW => ?_⟩
          obtain ⟨k, rfl, rfl, k0, k1, hk, rfl⟩ := hW
          refine ⟨.int k, rfl, .int k, rfl, k, k, rfl, rfl, wide_mul (a := 20) (b := 20) (by omega) (by omega) (by decide) (by decide) (by decide), .int n, rfl, k * k, n, rfl, rfl, _, rfl, it2 (fun e3 => ?_) (fun e3 => ?_)⟩
          · have e3 : k * k ≤ n := of_decide_eq_true e3
            have hk2 : k < 1000 := by
              have : k * 2 ≤ k * k := Int.mul_le_mul_of_nonneg_left k0 (by omega)
              omega
            refine ⟨fun σ2 H2 => σ2 = [some (.int n), some (.int (k + 1))] ∧ H2 = H' ∧ n % k ≠ 0, fun σ2 H2 hn => ?_, ?_⟩
            · obtain ⟨rfl, rfl, hnk⟩ := hn
              refine ⟨(1000 - (k + 1)).toNat, by omega, k + 1, rfl, rfl, by omega, by omega, fun j h1 h2 => ?_, rfl⟩
              by_cases z : j = k
              · rw [z]
                exact hnk
              · exact hk j h1 (by omega)
            · refine ⟨.int n, rfl, .int k, rfl, n, k, rfl, rfl, (show 0 < k by omega), rfl, _, rfl, it2 (fun e4 => ?_) (fun e4 => ?_)⟩
              · rw [dI] at e4
                rw [show dPrime (.int n) = false from primeB_no k0 e3 (of_decide_eq_true e4)] at q
                exact q
              · rw [dI] at e4
                exact ⟨.int k, rfl, k, 1, rfl, rfl, rfl, rfl, of_decide_eq_false e4⟩
          · have e3 : ¬ k * k ≤ n := of_decide_eq_false e3
            rw [show dPrime (.int n) = true from primeB_yes (by omega) (by omega) k0 (by omega) hk] at q
            exact q
def sp_is_rest : Sp := fun vs H Q _ => ∃ v d p, vs = [v, .int p] ∧ Dt H v d ∧ Q (.bl (dRest p d)) H
theorem ok_is_rest (T : Txt K mg base z) : FnOk P w K mg base CX0 3 z.a_is_rest z.d_is_rest ["thing", "p"] (sp_is_rest) := by
  refine T.F_is_rest.ok sc_is_rest (fun vs H Q E h => ?_) (fun cdv A outer s H vs Q E hr h => ?_)
  · obtain ⟨v, d, p, rfl, _⟩ := h
    rfl
  · obtain ⟨v, d, p, rfl, hd, q⟩ := h
    refine ⟨_, (PSs.nox (pss_one (ps_ret (pe_or (pe_cmpR op_isN (pv 0) pe_non (nomark _)) (pe_one (pe_call (ok_is_whole_below T) hr (by rfl) T.g_is_whole_below T.F_is_whole_below.kp T.b_is_whole_below .nil pass0 (pa_cons (pv 0) (pa_cons (pv 1) pa_nil)))))))), ?_⟩
    refine ⟨v, rfl, rfl, _, rfl, ?_⟩
    rw [hd.non_iff]
    cases d with
    | none => exact itT rfl q
    | int r => exact itF rfl ⟨v, rfl, .int p, rfl, v, _, p, rfl, hd, q⟩
    | bool b => exact itF rfl ⟨v, rfl, .int p, rfl, v, _, p, rfl, hd, q⟩
    | str x => exact itF rfl ⟨v, rfl, .int p, rfl, v, _, p, rfl, hd, q⟩
    | list x => exact itF rfl ⟨v, rfl, .int p, rfl, v, _, p, rfl, hd, q⟩
    | tuple x => exact itF rfl ⟨v, rfl, .int p, rfl, v, _, p, rfl, hd, q⟩
    | dict x => exact itF rfl ⟨v, rfl, .int p, rfl, v, _, p, rfl, hd, q⟩
def sp_is_reading : Sp := fun vs H Q _ => ∃ v d, vs = [v] ∧ Dt H v d ∧ Q (.bl (dReading d)) H
theorem ok_is_reading (T : Txt K mg base z) : FnOk P w K mg base CX0 4 z.a_is_reading z.d_is_reading ["thing"] (sp_is_reading) := by
  refine T.F_is_reading.ok sc_is_reading (fun vs H Q E h => ?_) (fun cdv A outer s H vs Q E hr h => ?_)
  · obtain ⟨v, d, rfl, _⟩ := h
    rfl
  · obtain ⟨v, d, rfl, hd, q⟩ := h
    refine ⟨_, (PSs.nox (pss_one (ps_ret (pe_and (pe_call (ok_is_pair T) (hr.mono (by decide)) (by rfl) T.g_is_pair T.F_is_pair.kp T.b_is_pair .nil pass0 (pa_cons (pv 0) pa_nil)) (pe_and (pe_call (ok_is_prime T) (hr.mono (by decide)) (by rfl) T.g_is_prime T.F_is_prime.kp T.b_is_prime .nil pass0 (pa_cons (pe_ix (r := rIxT K) ix_tup (pv 0) pe_int (fun _ _ => rfl)) pa_nil)) (pe_one (pe_call (ok_is_rest T) hr (by rfl) T.g_is_rest T.F_is_rest.kp T.b_is_rest .nil pass0 (pa_cons (pe_ix (r := rIxT K) ix_tup (pv 0) pe_int (fun _ _ => rfl)) (pa_cons (pe_ix (r := rIxT K) ix_tup (pv 0) pe_int (fun _ _ => rfl)) pa_nil))))))))), ?_⟩
    refine ⟨v, rfl, v, d, rfl, hd, _, rfl, it2 (fun e => ?_) (fun e => ?_)⟩
    · obtain ⟨d1, d2, rfl⟩ := dPair_get e
      obtain ⟨a, xs, rfl, ha, hx⟩ := hd.tup_get
      cases hx with
      | @cons x1 _ _ _ h1 hx => cases hx with
        | @cons x2 _ _ _ h2 hx =>
          cases hx
          refine ⟨.ref a, rfl, a, _, 0, x1, rfl, rfl, st_of ha, rfl, x1, d1, rfl, h1, _, rfl, it2 (fun e1 => ?_) (fun e1 => ?_)⟩
          · obtain ⟨p, rfl⟩ : ∃ p, d1 = .int p := by
              cases d1 <;> first | exact ⟨_, rfl⟩ | exact nomatch e1
            cases h1
            refine ⟨.ref a, rfl, a, _, 1, x2, rfl, rfl, st_of ha, rfl, .ref a, rfl, a, _, 0, .int p, rfl, rfl, st_of ha, rfl, x2, d2, p, rfl, h2, ?_⟩
            have z : dReading (.tuple [.int p, d2]) = dRest p d2 := by
              show (dPrime (.int p) && dRest p d2) = _
              rw [e1]
              rfl
            rw [z] at q
            exact q
          · have z : dReading (.tuple [d1, d2]) = false := by
              show (dPrime d1 && _) = _
              rw [e1]
              rfl
            rw [z] at q
            exact q
    · rw [dReading_pair e] at q
      exact q
def sp_is_readings (P : Addr) : Sp := fun vs H Q _ => ∃ v d, vs = [v] ∧ Dt H v d ∧ H P = some (TabX P) ∧ ∀ H', Ex H H' → Q (.bl (dReadings d)) H'
theorem ok_is_readings (T : Txt K mg base z) : FnOk P w K mg base CX0 8 z.a_is_readings z.d_is_readings ["thing"] (sp_is_readings z.p_is_readings) := by
  refine okT T.F_is_readings T.cd_is_readings sc_is_readings (fun vs H Q E h => ?_) (fun A outer s H vs Q E hr h => ?_)
  · obtain ⟨v, d, rfl, _⟩ := h
    rfl
  · obtain ⟨v, d, rfl, hd, hP, q⟩ := h
    refine ⟨_, (PSs.nox (pss_cons (ps_if (PW.pt (pw_or (pt_not (pt_val (pe_callB (r := rIsi K) call_isi (by rfl) T.m_isinstance (by decide +kernel) (pa_cons (pv 0) (pa_cons (pe_bltn (v := .ty "list") (by rfl) T.m_list (by decide +kernel) rfl) pa_nil))))) (pw_or1 (pt_cmpR op_gt (pe_callB (r := rLenS K) call_len_seq (by rfl) T.m_len (by decide +kernel) (pa_cons (pv 0) pa_nil)) (pe_glob (v := .int 10) (by rfl) T.c_MOST_READINGS ⟨_, rfl⟩) (nomark _))))) (pss_one (ps_ret pe_bl)) pss_nil)
      (pss_cons (ps_if (pt_not (pt_val (pe_allZ (N := ["reading"]) (no := 1) (cap := []) (k := 4) hr (by rfl) T.m_all T.tb_is_readings rfl (genZ_of (by decide +kernel)) (pi_listK K (pv 0)) (by rfl) cap0 (fun _ _ _ _ _ hr => (pgz (i := 0) (by decide +kernel) (by rfl) (by rfl))) (fun _ _ _ _ _ hr => (pe_call (ok_is_reading T) hr (by rfl) T.g_is_reading T.F_is_reading.kp T.b_is_reading .nil pass0 (pa_cons (pv 0) pa_nil)))))) (pss_one (ps_ret pe_bl)) pss_nil)
      (pss_one (ps_ret (pe_cmpR op_eq (pe_callB (r := rLenO w) call_lenO (by rfl) T.m_len (by decide +kernel) (pa_cons (pe_scI (own := [("reading", 1)]) (by rfl) sc_is_readings.nd (pi_listK K (pv 0)) (blkOk_by (own := [("reading", 1)]) (N := N_is_readings) (sc := (defScope s_is_readings)) (by decide +kernel)) (fun _ _ _ _ _ => (pg_name (i := 1) sc_is_readings.nd rfl (.inl rfl))) (fun _ _ _ _ _ => (pe_ix (r := rIxT K) ix_tup (pv 1) pe_int (fun _ _ => rfl)))) pa_nil)) (pe_callB (r := rLenS K) call_len_seq (by rfl) T.m_len (by decide +kernel) (pa_cons (pv 0) pa_nil)) (nomark _))))))), ?_⟩
    have noL : dLst d = false → dReadings d = false := fun e => by
      cases d <;> first | rfl | exact nomatch e
    refine ⟨v, rfl, _, _, _, _, _, rfl, .ty _, (hd).ty, kit_ty ( kit_lst d), dLst d, rfl, ?_⟩
    cases hl : dLst d with
    | false =>
      rw [noL hl] at q
      exact itT rfl (itT rfl (q H (Ex.refl H)))
    | true =>
      obtain ⟨ds, rfl⟩ : ∃ ds, d = .list ds := by
        cases d <;> first | exact ⟨_, rfl⟩ | exact nomatch hl
      obtain ⟨a, xs, rfl, ha, hx⟩ := hd.lst_get
      have hlen := hx.len
      refine itF rfl ⟨.ref a, rfl, a, xs, rfl, .inl (sq_of ha), _, 10, rfl, rfl, _, rfl, it2 (fun e => ?_) (fun e => ?_)⟩
      · have e : (10 : Int) < xs.length := of_decide_eq_true e
        have z : dReadings (.list ds) = false := by
          show (decide (ds.length ≤ 10) && _) = false
          rw [decide_eq_false (by omega)]
          rfl
        rw [z] at q
        exact q H (Ex.refl H)
      · have e : ¬ (10 : Int) < xs.length := of_decide_eq_false e
        -- all(is_reading(reading) for reading in thing)
        have at_ : ∀ {i : Nat} {x : V}, xs[i]? = some x → Dt H x (ds.getD i .none) ∧ ds.getD i .none ∈ ds := fun {i x} hi => by
          obtain ⟨d, hd1, hd2⟩ := hx.get i hi
          rw [List.getD_eq_getElem?_getD, hd1]
          exact ⟨hd2, List.mem_of_getElem? hd1⟩
        refine ⟨.ref a, rfl, a, rfl, ⟨_, sq_of ha⟩, ds.length, (fun i => dReading (ds.getD i .none)), (fun σ => σ.length = 1), hP, rfl, fun i hi => ⟨xs, xs[i], sq_of ha, List.getElem?_eq_getElem (by omega)⟩, ⟨xs, sq_of ha, by omega⟩, fun i σ x H' hi hs hy => ?_, _, rfl, ?_⟩
        · obtain ⟨rfl, hy⟩ := hy
          have hxi := hy xs (sq_of ha)
          refine ⟨x, ?_, x, _, rfl, (at_ hxi).1, rfl, rfl, ?_⟩
          · match σ, hs with
            | [_], _ => rfl
          · show (σ.set 0 (some x)).length = 1
            rw [List.length_set]
            exact hs
        · rw [range_all]
          cases hal : ds.all dReading with
          | false =>
            have z : dReadings (.list ds) = false := by
              show (decide (ds.length ≤ 10) && (ds.all dReading && _)) = false
              rw [hal, Bool.false_and, Bool.and_false]
            rw [z] at q
            exact itT rfl (q H (Ex.refl H))
          | true =>
            refine itF rfl ?_
            have hall := List.all_eq_true.mp hal
            -- len({reading[0] for reading in thing}) == len(thing)
            refine ⟨.ref a, rfl, a, rfl, ⟨_, sq_of ha⟩, ds.length, fstAt ds, by omega, fun D hD => ⟨fun k hk => ?_, ?_⟩⟩
            · have eD : Ex H (upd H D (SetO w D (memD (fstAt ds) k) (cntD (fstAt ds) k))) := Ex.new hD
              refine ⟨⟨xs, sq_of (eD _ _ ha), by omega⟩, fun i hi => ⟨⟨xs, xs[i], sq_of (eD _ _ ha), List.getElem?_eq_getElem (by omega)⟩, fun x H2 hy => ?_⟩⟩
              obtain ⟨rfl, hy⟩ := hy
              have hxi := hy xs (sq_of (eD _ _ ha))
              obtain ⟨hdx, hmem⟩ := at_ hxi
              obtain ⟨p, e2, he2, _, _⟩ := dReading_get (hall _ hmem)
              have hfs : fstAt ds i = p := by
                unfold fstAt
                rw [he2]
                rfl
              rw [he2] at hdx
              obtain ⟨b, ys, rfl, hb, hys⟩ := hdx.tup_get
              obtain ⟨y1, y3, rfl⟩ : ∃ y1 y3, ys = [y1, y3] := by
                have hl2 := hys.len
                match ys, hl2 with
                | [y1, y3], _ => exact ⟨y1, y3, rfl⟩
              obtain rfl : y1 = .int p := by
                cases hys with
                | cons h1 _ => exact h1.int_eq
              refine ⟨rfl, .ref b, rfl, b, _, 0, .int p, rfl, rfl, st_of (eD _ _ hb), rfl, ?_, rfl⟩
              rw [hfs]
            · refine ⟨D, _, _, rfl, upd_same, ?_⟩
              have eD : Ex H (upd H D (SetO w D (memD (fstAt ds) ds.length) (cntD (fstAt ds) ds.length))) := Ex.new hD
              refine ⟨.ref a, rfl, a, xs, rfl, .inl (sq_of (eD _ _ ha)), rfl, ?_⟩
              have z : dReadings (.list ds) = decide (V.int (cntD (fstAt ds) ds.length : Int) = V.int (xs.length : Int)) := by
                show (decide (ds.length ≤ 10) && (ds.all dReading && decide (cntD (fstAt ds) ds.length = ds.length))) = _
                rw [hal, decide_eq_true (show ds.length ≤ 10 by omega), Bool.true_and, Bool.true_and, dI, Bool.eq_iff_iff, decide_eq_true_iff, decide_eq_true_iff]
                omega
              rw [z] at q
              exact q _ eD
def sp_need_readings (P : Addr) : Sp := fun vs H Q _ => ∃ v d, vs = [v] ∧ Dt H v d ∧ H P = some (TabX P) ∧ dReadings d = true ∧ ∀ H', Ex H H' → Q .non H'
theorem ok_need_readings (T : Txt K mg base z) : FnOk P w K mg base CX0 9 z.a_need_readings z.d_need_readings ["thing"] (sp_need_readings z.p_is_readings) := by
  refine T.F_need_readings.ok sc_need_readings (fun vs H Q E h => ?_) (fun cdv A outer s H vs Q E hr h => ?_)
  · obtain ⟨v, d, rfl, _⟩ := h
    rfl
  · obtain ⟨v, d, rfl, hd, hP, e, q⟩ := h
    refine ⟨_, (PSs.nox (pss_one (ps_if (pt_not (pt_val (pe_call (ok_is_readings T) hr (by rfl) T.g_is_readings T.F_is_readings.kp T.b_is_readings .nil pass0 (pa_cons (pv 0) pa_nil)))) (pss_one (ps_never)) pss_nil))), ?_⟩
    refine ⟨v, rfl, v, d, rfl, hd, hP, fun H' e' => ⟨_, rfl, ?_⟩⟩
    rw [e]
    exact itF rfl (q H' e')
def spX_need_readings (C P : Addr) : Sp := fun vs H Q E => ∃ v d, vs = [v] ∧ Dt H v d ∧ H P = some (TabX P) ∧ (dReadings d = true → ∀ H', Ex H H' → Q .non H') ∧ (dReadings d = false → ∀ H', Ex H H' → E (.ref C) none H')
theorem okX_need_readings (T : Txt K mg base z) : FnOk P w K mg base (L2.CX P w) 9 z.a_need_readings z.d_need_readings ["thing"] (spX_need_readings z.k_NoReadings z.p_is_readings) := by
  refine T.F_need_readings.ok (CX := L2.CX P w) sc_need_readings (fun vs H Q E h => ?_) (fun cdv A outer s H vs Q E hr h => ?_)
  · obtain ⟨v, d, rfl, _⟩ := h
    rfl
  · obtain ⟨v, d, rfl, hd, hP, q1, q2⟩ := h
    refine ⟨_, (pss_one (ps_if (pt_not (pt_val (pe_call (ok_is_readings T) hr (by rfl) T.g_is_readings T.F_is_readings.kp T.b_is_readings .nil pass0 (pa_cons (pv 0) pa_nil)))) (pss_one (ps_raiseX rfl takes_cx T.x_NoReadings T.k_NoReadings (by rfl) pe_str)) pss_nil)), ?_⟩
    refine ⟨v, rfl, v, d, rfl, hd, hP, fun H1 e1 => ⟨_, rfl, ?_⟩⟩
    cases e : dReadings d with
    | true => exact itF rfl (q1 e H1 e1)
    | false => exact itT rfl (q2 e H1 e1)
def sp_keeps : Sp := fun vs H Q _ => ∃ (v w : V) (t b p : Int) (e : Option Int), vs = [v, w] ∧ Dt H v (.tuple [.int t, .int b]) ∧ Dt H w (.tuple [.int p, oD e]) ∧ b.natAbs < 2 ^ 250 ∧ primeB p = true ∧ (∀ r, e = some r → 0 ≤ r ∧ r < p) ∧ Q (.bl (keepsB t b p e)) H
theorem ok_keeps (T : Txt K mg base z) : FnOk P w K mg base CX0 1 z.a_keeps z.d_keeps ["f", "reading"] (sp_keeps) := by
  refine T.F_keeps.ok sc_keeps (fun vs H Q E h => ?_) (fun cdv A outer s H vs Q E hr h => ?_)
  · obtain ⟨v, w, t, b, p, e, rfl, _⟩ := h
    rfl
  · obtain ⟨v, w, t, b, p, e, rfl, hv, hw, hbs, hp, he, q⟩ := h
    obtain ⟨a, xs, rfl, ha, hx⟩ := hv.tup_get
    have ex := DtAll.ints_eq [t, b] hx
    subst ex
    have lo := primeB_lo hp
    obtain ⟨c, ys, rfl, hc, hys⟩ := hw.tup_get
    obtain rfl : ys = [.int p, oV e] := by
      cases hys with
      | cons h1 hys => cases hys with
        | cons h2 hys =>
          cases hys
          cases h1
          rw [h2.o_get]
    refine ⟨_, (PSs.nox (pss_cons (ps_asg (pv 0) (pg_tup (by rfl) (pgs_cons (pg_name (i := 2) sc_keeps.nd rfl (.inl rfl)) (pgs_cons (pg_name (i := 3) sc_keeps.nd rfl (.inl rfl)) pgs_nil))))
      (pss_cons (ps_asg (pv 1) (pg_tup (by rfl) (pgs_cons (pg_name (i := 4) sc_keeps.nd rfl (.inl rfl)) (pgs_cons (pg_name (i := 5) sc_keeps.nd rfl (.inl rfl)) pgs_nil))))
      (pss_cons (ps_if (pt_cmpR op_isN (pv 5) pe_non (nomark _)) (pss_one (ps_ret (pe_cmpR op_eq (pe_op op_mod (pv 3) (pv 4)) pe_int (nomark _)))) pss_nil)
      (pss_one (ps_ret (pe_cmpR op_eq (pe_op op_mod (pe_op op_sub (pe_op op_mulW (pv 5) (pv 3)) (pv 2)) (pv 4)) pe_int (nomark _)))))))), ?_⟩
    refine ⟨.ref a, rfl, a, _, rfl, .inl (.inl ha), rfl, .int t, [.int b], rfl, .int b, [], rfl, rfl, ?_⟩
    refine ⟨.ref c, rfl, c, _, rfl, .inl (.inl hc), rfl, .int p, [oV e], rfl, oV e, [], rfl, rfl, ?_⟩
    refine ⟨oV e, rfl, rfl, _, rfl, ?_⟩
    cases e with
    | none =>
      refine itT rfl ⟨.int b, rfl, .int p, rfl, b, p, rfl, rfl, (show 0 < p by omega), rfl, ?_⟩
      rw [dI]
      exact q
    | some r =>
      obtain ⟨r0, r1⟩ := he r rfl
      refine itF rfl ⟨.int r, rfl, .int b, rfl, r, b, rfl, rfl, wide_mul (a := 20) (b := 250) (by omega) hbs (by decide) (by decide) (by decide), .int t, rfl, _, _, rfl, rfl, .int p, rfl, _, _, rfl, rfl, (show 0 < p by omega), rfl, ?_⟩
      rw [dI]
      exact q
def allK (t b : Int) (l : List (Int × Option Int)) : Bool := l.all fun q => keepsB t b q.1 q.2
theorem rangeN_all {l : List (Int × Option Int)} (f : Int × Option Int → Bool) : opAll (fun i => f (l.getD i (0, none))) l.length = l.all f := by
  unfold opAll
  rw [Bool.eq_iff_iff, List.all_eq_true, List.all_eq_true]
  constructor
  · intro h d hd
    obtain ⟨i, hi, e⟩ := List.getElem_of_mem hd
    have := h i (List.mem_range.mpr hi)
    rw [List.getD_eq_getElem?_getD, List.getElem?_eq_getElem hi] at this
    rw [← e]
    exact this
  · intro h i hi
    have hi := List.mem_range.mp hi
    rw [List.getD_eq_getElem?_getD, List.getElem?_eq_getElem hi]
    exact h _ (List.getElem_mem hi)
def sp_keeps_all (P : Addr) : Sp := fun vs H Q _ => ∃ (v w : V) (t b : Int) (l : List (Int × Option Int)), vs = [v, w] ∧ Dt H v (.tuple [.int t, .int b]) ∧ b.natAbs < 2 ^ 250 ∧ Dt H w (.list (rdN l)) ∧ RdN l ∧ H P = some (TabX P) ∧ Q (.bl (allK t b l)) H
theorem ok_keeps_all (T : Txt K mg base z) : FnOk P w K mg base CX0 5 z.a_keeps_all z.d_keeps_all ["f", "readings"] (sp_keeps_all z.p_keeps_all) := by
  refine okT T.F_keeps_all T.cd_keeps_all sc_keeps_all (fun vs H Q E h => ?_) (fun A outer s H vs Q E hr h => ?_)
  · obtain ⟨v, w, t, b, l, rfl, _⟩ := h
    rfl
  · obtain ⟨v, w, t, b, l, rfl, hv, hbs, hw, hR, hP, q⟩ := h
    obtain ⟨a, xs, rfl, ha, hx⟩ := hw.lst_get
    have hlen : xs.length = l.length := by
      rw [hx.len]
      exact List.length_map ..
    refine ⟨_, (PSs.nox (pss_one (ps_ret (pe_allZ (N := ["reading", "f"]) (no := 1) (cap := [0]) (k := 1) hr (by rfl) T.m_all T.tb_keeps_all rfl (genZ_cap (by decide +kernel)) (pi_listK K (pv 1)) (by rfl) (capsOf (XN := N_keeps_all) (by decide +kernel)) (fun _ _ _ _ _ hr => (pgz (i := 0) (by decide +kernel) (by rfl) (by rfl))) (fun _ _ _ _ _ hr => (pe_call (ok_keeps T) hr (by rfl) T.g_keeps T.F_keeps.kp T.b_keeps .nil pass0 (pa_cons (pv 1) (pa_cons (pv 0) pa_nil)))))))), ?_⟩
    refine ⟨.ref a, rfl, a, rfl, ⟨_, sq_of ha⟩, l.length, (fun i => keepsB t b (l.getD i (0, none)).1 (l.getD i (0, none)).2), (fun σ => ∃ y, σ = [y, some v]), hP, ⟨_, rfl⟩, fun i hi => ⟨xs, xs[i], sq_of ha, List.getElem?_eq_getElem (by omega)⟩, ⟨xs, sq_of ha, by omega⟩, fun i σ x H' hi hs hy => ?_, ?_⟩
    · obtain ⟨rfl, hy⟩ := hy
      have hxi := hy xs (sq_of ha)
      obtain ⟨y, rfl⟩ := hs
      obtain ⟨c, cb, hc, rfl, hcb⟩ := rdN_get hx hxi
      obtain ⟨pP, hce⟩ := hR.ok c (List.mem_of_getElem? hc)
      have hcg : l.getD i (0, none) = c := by
        rw [List.getD_eq_getElem?_getD, hc]
        rfl
      exact ⟨v, rfl, .ref cb, rfl, v, .ref cb, t, b, c.1, c.2, rfl, hv, .tup hcb (.cons (.int _) (.cons (.o _) .nil)), hbs, pP, hce, (by show V.bl _ = V.bl (keepsB t b (l.getD i (0, none)).1 (l.getD i (0, none)).2); rw [hcg]), rfl, ⟨_, rfl⟩⟩
    · rw [rangeN_all fun q => keepsB t b q.1 q.2]
      exact q
def sp_is_bounds : Sp := fun vs H Q _ => ∃ v d, vs = [v] ∧ Dt H v d ∧ Q (.bl (dBounds d)) H
theorem ok_is_bounds (T : Txt K mg base z) : FnOk P w K mg base CX0 2 z.a_is_bounds z.d_is_bounds ["thing"] (sp_is_bounds) := by
  refine T.F_is_bounds.ok sc_is_bounds (fun vs H Q E h => ?_) (fun cdv A outer s H vs Q E hr h => ?_)
  · obtain ⟨v, d, rfl, _⟩ := h
    rfl
  · obtain ⟨v, d, rfl, hd, q⟩ := h
    refine ⟨_, (PSs.nox (pss_cons (ps_if (pt_not (pt_val (pe_call (ok_is_pair T) hr (by rfl) T.g_is_pair T.F_is_pair.kp T.b_is_pair .nil pass0 (pa_cons (pv 0) pa_nil)))) (pss_one (ps_ret pe_bl)) pss_nil)
      (pss_cons (ps_asg (pv 0) (pg_tup (by rfl) (pgs_cons (pg_name (i := 1) sc_is_bounds.nd rfl (.inl rfl)) (pgs_cons (pg_name (i := 2) sc_is_bounds.nd rfl (.inl rfl)) pgs_nil))))
      (pss_one (ps_ret (pe_and (pe_call (ok_is_whole T) hr (by rfl) T.g_is_whole T.F_is_whole.kp T.b_is_whole .nil pass0 (pa_cons (pv 1) pa_nil)) (pe_and (pe_call (ok_is_whole T) hr (by rfl) T.g_is_whole T.F_is_whole.kp T.b_is_whole .nil pass0 (pa_cons (pv 2) pa_nil)) (pe_and (pe_cmpR op_ge (pv 1) pe_int (nomark _)) (pe_one (pe_cmpR op_ge (pv 2) pe_int (nomark _))))))))))), ?_⟩
    refine ⟨v, rfl, v, d, rfl, hd, _, rfl, it2 (fun e => ?_) (fun e => ?_)⟩
    · have e : dPair d = false := by simpa using e
      rw [dBounds_pair e] at q
      exact q
    · have e : dPair d = true := by simpa using e
      obtain ⟨d1, d2, rfl⟩ := dPair_get e
      obtain ⟨a, xs, rfl, ha, hx⟩ := hd.tup_get
      cases hx with
      | @cons x1 _ _ _ h1 hx => cases hx with
        | @cons x2 _ _ _ h2 hx =>
          cases hx
          refine ⟨.ref a, rfl, a, [x1, x2], rfl, .inl (.inl ha), rfl, x1, [x2], rfl, x2, [], rfl, rfl, ?_⟩
          refine ⟨x1, rfl, x1, d1, rfl, h1, _, rfl, it2 (fun e1 => ?_) (fun e1 => ?_)⟩
          · obtain ⟨n, rfl⟩ := dWhole_get e1
            cases h1
            refine ⟨x2, rfl, x2, d2, rfl, h2, _, rfl, it2 (fun e2 => ?_) (fun e2 => ?_)⟩
            · obtain ⟨m, rfl⟩ := dWhole_get e2
              cases h2
              refine ⟨_, rfl, n, 0, rfl, rfl, _, rfl, it2 (fun e3 => ?_) (fun e3 => ?_)⟩
              · refine ⟨_, rfl, m, 1, rfl, rfl, ?_⟩
                have z : dBounds (.tuple [.int n, .int m]) = decide ((1 : Int) ≤ m) := by
                  show (decide (0 ≤ n) && decide (1 ≤ m)) = _
                  rw [e3]
                  rfl
                rw [z] at q
                exact q
              · have z : dBounds (.tuple [.int n, .int m]) = false := by
                  show (decide (0 ≤ n) && decide (1 ≤ m)) = _
                  rw [e3]
                  rfl
                rw [z] at q
                exact q
            · have z : dBounds (.tuple [.int n, d2]) = false := by
                cases d2 <;> first | rfl | exact nomatch e2
              rw [z] at q
              exact q
          · have z : dBounds (.tuple [d1, d2]) = false := by
              cases d1 <;> first | rfl | exact nomatch e1
            rw [z] at q
            exact q
def sp_is_bounds_up_to : Sp := fun vs H Q _ => ∃ v d m, vs = [v, .int m] ∧ Dt H v d ∧ Q (.bl (dBoundsTo m d)) H
theorem ok_is_bounds_up_to (T : Txt K mg base z) : FnOk P w K mg base CX0 3 z.a_is_bounds_up_to z.d_is_bounds_up_to ["thing", "most"] (sp_is_bounds_up_to) := by
  refine T.F_is_bounds_up_to.ok sc_is_bounds_up_to (fun vs H Q E h => ?_) (fun cdv A outer s H vs Q E hr h => ?_)
  · obtain ⟨v, d, m, rfl, _⟩ := h
    rfl
  · obtain ⟨v, d, m, rfl, hd, q⟩ := h
    refine ⟨_, (PSs.nox (pss_one (ps_ret (pe_and (pe_call (ok_is_bounds T) hr (by rfl) T.g_is_bounds T.F_is_bounds.kp T.b_is_bounds .nil pass0 (pa_cons (pv 0) pa_nil)) (pe_and (pe_cmpR op_le (pe_ix (r := rIxT K) ix_tup (pv 0) pe_int (fun _ _ => rfl)) (pv 1) (nomark _)) (pe_one (pe_cmpR op_le (pe_ix (r := rIxT K) ix_tup (pv 0) pe_int (fun _ _ => rfl)) (pv 1) (nomark _)))))))), ?_⟩
    refine ⟨v, rfl, v, d, rfl, hd, _, rfl, it2 (fun e => ?_) (fun e => ?_)⟩
    · obtain ⟨n, k, rfl, h1, h2⟩ := dBounds_get e
      obtain ⟨a, xs, rfl, ha, hx⟩ := hd.tup_get
      have ex := DtAll.ints_eq [n, k] hx
      subst ex
      refine ⟨.ref a, rfl, a, [.int n, .int k], 0, .int n, rfl, rfl, .inl (.inl ha), rfl, .int m, rfl, n, m, rfl, rfl, _, rfl, it2 (fun e1 => ?_) (fun e1 => ?_)⟩
      · refine ⟨.ref a, rfl, a, [.int n, .int k], 1, .int k, rfl, rfl, .inl (.inl ha), rfl, .int m, rfl, k, m, rfl, rfl, ?_⟩
        have z : dBoundsTo m (.tuple [.int n, .int k]) = decide (k ≤ m) := by
          show (decide (0 ≤ n) && decide (1 ≤ k) && decide (n ≤ m) && decide (k ≤ m)) = _
          rw [decide_eq_true h1, decide_eq_true h2, e1]
          rfl
        rw [z] at q
        exact q
      · have z : dBoundsTo m (.tuple [.int n, .int k]) = false := by
          show (decide (0 ≤ n) && decide (1 ≤ k) && decide (n ≤ m) && decide (k ≤ m)) = _
          rw [decide_eq_true h1, decide_eq_true h2, e1]
          rfl
        rw [z] at q
        exact q
    · rw [dBoundsTo_no e] at q
      exact q
def sp_need_bounds : Sp := fun vs H Q _ => ∃ v d, vs = [v] ∧ Dt H v d ∧ dBounds d = true ∧ Q .non H
theorem ok_need_bounds (T : Txt K mg base z) : FnOk P w K mg base CX0 3 z.a_need_bounds z.d_need_bounds ["thing"] (sp_need_bounds) := by
  refine T.F_need_bounds.ok sc_need_bounds (fun vs H Q E h => ?_) (fun cdv A outer s H vs Q E hr h => ?_)
  · obtain ⟨v, d, rfl, _⟩ := h
    rfl
  · obtain ⟨v, d, rfl, hd, e, q⟩ := h
    refine ⟨_, (PSs.nox (pss_one (ps_if (pt_not (pt_val (pe_call (ok_is_bounds T) hr (by rfl) T.g_is_bounds T.F_is_bounds.kp T.b_is_bounds .nil pass0 (pa_cons (pv 0) pa_nil)))) (pss_one (ps_never)) pss_nil))), ?_⟩
    refine ⟨v, rfl, v, d, rfl, hd, _, rfl, ?_⟩
    rw [e]
    exact itF rfl q
def spX_need_bounds (C : Addr) : Sp := fun vs H Q E => ∃ v d, vs = [v] ∧ Dt H v d ∧ (dBounds d = true → Q .non H) ∧ (dBounds d = false → E (.ref C) none H)
theorem okX_need_bounds (T : Txt K mg base z) : FnOk P w K mg base (L2.CX P w) 3 z.a_need_bounds z.d_need_bounds ["thing"] (spX_need_bounds z.k_NoBounds) := by
  refine T.F_need_bounds.ok (CX := L2.CX P w) sc_need_bounds (fun vs H Q E h => ?_) (fun cdv A outer s H vs Q E hr h => ?_)
  · obtain ⟨v, d, rfl, _⟩ := h
    rfl
  · obtain ⟨v, d, rfl, hd, q1, q2⟩ := h
    refine ⟨_, (pss_one (ps_if (pt_not (pt_val (pe_call (ok_is_bounds T) hr (by rfl) T.g_is_bounds T.F_is_bounds.kp T.b_is_bounds .nil pass0 (pa_cons (pv 0) pa_nil)))) (pss_one (ps_raiseX rfl takes_cx T.x_NoBounds T.k_NoBounds (by rfl) pe_str)) pss_nil)), ?_⟩
    refine ⟨v, rfl, v, d, rfl, hd, _, rfl, ?_⟩
    cases e : dBounds d with
    | true => exact itF rfl (q1 e)
    | false => exact itT rfl (q2 e)
def sp_need_bounds_up_to : Sp := fun vs H Q _ => ∃ v d m, vs = [v, .int m] ∧ Dt H v d ∧ dBoundsTo m d = true ∧ Q .non H
theorem ok_need_bounds_up_to (T : Txt K mg base z) : FnOk P w K mg base CX0 4 z.a_need_bounds_up_to z.d_need_bounds_up_to ["thing", "most"] (sp_need_bounds_up_to) := by
  refine T.F_need_bounds_up_to.ok sc_need_bounds_up_to (fun vs H Q E h => ?_) (fun cdv A outer s H vs Q E hr h => ?_)
  · obtain ⟨v, d, m, rfl, _⟩ := h
    rfl
  · obtain ⟨v, d, m, rfl, hd, e, q⟩ := h
    refine ⟨_, (PSs.nox (pss_one (ps_if (pt_not (pt_val (pe_call (ok_is_bounds_up_to T) hr (by rfl) T.g_is_bounds_up_to T.F_is_bounds_up_to.kp T.b_is_bounds_up_to .nil pass0 (pa_cons (pv 0) (pa_cons (pv 1) pa_nil))))) (pss_one (ps_never)) pss_nil))), ?_⟩
    refine ⟨v, rfl, .int m, rfl, v, d, m, rfl, hd, _, rfl, ?_⟩
    rw [e]
    exact itF rfl q
def spX_need_bounds_up_to (C : Addr) : Sp := fun vs H Q E => ∃ v d, vs = [v, .int 60] ∧ Dt H v d ∧ (dBoundsTo 60 d = true → Q .non H) ∧ (dBoundsTo 60 d = false → E (.ref C) none H)
theorem okX_need_bounds_up_to (T : Txt K mg base z) : FnOk P w K mg base (L2.CX P w) 4 z.a_need_bounds_up_to z.d_need_bounds_up_to ["thing", "most"] (spX_need_bounds_up_to z.k_NoBounds) := by
  refine T.F_need_bounds_up_to.ok (CX := L2.CX P w) sc_need_bounds_up_to (fun vs H Q E h => ?_) (fun cdv A outer s H vs Q E hr h => ?_)
  · obtain ⟨v, d, rfl, _⟩ := h
    rfl
  · obtain ⟨v, d, rfl, hd, q1, q2⟩ := h
    refine ⟨_, (pss_one (ps_if (pt_not (pt_val (pe_call (ok_is_bounds_up_to T) hr (by rfl) T.g_is_bounds_up_to T.F_is_bounds_up_to.kp T.b_is_bounds_up_to .nil pass0 (pa_cons (pv 0) (pa_cons (pv 1) pa_nil))))) (pss_one (ps_raiseX rfl takes_cx T.x_NoBounds T.k_NoBounds (by rfl) (pe_joined (.cons pe_str (.cons (pe_fmt (pv 1)) .nil))))) pss_nil)), ?_⟩
    refine ⟨v, rfl, .int 60, rfl, v, d, 60, rfl, hd, _, rfl, ?_⟩
    cases e : dBoundsTo 60 d with
    | true => exact itF rfl (q1 e)
    | false => exact itT rfl ⟨_, rfl, sz_of (by decide +kernel), .int 60, rfl, .inr ⟨60, rfl, by decide +kernel, _, rfl, sz_of (by decide +kernel), q2 e⟩⟩
def withinB (n d t b : Int) : Bool := decide (-n ≤ t) && decide (t ≤ n) && decide (b ≤ d)
theorem withinB_iff {n d t b : Int} : withinB n d t b = true ↔ -n ≤ t ∧ t ≤ n ∧ b ≤ d := by
  unfold withinB
  rw [Bool.and_eq_true, Bool.and_eq_true, decide_eq_true_iff, decide_eq_true_iff, decide_eq_true_iff, and_assoc]
def sp_is_within : Sp := fun vs H Q _ => ∃ (v w : V) (t b n d : Int), vs = [v, w] ∧ Dt H v (.tuple [.int t, .int b]) ∧ Dt H w (.tuple [.int n, .int d]) ∧ Q (.bl (withinB n d t b)) H
theorem ok_is_within (T : Txt K mg base z) : FnOk P w K mg base CX0 1 z.a_is_within z.d_is_within ["f", "bounds"] (sp_is_within) := by
  refine T.F_is_within.ok sc_is_within (fun vs H Q E h => ?_) (fun cdv A outer s H vs Q E hr h => ?_)
  · obtain ⟨v, w, t, b, n, d, rfl, _⟩ := h
    rfl
  · obtain ⟨v, w, t, b, n, d, rfl, hv, hw, q⟩ := h
    refine ⟨_, (PSs.nox (pss_cons (ps_asg (pv 0) (pg_tup (by rfl) (pgs_cons (pg_name (i := 2) sc_is_within.nd rfl (.inl rfl)) (pgs_cons (pg_name (i := 3) sc_is_within.nd rfl (.inl rfl)) pgs_nil))))
      (pss_cons (ps_asg (pv 1) (pg_tup (by rfl) (pgs_cons (pg_name (i := 4) sc_is_within.nd rfl (.inl rfl)) (pgs_cons (pg_name (i := 5) sc_is_within.nd rfl (.inl rfl)) pgs_nil))))
      (pss_one (ps_ret (pe_and (pe_chain op_le op_le (pe_un un_neg (pv 4)) (pv 2) (pv 4)) (pe_one (pe_cmpR op_le (pv 3) (pv 5) (nomark _))))))))), ?_⟩
    obtain ⟨a, xs, rfl, ha, hx⟩ := hv.tup_get
    have ex := DtAll.ints_eq [t, b] hx
    subst ex
    obtain ⟨c, ys, rfl, hc, hy⟩ := hw.tup_get
    have ey := DtAll.ints_eq [n, d] hy
    subst ey
    refine ⟨.ref a, rfl, a, _, rfl, .inl (.inl ha), rfl, .int t, [.int b], rfl, .int b, [], rfl, rfl, ?_⟩
    refine ⟨.ref c, rfl, c, _, rfl, .inl (.inl hc), rfl, .int n, [.int d], rfl, .int d, [], rfl, rfl, ?_⟩
    refine ⟨.int n, rfl, n, rfl, .int t, rfl, -n, t, rfl, rfl, _, rfl, it2 (fun e => ?_) (fun e => ?_)⟩
    · refine ⟨.int n, rfl, t, n, rfl, rfl, _, rfl, it2 (fun e2 => ?_) (fun e2 => ?_)⟩
      · refine ⟨.int b, rfl, .int d, rfl, b, d, rfl, rfl, ?_⟩
        have z : withinB n d t b = decide (b ≤ d) := by
          unfold withinB
          rw [e, e2]
          rfl
        rw [z] at q
        exact q
      · have z : withinB n d t b = false := by
          unfold withinB
          rw [e, e2]
          rfl
        rw [z] at q
        exact q
    · have z : withinB n d t b = false := by
        unfold withinB
        rw [e]
        rfl
      rw [z] at q
      exact ⟨false, rfl, itF rfl q⟩
def sp_all_within : Sp := fun vs H Q _ => ∃ (v : V) (n d : Int), vs = [v] ∧ Dt H v (.tuple [.int n, .int d]) ∧ 0 ≤ n ∧ n ≤ 60 ∧ 1 ≤ d ∧ d ≤ 60 ∧
  ∀ p H', H p = none → Ex H H' → AccL H' p (frows n d.toNat) → Q (.ref p) H'
theorem ok_all_within (T : Txt K mg base z) : FnOk P w K mg base CX0 5 z.a_all_within z.d_all_within ["bounds"] (sp_all_within) := by
  refine T.F_all_within.ok sc_all_within (fun vs H Q E h => ?_) (fun cdv A outer s H vs Q E hr h => ?_)
  · obtain ⟨v, n, d, rfl, _⟩ := h
    rfl
  · obtain ⟨v, n, d, rfl, hd, n0, n1, d0, d1, q⟩ := h
    have hb : dBoundsTo 60 (.tuple [.int n, .int d]) = true := by
      show (decide (0 ≤ n) && decide (1 ≤ d) && decide (n ≤ 60) && decide (d ≤ 60)) = true
      rw [decide_eq_true n0, decide_eq_true n1, decide_eq_true d0, decide_eq_true d1]
      rfl
    obtain ⟨a, xs, rfl, ha, hx⟩ := hd.tup_get
    have ex := DtAll.ints_eq [n, d] hx
    subst ex
    refine ⟨_, (PSs.nox (pss_cons (ps_expr (pe_call (ok_need_bounds_up_to T) hr (by rfl) T.g_need_bounds_up_to T.F_need_bounds_up_to.kp T.b_need_bounds_up_to .nil pass0 (pa_cons (pv 0) (pa_cons (pe_glob (v := .int 60) (by rfl) T.c_SMALL_BOUND ⟨_, rfl⟩) pa_nil))))
      (pss_cons (ps_asg (pv 0) (pg_tup (by rfl) (pgs_cons (pg_name (i := 1) sc_all_within.nd rfl (.inr rfl)) (pgs_cons (pg_name (i := 2) sc_all_within.nd rfl (.inl rfl)) pgs_nil))))
      (pss_one (ps_ret (pe_lc2 (own := [("bottom", 3), ("top", 4)]) (vs1 := [4]) (by rfl) sc_all_within.nd (pi_range2 (by rfl) T.m_range (pa_cons pe_int (pa_cons (pe_op op_add (pv 2) pe_int) pa_nil))) (blkOk_by (own := [("bottom", 3), ("top", 4)]) (N := N_all_within) (sc := (defScope s_all_within)) (by decide +kernel)) (by decide) (fun _ _ _ _ _ => (pg_name (i := 3) sc_all_within.nd rfl (.inl rfl))) (fun _ _ _ _ _ => pts_nil) (fun _ _ _ _ _ => (pi_range2 (by rfl) T.m_range (pa_cons (pe_un un_neg (pv 1)) (pa_cons (pe_op op_add (pv 1) pe_int) pa_nil)))) (fun _ _ _ _ _ => (pg_name (i := 4) sc_all_within.nd rfl (.inl rfl))) (fun _ _ _ _ _ => (pts_one (pt_cmpR op_eq (pe_call (ok_common_divisor T) (hr.mono (by decide)) (by rfl) T.g_common_divisor T.F_common_divisor.kp T.b_common_divisor .nil pass0 (pa_cons (pv 4) (pa_cons (pv 3) pa_nil))) pe_int (nomark _)))) (fun _ _ _ _ _ => (pe_tup (pa_cons (pv 4) (pa_cons (pv 3) pa_nil)))))))))), ?_⟩
    refine ⟨.ref a, rfl, .ref a, _, 60, rfl, hd, hb, ?_⟩
    refine ⟨.ref a, rfl, a, _, rfl, .inl (.inl ha), rfl, .int n, [.int d], rfl, .int d, [], rfl, rfl, ?_⟩
    refine ⟨.int d, rfl, d, 1, rfl, rfl, 1, d + 1, rfl, ⟨by decide, by decide, by omega, by omega⟩, fun D hD => ?_⟩
    refine ⟨fun i m H' => i + m = d.toNat ∧ Ex H H' ∧ AccL H' D (frows n i), ⟨d.toNat, by omega, Ex.new hD, AccL.new⟩, fun i m H1 hW => ?_⟩
    obtain ⟨em, e1, a1⟩ := hW
    by_cases hi : i < d.toNat
    · refine .inr ⟨(show i < (d + 1 - 1).toNat by omega), fun H' => Ex H H' ∧ AccL H' D (frows n (i + 1)), fun H' hN => ⟨m - 1, by omega, by omega, hN.1, hN.2⟩, fun x H' hy => ?_⟩
      obtain ⟨rfl, rfl⟩ := hy
      refine ⟨rfl, .int n, rfl, n, rfl, .int n, rfl, n, 1, rfl, rfl, -n, n + 1, rfl, ⟨by omega, by omega, by omega, by omega⟩, ?_⟩
      refine ⟨fun j k H' => j + k = (2 * n + 1).toNat ∧ Ex H H' ∧ AccL H' D (frows n i ++ frow n (1 + (i : Int)) j), ⟨(2 * n + 1).toNat, by omega, e1, ?_⟩, fun j k H2 hV => ?_⟩
      · show AccL H' D (frows n i ++ [])
        rw [List.append_nil]
        exact a1
      · obtain ⟨ek, e2, a2⟩ := hV
        by_cases hj : j < (2 * n + 1).toNat
        · refine .inr ⟨(show j < (n + 1 - -n).toNat by omega), fun H' => Ex H H' ∧ AccL H' D (frows n i ++ frow n (1 + (i : Int)) (j + 1)), fun H' hN => ⟨k - 1, by omega, by omega, hN.1, hN.2⟩, fun x H' hy => ?_⟩
          obtain ⟨rfl, rfl⟩ := hy
          refine ⟨rfl, .int (-n + (j : Int)), rfl, .int (1 + (i : Int)), rfl, -n + (j : Int), 1 + (i : Int), rfl, by omega, rfl, _, rfl, it2 (fun e => ?_) (fun e => ?_)⟩
          · rw [dI] at e
            have e : ((Int.gcd (-n + (j : Int)) (1 + (i : Int)) : Nat) : Int) = 1 := of_decide_eq_true e
            have e : decide (Int.gcd (-n + (j : Int)) (1 + (i : Int)) = 1) = true := decide_eq_true (by omega)
            refine ⟨.int (-n + (j : Int)), rfl, .int (1 + (i : Int)), rfl, sz_of (Nat.le_of_ble_eq_true rfl), fun p hp => ?_⟩
            have e3 : Ex H' (upd H' p (.tup [.int (-n + (j : Int)), .int (1 + (i : Int))])) := Ex.new hp
            obtain ⟨acc, h1, h2, h3⟩ := a2.app (v := .ref p) (d := .tuple [.int (-n + (j : Int)), .int (1 + (i : Int))]) e3 (.tup upd_same (.cons (.int _) (.cons (.int _) .nil))) rfl
            refine ⟨acc, h1, ?_, ?_, ?_⟩
            · rw [h2, List.length_append]
              have g1 := frows_len n0 n1 i
              have g2 : (frow n (1 + (i : Int)) j).length ≤ j := sel_len _ _ _
              exact sz_lt (by omega)
            · exact Ex.mut (e2.trans e3) hD
            · rw [show frow n (1 + (i : Int)) (j + 1) = frow n (1 + (i : Int)) j ++ [.tuple [.int (-n + (j : Int)), .int (1 + (i : Int))]] from sel_yes e, ← List.append_assoc]
              exact h3
          · rw [dI] at e
            have e : ¬ ((Int.gcd (-n + (j : Int)) (1 + (i : Int)) : Nat) : Int) = 1 := of_decide_eq_false e
            have e : decide (Int.gcd (-n + (j : Int)) (1 + (i : Int)) = 1) = false := decide_eq_false (by omega)
            refine ⟨e2, ?_⟩
            rw [show frow n (1 + (i : Int)) (j + 1) = frow n (1 + (i : Int)) j from sel_no e]
            exact a2
        · refine .inl ⟨(show (n + 1 - -n).toNat ≤ j by omega), e2, ?_⟩
          have ej : j = (2 * n + 1).toNat := by omega
          subst ej
          exact a2
    · refine .inl ⟨(show (d + 1 - 1).toNat ≤ i by omega), ?_⟩
      have ei : i = d.toNat := by omega
      subst ei
      exact q D H1 hD e1 a1
theorem bto_get {m : Int} {d : PyData} (h : dBoundsTo m d = true) : ∃ n k : Int, d = .tuple [.int n, .int k] ∧ 0 ≤ n ∧ 1 ≤ k ∧ n ≤ m ∧ k ≤ m := by
  unfold dBoundsTo at h
  split at h
  · obtain ⟨h, h4⟩ := Bool.and_eq_true_iff.mp h
    obtain ⟨h, h3⟩ := Bool.and_eq_true_iff.mp h
    obtain ⟨h1, h2⟩ := Bool.and_eq_true_iff.mp h
    exact ⟨_, _, rfl, of_decide_eq_true h1, of_decide_eq_true h2, of_decide_eq_true h3, of_decide_eq_true h4⟩
  · cases h
def spX_all_within (C : Addr) : Sp := fun vs H Q E => ∃ v d0, vs = [v] ∧ Dt H v d0 ∧ (dBoundsTo 60 d0 = false → E (.ref C) none H) ∧ (dBoundsTo 60 d0 = true → ∃ n d : Int, d0 = .tuple [.int n, .int d] ∧ ∀ p H', H p = none → Ex H H' → AccL H' p (frows n d.toNat) → Q (.ref p) H')
theorem okX_all_within (T : Txt K mg base z) : FnOk P w K mg base (L2.CX P w) 5 z.a_all_within z.d_all_within ["bounds"] (spX_all_within z.k_NoBounds) := by
  refine T.F_all_within.ok (CX := L2.CX P w) sc_all_within (fun vs H Q E h => ?_) (fun cdv A outer s H vs Q E hr h => ?_)
  · obtain ⟨v, d0, rfl, _⟩ := h
    rfl
  · obtain ⟨v, d0, rfl, hd, qe, q⟩ := h
    by_cases hb : dBoundsTo 60 d0 = true
    rotate_left
    · have hb : dBoundsTo 60 d0 = false := by simpa using hb
      refine ⟨_, (pss_cons (ps_expr (pe_callS (okX_need_bounds_up_to T) hr (by rfl) T.g_need_bounds_up_to T.F_need_bounds_up_to.kp T.b_need_bounds_up_to (passAt takes_cx) (pa_cons (pv 0) (pa_cons (pe_glob (v := .int 60) (by rfl) T.c_SMALL_BOUND ⟨_, rfl⟩) pa_nil))))
      (pss_cons (ps_asg (pv 0) (pg_tup (by rfl) (pgs_cons (pg_name (i := 1) sc_all_within.nd rfl (.inr rfl)) (pgs_cons (pg_name (i := 2) sc_all_within.nd rfl (.inl rfl)) pgs_nil))))
      (pss_one (ps_ret (pe_lc2 (own := [("bottom", 3), ("top", 4)]) (vs1 := [4]) (by rfl) sc_all_within.nd (pi_range2 (by rfl) T.m_range (pa_cons pe_int (pa_cons (pe_op op_add (pv 2) pe_int) pa_nil))) (blkOk_by (own := [("bottom", 3), ("top", 4)]) (N := N_all_within) (sc := (defScope s_all_within)) (by decide +kernel)) (by decide) (fun _ _ _ _ _ => (pg_name (i := 3) sc_all_within.nd rfl (.inl rfl))) (fun _ _ _ _ _ => pts_nil) (fun _ _ _ _ _ => (pi_range2 (by rfl) T.m_range (pa_cons (pe_un un_neg (pv 1)) (pa_cons (pe_op op_add (pv 1) pe_int) pa_nil)))) (fun _ _ _ _ _ => (pg_name (i := 4) sc_all_within.nd rfl (.inl rfl))) (fun _ _ _ _ _ => (pts_one (pt_cmpR op_eq (pe_call (ok_common_divisor T) (hr.mono (by decide)) (by rfl) T.g_common_divisor T.F_common_divisor.kp T.b_common_divisor .nil pass0 (pa_cons (pv 4) (pa_cons (pv 3) pa_nil))) pe_int (nomark _)))) (fun _ _ _ _ _ => (pe_tup (pa_cons (pv 4) (pa_cons (pv 3) pa_nil))))))))), ?_⟩
      exact ⟨v, rfl, v, d0, rfl, hd, (fun y => by rw [hb] at y; cases y), fun _ => qe hb⟩
    obtain ⟨n, d, rfl, qq⟩ := q hb
    obtain ⟨n', d', ee, n0, d0, n1, d1⟩ := bto_get hb
    cases ee
    obtain ⟨a, xs, rfl, ha, hx⟩ := hd.tup_get
    have ex := DtAll.ints_eq [n, d] hx
    subst ex
    refine ⟨_, (pss_cons (ps_expr (pe_callS (okX_need_bounds_up_to T) hr (by rfl) T.g_need_bounds_up_to T.F_need_bounds_up_to.kp T.b_need_bounds_up_to (passAt takes_cx) (pa_cons (pv 0) (pa_cons (pe_glob (v := .int 60) (by rfl) T.c_SMALL_BOUND ⟨_, rfl⟩) pa_nil))))
      (pss_cons (ps_asg (pv 0) (pg_tup (by rfl) (pgs_cons (pg_name (i := 1) sc_all_within.nd rfl (.inr rfl)) (pgs_cons (pg_name (i := 2) sc_all_within.nd rfl (.inl rfl)) pgs_nil))))
      (pss_one (ps_ret (pe_lc2 (own := [("bottom", 3), ("top", 4)]) (vs1 := [4]) (by rfl) sc_all_within.nd (pi_range2 (by rfl) T.m_range (pa_cons pe_int (pa_cons (pe_op op_add (pv 2) pe_int) pa_nil))) (blkOk_by (own := [("bottom", 3), ("top", 4)]) (N := N_all_within) (sc := (defScope s_all_within)) (by decide +kernel)) (by decide) (fun _ _ _ _ _ => (pg_name (i := 3) sc_all_within.nd rfl (.inl rfl))) (fun _ _ _ _ _ => pts_nil) (fun _ _ _ _ _ => (pi_range2 (by rfl) T.m_range (pa_cons (pe_un un_neg (pv 1)) (pa_cons (pe_op op_add (pv 1) pe_int) pa_nil)))) (fun _ _ _ _ _ => (pg_name (i := 4) sc_all_within.nd rfl (.inl rfl))) (fun _ _ _ _ _ => (pts_one (pt_cmpR op_eq (pe_call (ok_common_divisor T) (hr.mono (by decide)) (by rfl) T.g_common_divisor T.F_common_divisor.kp T.b_common_divisor .nil pass0 (pa_cons (pv 4) (pa_cons (pv 3) pa_nil))) pe_int (nomark _)))) (fun _ _ _ _ _ => (pe_tup (pa_cons (pv 4) (pa_cons (pv 3) pa_nil))))))))), ?_⟩
    refine ⟨.ref a, rfl, .ref a, _, rfl, hd, fun _ => ?_, fun y => by rw [hb] at y; cases y⟩
    refine ⟨.ref a, rfl, a, _, rfl, .inl (.inl ha), rfl, .int n, [.int d], rfl, .int d, [], rfl, rfl, ?_⟩
    refine ⟨.int d, rfl, d, 1, rfl, rfl, 1, d + 1, rfl, ⟨by decide, by decide, by omega, by omega⟩, fun D hD => ?_⟩
    refine ⟨fun i m H' => i + m = d.toNat ∧ Ex H H' ∧ AccL H' D (frows n i), ⟨d.toNat, by omega, Ex.new hD, AccL.new⟩, fun i m H1 hW => ?_⟩
    obtain ⟨em, e1, a1⟩ := hW
    by_cases hi : i < d.toNat
    · refine .inr ⟨(show i < (d + 1 - 1).toNat by omega), fun H' => Ex H H' ∧ AccL H' D (frows n (i + 1)), fun H' hN => ⟨m - 1, by omega, by omega, hN.1, hN.2⟩, fun x H' hy => ?_⟩
      obtain ⟨rfl, rfl⟩ := hy
      refine ⟨rfl, .int n, rfl, n, rfl, .int n, rfl, n, 1, rfl, rfl, -n, n + 1, rfl, ⟨by omega, by omega, by omega, by omega⟩, ?_⟩
      refine ⟨fun j k H' => j + k = (2 * n + 1).toNat ∧ Ex H H' ∧ AccL H' D (frows n i ++ frow n (1 + (i : Int)) j), ⟨(2 * n + 1).toNat, by omega, e1, ?_⟩, fun j k H2 hV => ?_⟩
      · show AccL H' D (frows n i ++ [])
        rw [List.append_nil]
        exact a1
      · obtain ⟨ek, e2, a2⟩ := hV
        by_cases hj : j < (2 * n + 1).toNat
        · refine .inr ⟨(show j < (n + 1 - -n).toNat by omega), fun H' => Ex H H' ∧ AccL H' D (frows n i ++ frow n (1 + (i : Int)) (j + 1)), fun H' hN => ⟨k - 1, by omega, by omega, hN.1, hN.2⟩, fun x H' hy => ?_⟩
          obtain ⟨rfl, rfl⟩ := hy
          refine ⟨rfl, .int (-n + (j : Int)), rfl, .int (1 + (i : Int)), rfl, -n + (j : Int), 1 + (i : Int), rfl, by omega, rfl, _, rfl, it2 (fun e => ?_) (fun e => ?_)⟩
          · rw [dI] at e
            have e : ((Int.gcd (-n + (j : Int)) (1 + (i : Int)) : Nat) : Int) = 1 := of_decide_eq_true e
            have e : decide (Int.gcd (-n + (j : Int)) (1 + (i : Int)) = 1) = true := decide_eq_true (by omega)
            refine ⟨.int (-n + (j : Int)), rfl, .int (1 + (i : Int)), rfl, sz_of (Nat.le_of_ble_eq_true rfl), fun p hp => ?_⟩
            have e3 : Ex H' (upd H' p (.tup [.int (-n + (j : Int)), .int (1 + (i : Int))])) := Ex.new hp
            obtain ⟨acc, h1, h2, h3⟩ := a2.app (v := .ref p) (d := .tuple [.int (-n + (j : Int)), .int (1 + (i : Int))]) e3 (.tup upd_same (.cons (.int _) (.cons (.int _) .nil))) rfl
            refine ⟨acc, h1, ?_, ?_, ?_⟩
            · rw [h2, List.length_append]
              have g1 := frows_len n0 n1 i
              have g2 : (frow n (1 + (i : Int)) j).length ≤ j := sel_len _ _ _
              exact sz_lt (by omega)
            · exact Ex.mut (e2.trans e3) hD
            · rw [show frow n (1 + (i : Int)) (j + 1) = frow n (1 + (i : Int)) j ++ [.tuple [.int (-n + (j : Int)), .int (1 + (i : Int))]] from sel_yes e, ← List.append_assoc]
              exact h3
          · rw [dI] at e
            have e : ¬ ((Int.gcd (-n + (j : Int)) (1 + (i : Int)) : Nat) : Int) = 1 := of_decide_eq_false e
            have e : decide (Int.gcd (-n + (j : Int)) (1 + (i : Int)) = 1) = false := decide_eq_false (by omega)
            refine ⟨e2, ?_⟩
            rw [show frow n (1 + (i : Int)) (j + 1) = frow n (1 + (i : Int)) j from sel_no e]
            exact a2
        · refine .inl ⟨(show (n + 1 - -n).toNat ≤ j by omega), e2, ?_⟩
          have ej : j = (2 * n + 1).toNat := by omega
          subst ej
          exact a2
    · refine .inl ⟨(show (d + 1 - 1).toNat ≤ i by omega), ?_⟩
      have ei : i = d.toNat := by omega
      subst ei
      exact qq D H1 hD e1 a1
theorem rd_getD {l : List (Int × Int)} {i : Nat} {q : Int × Int} (h : l[i]? = some q) : (rdD l).getD i .none = .tuple [.int q.1, .int q.2] := by
  unfold rdD
  rw [List.getD_eq_getElem?_getD, List.getElem?_map, h]
  rfl
theorem RdOk.isR {l : List (Int × Int)} (h : RdOk l) : dReadings (.list (rdD l)) = true := by
  have hlen : (rdD l).length = l.length := List.length_map ..
  show (decide ((rdD l).length ≤ 10) && ((rdD l).all dReading && decide (cntD (fstAt (rdD l)) (rdD l).length = (rdD l).length))) = true
  rw [hlen, decide_eq_true h.len, Bool.true_and, Bool.and_eq_true]
  refine ⟨List.all_eq_true.mpr fun d hd => ?_, decide_eq_true ((cntD_all _ _).mpr fun i j hij hj => ?_)⟩
  · obtain ⟨q, hq, rfl⟩ := List.mem_map.mp hd
    obtain ⟨h1, h2, h3⟩ := h.ok q hq
    show (primeB q.1 && (decide (0 ≤ q.2) && decide (q.2 < q.1))) = true
    rw [h1, decide_eq_true h2, decide_eq_true h3]
    rfl
  · have hi : i < l.length := by omega
    unfold fstAt
    rw [rd_getD (List.getElem?_eq_getElem hi), rd_getD (List.getElem?_eq_getElem hj)]
    have := List.pairwise_iff_getElem.mp h.nd i j (by rw [List.length_map]; exact hi) (by rw [List.length_map]; exact hj) hij
    rw [List.getElem_map, List.getElem_map] at this
    exact this
theorem any_false (n : Nat) : opAny (fun _ => false) n = false := by
  unfold opAny
  rw [Bool.eq_false_iff]
  intro h
  obtain ⟨i, _, h⟩ := List.any_eq_true.mp h
  cases h
def sp_put_together (P1 P2 : Addr) : Sp := fun vs H Q _ => ∃ v l, vs = [v] ∧ Dt H v (.list (rdD l)) ∧ RdOk l ∧ H P1 = some (TabX P1) ∧ H P2 = some (TabX P2) ∧
  ∀ w t H', 0 ≤ w → w < prodP l → (∀ q ∈ l, w % q.1 = q.2) → Ex H H' → H' t = some (.tup [.int (prodP l), .int w]) → Q (.ref t) H'
theorem ok_put_together (T : Txt K mg base z) : FnOk P w K mg base CX0 13 z.a_put_together z.d_put_together ["readings"] (sp_put_together z.p_is_readings z.p_put_together) := by
  refine okT T.F_put_together T.cd_put_together sc_put_together (fun vs H Q E h => ?_) (fun A outer s H vs Q E hr h => ?_)
  · obtain ⟨v, l, rfl, _⟩ := h
    rfl
  · obtain ⟨v, l, rfl, hd, hR, hP1, hP2, q⟩ := h
    refine ⟨_, (PSs.nox (pss_cons (ps_expr (pe_call (ok_need_readings T) (hr.mono (by decide)) (by rfl) T.g_need_readings T.F_need_readings.kp T.b_need_readings .nil pass0 (pa_cons (pv 0) pa_nil)))
      (pss_cons (ps_if (pt_val (pe_anyZ (N := ["p", "rest"]) (no := 2) (cap := []) (k := 9) hr (by rfl) T.m_any T.tb_put_together rfl (genZ_of (by decide +kernel)) (pi_listK K (pv 0)) (by rfl) cap0 (fun _ _ _ _ _ hr => (pgz_tup2 (i := 0) (j := 1) (by decide +kernel) (by rfl) (by rfl) (by rfl) (by rfl))) (fun _ _ _ _ _ hr => (pe_cmpR op_isN (pv 1) pe_non (nomark _))))) (pss_one (ps_never)) pss_nil)
      (pss_cons (ps_asg (pe_tup (pa_cons pe_int (pa_cons pe_int pa_nil))) (pg_tup (by rfl) (pgs_cons (pg_name (i := 1) sc_put_together.nd rfl (.inl rfl)) (pgs_cons (pg_name (i := 2) sc_put_together.nd rfl (.inl rfl)) pgs_nil))))
      (pss_cons (ps_for PassesOwn.never rfl (pi_listK K (pv 0)) (pg_tup (by rfl) (pgs_cons (pg_name (i := 3) sc_put_together.nd rfl (.inl rfl)) (pgs_cons (pg_name (i := 4) sc_put_together.nd rfl (.inl rfl)) pgs_nil))) (pss_cons (ps_set (i := 5) sc_put_together.nd rfl (.inl rfl) (pe_op op_mod (pe_op op_mulW (pe_op op_sub (pv 4) (pv 2)) (pe_call (ok_inverse T) (hr.mono (by decide)) (by rfl) T.g_inverse T.F_inverse.kp T.b_inverse .nil pass0 (pa_cons (pv 1) (pa_cons (pv 3) pa_nil)))) (pv 3)))
      (pss_cons (ps_aug (i := 2) sc_put_together.nd rfl (.inl rfl) (pe_op op_mulW (pv 1) (pv 5)) ip_add)
      (pss_one (ps_aug (i := 1) sc_put_together.nd rfl (.inl rfl) (pv 3) ip_mulW)))))
      (pss_one (ps_ret (pe_tup (pa_cons (pv 1) (pa_cons (pv 2) pa_nil)))))))))), ?_⟩
    refine ⟨v, rfl, v, _, rfl, hd, hP1, hR.isR, fun H1 e1 => ?_⟩
    obtain ⟨a, xs, rfl, ha, hx⟩ := (hd.up e1).lst_get
    have hlen : xs.length = l.length := by
      rw [hx.len]
      exact List.length_map ..
    -- any(rest is None for p, rest in readings)
    refine ⟨.ref a, rfl, a, rfl, ⟨_, sq_of ha⟩, l.length, (fun _ => false), (fun σ => σ.length = 2), e1 _ _ hP2, rfl, fun i hi => ⟨xs, xs[i], sq_of ha, List.getElem?_eq_getElem (by omega)⟩, ⟨xs, sq_of ha, by omega⟩, fun i σ x H' hi hs hy => ?_, _, rfl, ?_⟩
    · obtain ⟨rfl, hy⟩ := hy
      obtain ⟨q0, b, _, rfl, hb⟩ := rd_get hx (hy xs (sq_of ha))
      match σ, hs with
      | [s0, s1], _ => exact ⟨b, _, rfl, st_of hb, rfl, _, _, rfl, _, _, rfl, rfl, .int q0.2, rfl, rfl, congrArg V.bl (decide_eq_false fun z => nomatch z), rfl, rfl⟩
    rw [any_false]
    refine itF rfl ?_
    -- m, w = (1, 0)
    refine ⟨sz_of (Nat.le_of_ble_eq_true rfl), fun t0 ht0 => ⟨t0, _, rfl, st_of upd_same, rfl, _, _, rfl, _, _, rfl, rfl, ?_⟩⟩
    have e2 : Ex H1 (upd H1 t0 (.tup [.int 1, .int 0])) := Ex.new ht0
    refine ⟨.ref a, rfl, a, rfl, ⟨_, sq_of (e2 _ _ ha)⟩, for_list (xs := xs) (fun i σ H' => (∃ m w y3 y4 y5, σ = [some (.ref a), some (.int m), some (.int w), y3, y4, y5] ∧ m = prodP (l.take i) ∧ 0 ≤ w ∧ w < m ∧ ∀ q ∈ l.take i, w % q.1 = q.2) ∧ Ex H1 H') ⟨⟨1, 0, none, none, none, rfl, rfl, by decide, by decide, fun q hq => nomatch hq⟩, e2⟩ (fun i σ H' _ hP => sq_of (hP.2 _ _ ha)) (fun i x σ H3 hi hP => ?_) (fun σ H3 hP => ?_)⟩
    · obtain ⟨⟨m, w, y3, y4, y5, rfl, hm, w0, w1, hw⟩, e3⟩ := hP
      obtain ⟨q0, b, hq, rfl, hb⟩ := rd_get hx hi
      have hqm := List.mem_of_getElem? hq
      obtain ⟨hp, r0, r1⟩ := hR.ok q0 hqm
      have lo := primeB_lo hp
      have htk : l.take (i + 1) = l.take i ++ [q0] := take_snoc hq
      have hpt : ∀ q ∈ l.take i, primeB q.1 = true := fun x hx => (hR.ok x (List.mem_of_mem_take hx)).1
      obtain ⟨m0, m1⟩ := prodP_small (l := l.take i) (by rw [List.length_take]; have := hR.len; omega) hpt
      obtain ⟨_, _, mdv, mco⟩ := prodP_facts _ (l.take i) rfl hpt
      rw [← hm] at m0 m1 mdv mco
      have hne : ∀ q ∈ l.take i, q.1 ≠ q0.1 := fun x hx => by
        obtain ⟨j, hj⟩ := List.getElem?_of_mem hx
        obtain ⟨hj1, hj2⟩ := List.getElem?_eq_some_iff.mp hj
        rw [List.length_take] at hj1
        have hil : i < l.length := (List.getElem?_eq_some_iff.mp hq).1
        have := List.pairwise_iff_getElem.mp hR.nd j i (by rw [List.length_map]; omega) (by rw [List.length_map]; exact hil) (by omega)
        rw [List.getElem_map, List.getElem_map] at this
        rw [List.getElem_take] at hj2
        rw [hj2, (List.getElem?_eq_some_iff.mp hq).2] at this
        exact this
      refine ⟨b, _, rfl, st_of (e3 _ _ hb), rfl, _, _, rfl, _, _, rfl, rfl, ?_⟩
      refine ⟨.int q0.2, rfl, .int w, rfl, q0.2, w, rfl, rfl, .int m, rfl, .int q0.1, rfl, m, q0.1, rfl, by omega, Nat.lt_of_lt_of_le (show q0.1.natAbs < 2 ^ 20 by omega) (by decide), mco _ hp hne, fun iv H4 i0 i1 hiv e4 => ?_⟩
      obtain ⟨s0, s1, s2, s3, s4⟩ := crt_step m0 w0 w1 (show 1 < q0.1 by omega) hiv r0 r1
      refine ⟨q0.2 - w, iv, rfl, rfl, wide_mul (a := 120) (b := 20) (by omega) (by omega) (by decide) (by decide) (by decide), .int q0.1, rfl, (q0.2 - w) * iv, q0.1, rfl, rfl, (show 0 < q0.1 by omega), ?_⟩
      obtain ⟨st, hst⟩ : ∃ st, st = (q0.2 - w) * iv % q0.1 := ⟨_, rfl⟩
      rw [← hst] at s0 s1 s2 s3 s4
      refine ⟨.int w, rfl, .int m, rfl, .int st, by rw [hst]; rfl, m, st, rfl, rfl, wide_mul (a := 120) (b := 20) (by omega) (by omega) (by decide) (by decide) (by decide), w, m * st, rfl, rfl, ?_⟩
      refine ⟨.int m, rfl, .int q0.1, rfl, m, q0.1, rfl, rfl, wide_mul (a := 120) (b := 20) (by omega) (by omega) (by decide) (by decide) (by decide), ?_⟩
      refine ⟨⟨m * q0.1, w + m * st, _, _, _, rfl, ?_, s2, s3, fun x hx => ?_⟩, e3.trans e4⟩
      · rw [htk, prodP_snoc, hm]
      · rw [htk] at hx
        rcases List.mem_append.mp hx with z | z
        · obtain ⟨c, hc⟩ := mdv x z
          rw [hc, Int.mul_assoc, Int.add_mul_emod_self_left]
          exact hw x z
        · rcases List.mem_cons.mp z with rfl | z
          · exact s4
          · cases z
    · obtain ⟨⟨m, w, y3, y4, y5, rfl, hm, w0, w1, hw⟩, e3⟩ := hP
      rw [hlen, List.take_length] at hm hw
      subst hm
      refine ⟨.int (prodP l), rfl, .int w, rfl, sz_of (Nat.le_of_ble_eq_true rfl), fun t ht => ?_⟩
      exact q w t _ w0 w1 hw ((e1.trans e3).trans (Ex.new ht)) upd_same
def spX_put_together (C P1 P2 : Addr) : Sp := fun vs H Q E => ∃ v d, vs = [v] ∧ Dt H v d ∧ H P1 = some (TabX P1) ∧ H P2 = some (TabX P2) ∧
  (∀ l, d = .list (rdD l) → RdOk l → ∀ w t H', 0 ≤ w → w < prodP l → (∀ q ∈ l, w % q.1 = q.2) → Ex H H' → H' t = some (.tup [.int (prodP l), .int w]) → Q (.ref t) H') ∧
  (dWholeR d = false → ∀ H', Ex H H' → E (.ref C) none H')
theorem okX_put_together (T : Txt K mg base z) : FnOk P w K mg base (L2.CX P w) 13 z.a_put_together z.d_put_together ["readings"] (spX_put_together z.k_NoReadings z.p_is_readings z.p_put_together) := by
  refine okT (CX := L2.CX P w) T.F_put_together T.cd_put_together sc_put_together (fun vs H Q E h => ?_) (fun A outer s H vs Q E hr h => ?_)
  · obtain ⟨v, d, rfl, _⟩ := h
    rfl
  · obtain ⟨v, d, rfl, hd, hP1, hP2, q, qe⟩ := h
    refine ⟨_, (pss_cons (ps_expr (pe_callS (okX_need_readings T) (hr.mono (by decide)) (by rfl) T.g_need_readings T.F_need_readings.kp T.b_need_readings (passAt takes_cx) (pa_cons (pv 0) pa_nil)))
      (pss_cons (ps_if (pt_val (pe_anyZ (N := ["p", "rest"]) (no := 2) (cap := []) (k := 9) hr (by rfl) T.m_any T.tb_put_together rfl (genZ_of (by decide +kernel)) (pi_listK K (pv 0)) (by rfl) cap0 (fun _ _ _ _ _ hr => (pgz_tup2 (i := 0) (j := 1) (by decide +kernel) (by rfl) (by rfl) (by rfl) (by rfl))) (fun _ _ _ _ _ hr => (pe_cmpR op_isN (pv 1) pe_non (nomark _))))) (pss_one (ps_raiseX rfl takes_cx T.x_NoReadings T.k_NoReadings (by rfl) pe_str)) pss_nil)
      (pss_cons (ps_asg (pe_tup (pa_cons pe_int (pa_cons pe_int pa_nil))) (pg_tup (by rfl) (pgs_cons (pg_name (i := 1) sc_put_together.nd rfl (.inl rfl)) (pgs_cons (pg_name (i := 2) sc_put_together.nd rfl (.inl rfl)) pgs_nil))))
      (pss_cons (ps_for pass_own rfl (pi_listK K (pv 0)) (pg_tup (by rfl) (pgs_cons (pg_name (i := 3) sc_put_together.nd rfl (.inl rfl)) (pgs_cons (pg_name (i := 4) sc_put_together.nd rfl (.inl rfl)) pgs_nil))) (pss_cons (ps_set (i := 5) sc_put_together.nd rfl (.inl rfl) (pe_op op_mod (pe_op op_mulW (pe_op op_sub (pv 4) (pv 2)) (pe_call (ok_inverse T) (hr.mono (by decide)) (by rfl) T.g_inverse T.F_inverse.kp T.b_inverse .nil pass0 (pa_cons (pv 1) (pa_cons (pv 3) pa_nil)))) (pv 3)))
      (pss_cons (ps_aug (i := 2) sc_put_together.nd rfl (.inl rfl) (pe_op op_mulW (pv 1) (pv 5)) ip_add)
      (pss_one (ps_aug (i := 1) sc_put_together.nd rfl (.inl rfl) (pv 3) ip_mulW)))))
      (pss_one (ps_ret (pe_tup (pa_cons (pv 1) (pa_cons (pv 2) pa_nil))))))))), ?_⟩
    refine ⟨v, rfl, v, d, rfl, hd, hP1, fun hr H1 e1 => ?_, fun hr H1 e1 => qe ?_ H1 e1⟩
    rotate_left
    · cases d <;> first | rfl | (show (dReadings _ && _) = false; rw [hr]; rfl)
    obtain ⟨l0, rfl, hR0⟩ := readings_get hr
    obtain ⟨a, xs, rfl, ha, hx⟩ := (hd.up e1).lst_get
    have hlen0 : xs.length = l0.length := by
      rw [hx.len]
      exact List.length_map ..
    -- any(rest is None for p, rest in readings)
    refine ⟨.ref a, rfl, a, rfl, ⟨_, sq_of ha⟩, l0.length, (fun i => decide ((l0.getD i (0, none)).2 = none)), (fun σ => σ.length = 2), e1 _ _ hP2, rfl, fun i hi => ⟨xs, xs[i], sq_of ha, List.getElem?_eq_getElem (by omega)⟩, ⟨xs, sq_of ha, by omega⟩, fun i σ x H' hi hs hy => ?_, _, rfl, ?_⟩
    · obtain ⟨rfl, hy⟩ := hy
      obtain ⟨q0, b, hq0, rfl, hb⟩ := rdN_get hx (hy xs (sq_of ha))
      have eg : decide ((l0.getD i (0, none)).2 = none) = decide (q0.2 = none) := by rw [List.getD_eq_getElem?_getD, hq0]; rfl
      match σ, hs with
      | [s0, s1], _ => exact ⟨b, _, rfl, st_of hb, rfl, _, _, rfl, _, _, rfl, rfl, oV q0.2, rfl, rfl, congrArg V.bl ((dec_non q0.2).trans eg.symm), rfl, rfl⟩
    rw [any_none]
    cases hn : noNone l0 with
    | false => exact itT rfl (qe (by rw [whole_rdN hR0]; exact hn) H1 e1)
    | true =>
    refine itF rfl ?_
    have hR := strip_ok hR0 hn
    have q := q (stripO l0) (by rw [strip_rdD hn]) hR
    rw [← strip_rdD hn] at hx
    generalize stripO l0 = l at hR q hx
    have hlen : xs.length = l.length := by
      rw [hx.len]
      exact List.length_map ..
    refine ⟨sz_of (Nat.le_of_ble_eq_true rfl), fun t0 ht0 => ⟨t0, _, rfl, st_of upd_same, rfl, _, _, rfl, _, _, rfl, rfl, ?_⟩⟩
    have e2 : Ex H1 (upd H1 t0 (.tup [.int 1, .int 0])) := Ex.new ht0
    refine ⟨.ref a, rfl, a, rfl, ⟨_, sq_of (e2 _ _ ha)⟩, for_list (xs := xs) (fun i σ H' => (∃ m w y3 y4 y5, σ = [some (.ref a), some (.int m), some (.int w), y3, y4, y5] ∧ m = prodP (l.take i) ∧ 0 ≤ w ∧ w < m ∧ ∀ q ∈ l.take i, w % q.1 = q.2) ∧ Ex H1 H') ⟨⟨1, 0, none, none, none, rfl, rfl, by decide, by decide, fun q hq => nomatch hq⟩, e2⟩ (fun i σ H' _ hP => sq_of (hP.2 _ _ ha)) (fun i x σ H3 hi hP => ?_) (fun σ H3 hP => ?_)⟩
    · obtain ⟨⟨m, w, y3, y4, y5, rfl, hm, w0, w1, hw⟩, e3⟩ := hP
      obtain ⟨q0, b, hq, rfl, hb⟩ := rd_get hx hi
      have hqm := List.mem_of_getElem? hq
      obtain ⟨hp, r0, r1⟩ := hR.ok q0 hqm
      have lo := primeB_lo hp
      have htk : l.take (i + 1) = l.take i ++ [q0] := take_snoc hq
      have hpt : ∀ q ∈ l.take i, primeB q.1 = true := fun x hx => (hR.ok x (List.mem_of_mem_take hx)).1
      obtain ⟨m0, m1⟩ := prodP_small (l := l.take i) (by rw [List.length_take]; have := hR.len; omega) hpt
      obtain ⟨_, _, mdv, mco⟩ := prodP_facts _ (l.take i) rfl hpt
      rw [← hm] at m0 m1 mdv mco
      have hne : ∀ q ∈ l.take i, q.1 ≠ q0.1 := fun x hx => by
        obtain ⟨j, hj⟩ := List.getElem?_of_mem hx
        obtain ⟨hj1, hj2⟩ := List.getElem?_eq_some_iff.mp hj
        rw [List.length_take] at hj1
        have hil : i < l.length := (List.getElem?_eq_some_iff.mp hq).1
        have := List.pairwise_iff_getElem.mp hR.nd j i (by rw [List.length_map]; omega) (by rw [List.length_map]; exact hil) (by omega)
        rw [List.getElem_map, List.getElem_map] at this
        rw [List.getElem_take] at hj2
        rw [hj2, (List.getElem?_eq_some_iff.mp hq).2] at this
        exact this
      refine ⟨b, _, rfl, st_of (e3 _ _ hb), rfl, _, _, rfl, _, _, rfl, rfl, ?_⟩
      refine ⟨.int q0.2, rfl, .int w, rfl, q0.2, w, rfl, rfl, .int m, rfl, .int q0.1, rfl, m, q0.1, rfl, by omega, Nat.lt_of_lt_of_le (show q0.1.natAbs < 2 ^ 20 by omega) (by decide), mco _ hp hne, fun iv H4 i0 i1 hiv e4 => ?_⟩
      obtain ⟨s0, s1, s2, s3, s4⟩ := crt_step m0 w0 w1 (show 1 < q0.1 by omega) hiv r0 r1
      refine ⟨q0.2 - w, iv, rfl, rfl, wide_mul (a := 120) (b := 20) (by omega) (by omega) (by decide) (by decide) (by decide), .int q0.1, rfl, (q0.2 - w) * iv, q0.1, rfl, rfl, (show 0 < q0.1 by omega), ?_⟩
      obtain ⟨st, hst⟩ : ∃ st, st = (q0.2 - w) * iv % q0.1 := ⟨_, rfl⟩
      rw [← hst] at s0 s1 s2 s3 s4
      refine ⟨.int w, rfl, .int m, rfl, .int st, by rw [hst]; rfl, m, st, rfl, rfl, wide_mul (a := 120) (b := 20) (by omega) (by omega) (by decide) (by decide) (by decide), w, m * st, rfl, rfl, ?_⟩
      refine ⟨.int m, rfl, .int q0.1, rfl, m, q0.1, rfl, rfl, wide_mul (a := 120) (b := 20) (by omega) (by omega) (by decide) (by decide) (by decide), ?_⟩
      refine ⟨⟨m * q0.1, w + m * st, _, _, _, rfl, ?_, s2, s3, fun x hx => ?_⟩, e3.trans e4⟩
      · rw [htk, prodP_snoc, hm]
      · rw [htk] at hx
        rcases List.mem_append.mp hx with z | z
        · obtain ⟨c, hc⟩ := mdv x z
          rw [hc, Int.mul_assoc, Int.add_mul_emod_self_left]
          exact hw x z
        · rcases List.mem_cons.mp z with rfl | z
          · exact s4
          · cases z
    · obtain ⟨⟨m, w, y3, y4, y5, rfl, hm, w0, w1, hw⟩, e3⟩ := hP
      rw [hlen, List.take_length] at hm hw
      subst hm
      refine ⟨.int (prodP l), rfl, .int w, rfl, sz_of (Nat.le_of_ble_eq_true rfl), fun t ht => ?_⟩
      exact q w t _ w0 w1 hw ((e1.trans e3).trans (Ex.new ht)) upd_same
def sp_only_candidate (P1 P2 : Addr) : Sp := fun vs H Q _ => ∃ (v : V) (l : List (Int × Option Int)) (n : Int), vs = [v, .int n] ∧ Dt H v (.list (rdN l)) ∧ RdN l ∧ 0 ≤ n ∧ H P1 = some (TabX P1) ∧ H P2 = some (TabX P2) ∧
  ∀ (w x f : Int) (tp : Addr) (H' : Hp), (∀ q ∈ knL l, w % q.1 = q.2) → Row (prodP (knL l)) (w * prodI (shL l) % prodP (knL l)) n x f → Ex H H' → H' tp = some (.tup [.int (candP (prodI (shL l)) x f).1, .int (candP (prodI (shL l)) x f).2]) → Q (.ref tp) H'
theorem ok_only_candidate (T : Txt K mg base z) : FnOk P w K mg base CX0 14 z.a_only_candidate z.d_only_candidate ["readings", "n"] (sp_only_candidate z.p_is_readings z.p_put_together) := by
  refine T.F_only_candidate.ok sc_only_candidate (fun vs H Q E h => ?_) (fun cdv A outer s H vs Q E hr h => ?_)
  · obtain ⟨v, l, n, rfl, _⟩ := h
    rfl
  · obtain ⟨v, l, n, rfl, hv, hR, n0, hP1, hP2, q⟩ := h
    refine ⟨_, (PSs.nox (pss_cons (ps_setLc (i := 2) (own := [("reading", 8)]) (by rfl) sc_only_candidate.nd rfl rfl (sw_true rfl rfl rfl (by decide +kernel)) (pi_listK K (pv 0)) (blkOk_by (own := [("reading", 8)]) (N := N_only_candidate) (sc := (defScope s_only_candidate)) (by decide +kernel)) (fun _ _ _ _ _ => (pg_name (i := 8) sc_only_candidate.nd rfl (.inl rfl))) (fun _ _ _ _ _ => (pts_one (pt_cmpR op_notN (pe_ix (r := rIxT K) ix_tup (pv 8) pe_int (fun _ _ => rfl)) pe_non (nomark _)))) (fun _ _ _ _ _ => (pv 8)))
      (pss_cons (ps_set (i := 3) sc_only_candidate.nd rfl (.inl rfl) (pe_call (ok_product_of T) (hr.mono (by decide)) (by rfl) T.g_product_of T.F_product_of.kp T.b_product_of .nil pass0 (pa_cons (pe_lc (own := [("p", 9), ("rest", 10)]) (by rfl) sc_only_candidate.nd (pi_listK K (pv 0)) (blkOk_by (own := [("p", 9), ("rest", 10)]) (N := N_only_candidate) (sc := (defScope s_only_candidate)) (by decide +kernel)) (fun _ _ _ _ _ => (pg_tupK (n := 2) K (by rfl) (pgs_cons (pg_name (i := 9) sc_only_candidate.nd rfl (.inl rfl)) (pgs_cons (pg_name (i := 10) sc_only_candidate.nd rfl (.inl rfl)) pgs_nil)))) (fun _ _ _ _ _ => (pts_one (pt_cmpR op_isN (pv 10) pe_non (nomark _)))) (fun _ _ _ _ _ => (pv 9))) pa_nil)))
      (pss_cons (ps_asg (pe_call (ok_put_together T) hr (by rfl) T.g_put_together T.F_put_together.kp T.b_put_together .nil pass0 (pa_cons (pv 2) pa_nil)) (pg_tup (by rfl) (pgs_cons (pg_name (i := 4) sc_only_candidate.nd rfl (.inl rfl)) (pgs_cons (pg_name (i := 5) sc_only_candidate.nd rfl (.inl rfl)) pgs_nil))))
      (pss_cons (ps_asg (pe_call (ok_short_row T) (hr.mono (by decide)) (by rfl) T.g_short_row T.F_short_row.kp T.b_short_row .nil pass0 (pa_cons (pv 4) (pa_cons (pe_op op_mod (pe_op op_mulW (pv 5) (pv 3)) (pv 4)) (pa_cons (pv 1) pa_nil)))) (pg_tup (by rfl) (pgs_cons (pg_name (i := 6) sc_only_candidate.nd rfl (.inl rfl)) (pgs_cons (pg_name (i := 7) sc_only_candidate.nd rfl (.inl rfl)) pgs_nil))))
      (pss_cons (ps_if (pt_cmpR op_lt (pv 7) pe_int (nomark _)) (pss_one (ps_ret (pe_tup (pa_cons (pe_un un_neg (pv 6)) (pa_cons (pe_op op_mulW (pe_un un_neg (pv 7)) (pv 3)) pa_nil))))) pss_nil)
      (pss_one (ps_ret (pe_tup (pa_cons (pv 6) (pa_cons (pe_op op_mulW (pv 7) (pv 3)) pa_nil))))))))))), ?_⟩
    have hl10 := hR.len
    have hN1 : EvN (tLc (iList K (tVar 0)) (gName 8) (tTest (tOp (fun x y H Q => y = V.non ∧ Q (V.bl !decide (x = V.non)) H) (tOp (rIxT K) (tVar 8) (tC (V.int 1))) (tC V.non))) (tVar 8) [8]) [some v, some (.int n), none, none, none, none, none, none, none, none, none] H (rdD (knL l)) := by
      rw [← kn_flt]
      refine en_lcQ _ _ (ed_var rfl hv) (by omega) (fun _ => rfl) (fun H1 b c e1 hm hb H2 e2 Q k => ?_) (fun H1 b c e1 hm hb _ => ed_var rfl (.tup hb (.cons (.int _) (.cons (.o _) .nil)))) (fun c _ _ => by match c.2 with | none => rfl | some _ => rfl)
      refine ⟨.ref b, rfl, b, _, 1, oV c.2, rfl, rfl, st_of (e2 _ _ hb), rfl, rfl, _, rfl, ?_⟩
      rw [dec_non]
      exact k H2 (Ex.refl _)
    refine q_asgN hN1 fun kn H1 hkn e1 a1 => ?_
    have hN2 : EvN (tLc (iList K (tVar 0)) (gTup K 2 (gCons (gName 9) (gCons (gName 10) gNil))) (tTest (tOp (fun x y H Q => y = V.non ∧ Q (V.bl (decide (x = V.non))) H) (tVar 10) (tC V.non))) (tVar 9) [9, 10]) [some v, some (.int n), some (.ref kn), none, none, none, none, none, none, none, none] H1 ((shL l).map PyData.int) := by
      rw [← sh_flt]
      refine en_lcP _ _ (ed_var rfl (hv.up e1)) (by omega) (fun _ _ => rfl) (fun H2 c e2 hm H3 e3 Q k => ?_) (fun H2 c e2 hm _ => ed_int (ev_var rfl)) (fun c _ _ => rfl)
      refine ⟨oV c.2, rfl, rfl, _, rfl, ?_⟩
      rw [dec_non]
      exact k H3 (Ex.refl _)
    refine go_asg (go_cons (hN2 H1 (Ex.refl _) _ fun sl H2 hsl e2 a2 => ?_))
    have hsl10 : (shL l).length ≤ 10 := by
      have := (shL_sub l).length_le
      rw [List.length_map] at this
      omega
    refine ⟨.ref sl, shL l, rfl, a2.dt, hsl10, hR.shp, ?_⟩
    obtain ⟨s0, s1⟩ := prodI_small hsl10 hR.shp
    obtain ⟨m0, m1⟩ := prodP_small hR.kn.len fun q hq => (hR.kn.ok q hq).1
    have g2 := e1.trans e2
    refine ⟨.ref kn, rfl, .ref kn, knL l, rfl, a1.dt.up e2, hR.kn, g2 _ _ hP1, g2 _ _ hP2, fun w tp H3 w0 w1 hw e3 htp => ⟨tp, _, rfl, st_of htp, rfl, _, _, rfl, _, _, rfl, rfl, ?_⟩⟩
    have g3 := g2.trans e3
    refine ⟨.int (prodP (knL l)), rfl, .int w, rfl, .int (prodI (shL l)), rfl, _, _, rfl, rfl, wide_mul (a := 120) (b := 120) (by omega) (by omega) (by decide) (by decide) (by decide), .int (prodP (knL l)), rfl, _, _, rfl, rfl, m0, .int n, rfl, prodP (knL l), w * prodI (shL l) % prodP (knL l), n, rfl, Int.emod_nonneg _ (by omega), Int.emod_lt_of_pos _ m0, n0, Nat.lt_of_lt_of_le (show (prodP (knL l)).natAbs < 2 ^ 120 by omega) (by decide), fun x f t H4 hRow e4 _ ht => ⟨t, _, rfl, st_of ht, rfl, _, _, rfl, _, _, rfl, rfl, ?_⟩⟩
    have g4 := g3.trans e4
    have hfs : f.natAbs < 2 ^ 120 := by
      obtain ⟨ab, fa, t, ta, s, I, _, _⟩ := id hRow
      have := I.size.1
      omega
    have hq := q w x f
    unfold candP at hq
    refine ⟨.int f, rfl, _, _, rfl, rfl, _, rfl, it2 (fun e => ?_) (fun e => ?_)⟩
    · have e : f < 0 := of_decide_eq_true e
      rw [if_pos e] at hq
      exact ⟨.int x, rfl, x, rfl, .int f, rfl, f, rfl, .int (prodI (shL l)), rfl, _, _, rfl, rfl, wide_mul (a := 120) (b := 120) (by omega) (by omega) (by decide) (by decide) (by decide), sz_of (Nat.le_of_ble_eq_true rfl), fun tq htq => hq tq _ hw hRow (g4.trans (Ex.new htq)) upd_same⟩
    · have e : ¬ f < 0 := of_decide_eq_false e
      rw [if_neg e] at hq
      exact ⟨.int x, rfl, .int f, rfl, .int (prodI (shL l)), rfl, _, _, rfl, rfl, wide_mul (a := 120) (b := 120) (by omega) (by omega) (by decide) (by decide) (by decide), sz_of (Nat.le_of_ble_eq_true rfl), fun tq htq => hq tq _ hw hRow (g4.trans (Ex.new htq)) upd_same⟩
theorem rdD_injX : ∀ {k m : List (Int × Int)}, rdD k = rdD m → k = m
  | [], [], _ => rfl
  | [], _ :: _, h => nomatch h
  | _ :: _, [], h => nomatch h
  | (a, b) :: k, (c, d) :: m, h => by
    have h1 := (List.cons.inj h).1
    have h2 := rdD_injX (List.cons.inj h).2
    cases h1
    rw [h2]
theorem rdD_rdN (k : List (Int × Int)) : rdD k = rdN (k.map fun q => (q.1, some q.2)) := by
  unfold rdD rdN
  rw [List.map_map]
  rfl
theorem rdD_whole {k : List (Int × Int)} (h : RdOk k) : dWholeR (.list (rdD k)) = true := by
  have hR : RdN (k.map fun q => (q.1, some q.2)) := by
    refine ⟨by rw [List.length_map]; exact h.len, fun q hq => ?_, by rw [List.map_map]; exact h.nd⟩
    obtain ⟨c, hc, rfl⟩ := List.mem_map.mp hq
    obtain ⟨h1, h2, h3⟩ := h.ok c hc
    exact ⟨h1, fun r hr => by cases hr; exact ⟨h2, h3⟩⟩
  rw [rdD_rdN, whole_rdN hR]
  unfold noNone
  rw [List.all_map]
  exact List.all_eq_true.mpr fun _ _ => rfl
def spX_only_candidate (P1 P2 : Addr) : Sp := fun vs H Q _ => ∃ (v : V) (l : List (Int × Option Int)) (n : Int), vs = [v, .int n] ∧ Dt H v (.list (rdN l)) ∧ RdN l ∧ 0 ≤ n ∧ H P1 = some (TabX P1) ∧ H P2 = some (TabX P2) ∧
  ∀ (w x f : Int) (tp : Addr) (H' : Hp), (∀ q ∈ knL l, w % q.1 = q.2) → Row (prodP (knL l)) (w * prodI (shL l) % prodP (knL l)) n x f → Ex H H' → H' tp = some (.tup [.int (candP (prodI (shL l)) x f).1, .int (candP (prodI (shL l)) x f).2]) → Q (.ref tp) H'
theorem okX_only_candidate (T : Txt K mg base z) : FnOk P w K mg base (L2.CX P w) 14 z.a_only_candidate z.d_only_candidate ["readings", "n"] (spX_only_candidate z.p_is_readings z.p_put_together) := by
  refine T.F_only_candidate.ok (CX := L2.CX P w) sc_only_candidate (fun vs H Q E h => ?_) (fun cdv A outer s H vs Q E hr h => ?_)
  · obtain ⟨v, l, n, rfl, _⟩ := h
    rfl
  · obtain ⟨v, l, n, rfl, hv, hR, n0, hP1, hP2, q⟩ := h
    refine ⟨_, (pss_cons (ps_setLc (i := 2) (own := [("reading", 8)]) (by rfl) sc_only_candidate.nd rfl rfl (sw_true rfl rfl rfl (by decide +kernel)) (pi_listK K (pv 0)) (blkOk_by (own := [("reading", 8)]) (N := N_only_candidate) (sc := (defScope s_only_candidate)) (by decide +kernel)) (fun _ _ _ _ _ => (pg_name (i := 8) sc_only_candidate.nd rfl (.inl rfl))) (fun _ _ _ _ _ => (pts_one (pt_cmpR op_notN (pe_ix (r := rIxT K) ix_tup (pv 8) pe_int (fun _ _ => rfl)) pe_non (nomark _)))) (fun _ _ _ _ _ => (pv 8)))
      (pss_cons (ps_set (i := 3) sc_only_candidate.nd rfl (.inl rfl) (pe_call (ok_product_of T) (hr.mono (by decide)) (by rfl) T.g_product_of T.F_product_of.kp T.b_product_of .nil pass0 (pa_cons (pe_lc (own := [("p", 9), ("rest", 10)]) (by rfl) sc_only_candidate.nd (pi_listK K (pv 0)) (blkOk_by (own := [("p", 9), ("rest", 10)]) (N := N_only_candidate) (sc := (defScope s_only_candidate)) (by decide +kernel)) (fun _ _ _ _ _ => (pg_tupK (n := 2) K (by rfl) (pgs_cons (pg_name (i := 9) sc_only_candidate.nd rfl (.inl rfl)) (pgs_cons (pg_name (i := 10) sc_only_candidate.nd rfl (.inl rfl)) pgs_nil)))) (fun _ _ _ _ _ => (pts_one (pt_cmpR op_isN (pv 10) pe_non (nomark _)))) (fun _ _ _ _ _ => (pv 9))) pa_nil)))
      (pss_cons (ps_asg (pe_callS (okX_put_together T) hr (by rfl) T.g_put_together T.F_put_together.kp T.b_put_together (passAt takes_cx) (pa_cons (pv 2) pa_nil)) (pg_tup (by rfl) (pgs_cons (pg_name (i := 4) sc_only_candidate.nd rfl (.inl rfl)) (pgs_cons (pg_name (i := 5) sc_only_candidate.nd rfl (.inl rfl)) pgs_nil))))
      (pss_cons (ps_asg (pe_call (ok_short_row T) (hr.mono (by decide)) (by rfl) T.g_short_row T.F_short_row.kp T.b_short_row .nil pass0 (pa_cons (pv 4) (pa_cons (pe_op op_mod (pe_op op_mulW (pv 5) (pv 3)) (pv 4)) (pa_cons (pv 1) pa_nil)))) (pg_tup (by rfl) (pgs_cons (pg_name (i := 6) sc_only_candidate.nd rfl (.inl rfl)) (pgs_cons (pg_name (i := 7) sc_only_candidate.nd rfl (.inl rfl)) pgs_nil))))
      (pss_cons (ps_if (pt_cmpR op_lt (pv 7) pe_int (nomark _)) (pss_one (ps_ret (pe_tup (pa_cons (pe_un un_neg (pv 6)) (pa_cons (pe_op op_mulW (pe_un un_neg (pv 7)) (pv 3)) pa_nil))))) pss_nil)
      (pss_one (ps_ret (pe_tup (pa_cons (pv 6) (pa_cons (pe_op op_mulW (pv 7) (pv 3)) pa_nil)))))))))), ?_⟩
    have hl10 := hR.len
    have hN1 : EvN (tLc (iList K (tVar 0)) (gName 8) (tTest (tOp (fun x y H Q => y = V.non ∧ Q (V.bl !decide (x = V.non)) H) (tOp (rIxT K) (tVar 8) (tC (V.int 1))) (tC V.non))) (tVar 8) [8]) [some v, some (.int n), none, none, none, none, none, none, none, none, none] H (rdD (knL l)) := by
      rw [← kn_flt]
      refine en_lcQ _ _ (ed_var rfl hv) (by omega) (fun _ => rfl) (fun H1 b c e1 hm hb H2 e2 Q k => ?_) (fun H1 b c e1 hm hb _ => ed_var rfl (.tup hb (.cons (.int _) (.cons (.o _) .nil)))) (fun c _ _ => by match c.2 with | none => rfl | some _ => rfl)
      refine ⟨.ref b, rfl, b, _, 1, oV c.2, rfl, rfl, st_of (e2 _ _ hb), rfl, rfl, _, rfl, ?_⟩
      rw [dec_non]
      exact k H2 (Ex.refl _)
    refine q_asgN hN1 fun kn H1 hkn e1 a1 => ?_
    have hN2 : EvN (tLc (iList K (tVar 0)) (gTup K 2 (gCons (gName 9) (gCons (gName 10) gNil))) (tTest (tOp (fun x y H Q => y = V.non ∧ Q (V.bl (decide (x = V.non))) H) (tVar 10) (tC V.non))) (tVar 9) [9, 10]) [some v, some (.int n), some (.ref kn), none, none, none, none, none, none, none, none] H1 ((shL l).map PyData.int) := by
      rw [← sh_flt]
      refine en_lcP _ _ (ed_var rfl (hv.up e1)) (by omega) (fun _ _ => rfl) (fun H2 c e2 hm H3 e3 Q k => ?_) (fun H2 c e2 hm _ => ed_int (ev_var rfl)) (fun c _ _ => rfl)
      refine ⟨oV c.2, rfl, rfl, _, rfl, ?_⟩
      rw [dec_non]
      exact k H3 (Ex.refl _)
    refine go_asg (go_cons (hN2 H1 (Ex.refl _) _ fun sl H2 hsl e2 a2 => ?_))
    have hsl10 : (shL l).length ≤ 10 := by
      have := (shL_sub l).length_le
      rw [List.length_map] at this
      omega
    refine ⟨.ref sl, shL l, rfl, a2.dt, hsl10, hR.shp, ?_⟩
    obtain ⟨s0, s1⟩ := prodI_small hsl10 hR.shp
    obtain ⟨m0, m1⟩ := prodP_small hR.kn.len fun q hq => (hR.kn.ok q hq).1
    have g2 := e1.trans e2
    refine ⟨.ref kn, rfl, .ref kn, _, rfl, a1.dt.up e2, g2 _ _ hP1, g2 _ _ hP2, fun l9 el9 hR9 w tp H3 w0 w1 hw e3 htp => ?_, fun y => ?_⟩
    rotate_left
    · rw [rdD_whole hR.kn] at y
      cases y
    have el : l9 = knL l := rdD_injX (PyData.list.inj el9).symm
    subst el
    refine ⟨tp, _, rfl, st_of htp, rfl, _, _, rfl, _, _, rfl, rfl, ?_⟩
    have g3 := g2.trans e3
    refine ⟨.int (prodP (knL l)), rfl, .int w, rfl, .int (prodI (shL l)), rfl, _, _, rfl, rfl, wide_mul (a := 120) (b := 120) (by omega) (by omega) (by decide) (by decide) (by decide), .int (prodP (knL l)), rfl, _, _, rfl, rfl, m0, .int n, rfl, prodP (knL l), w * prodI (shL l) % prodP (knL l), n, rfl, Int.emod_nonneg _ (by omega), Int.emod_lt_of_pos _ m0, n0, Nat.lt_of_lt_of_le (show (prodP (knL l)).natAbs < 2 ^ 120 by omega) (by decide), fun x f t H4 hRow e4 _ ht => ⟨t, _, rfl, st_of ht, rfl, _, _, rfl, _, _, rfl, rfl, ?_⟩⟩
    have g4 := g3.trans e4
    have hfs : f.natAbs < 2 ^ 120 := by
      obtain ⟨ab, fa, t, ta, s, I, _, _⟩ := id hRow
      have := I.size.1
      omega
    have hq := q w x f
    unfold candP at hq
    refine ⟨.int f, rfl, _, _, rfl, rfl, _, rfl, it2 (fun e => ?_) (fun e => ?_)⟩
    · have e : f < 0 := of_decide_eq_true e
      rw [if_pos e] at hq
      exact ⟨.int x, rfl, x, rfl, .int f, rfl, f, rfl, .int (prodI (shL l)), rfl, _, _, rfl, rfl, wide_mul (a := 120) (b := 120) (by omega) (by omega) (by decide) (by decide) (by decide), sz_of (Nat.le_of_ble_eq_true rfl), fun tq htq => hq tq _ hw hRow (g4.trans (Ex.new htq)) upd_same⟩
    · have e : ¬ f < 0 := of_decide_eq_false e
      rw [if_neg e] at hq
      exact ⟨.int x, rfl, .int f, rfl, .int (prodI (shL l)), rfl, _, _, rfl, rfl, wide_mul (a := 120) (b := 120) (by omega) (by omega) (by decide) (by decide) (by decide), sz_of (Nat.le_of_ble_eq_true rfl), fun tq htq => hq tq _ hw hRow (g4.trans (Ex.new htq)) upd_same⟩
def sp_one_back (P1 P2 : Addr) : Sp := fun vs H Q _ => ∃ (v w : V) (l : List (Int × Option Int)) (n d : Int), vs = [v, w] ∧ Dt H v (.list (rdN l)) ∧ RdN l ∧ Dt H w (.tuple [.int n, .int d]) ∧ 0 ≤ n ∧ 1 ≤ d ∧ n.natAbs < 2 ^ 250 ∧ d.natAbs < 2 ^ 250 ∧ 2 * n * d < prodI (l.map (·.1)) ∧ H P1 = some (TabX P1) ∧ H P2 = some (TabX P2) ∧
  ∀ (o : Option (Int × Int)) (u : V) (H' : Hp), TellsOne l n d o → Dt H' u (fD1 o) → Ex H H' → Q u H'
theorem ok_one_back (T : Txt K mg base z) : FnOk P w K mg base CX0 15 z.a_one_back z.d_one_back ["readings", "bounds"] (sp_one_back z.p_is_readings z.p_put_together) := by
  refine T.F_one_back.ok sc_one_back (fun vs H Q E h => ?_) (fun cdv A outer s H vs Q E hr h => ?_)
  · obtain ⟨v, w, l, n, d, rfl, _⟩ := h
    rfl
  · obtain ⟨v, w, l, n, d, rfl, hv, hR, hw, n0, d0, nz, dz, hp, hP1, hP2, q⟩ := h
    refine ⟨_, (PSs.nox (pss_cons (ps_expr (pe_call (ok_need_readings T) (hr.mono (by decide)) (by rfl) T.g_need_readings T.F_need_readings.kp T.b_need_readings .nil pass0 (pa_cons (pv 0) pa_nil)))
      (pss_cons (ps_expr (pe_call (ok_need_bounds T) (hr.mono (by decide)) (by rfl) T.g_need_bounds T.F_need_bounds.kp T.b_need_bounds .nil pass0 (pa_cons (pv 1) pa_nil)))
      (pss_cons (ps_asg (pv 1) (pg_tup (by rfl) (pgs_cons (pg_name (i := 2) sc_one_back.nd rfl (.inl rfl)) (pgs_cons (pg_name (i := 3) sc_one_back.nd rfl (.inl rfl)) pgs_nil))))
      (pss_cons (ps_if (pt_cmpR op_le (pe_call (ok_product_of T) (hr.mono (by decide)) (by rfl) T.g_product_of T.F_product_of.kp T.b_product_of .nil pass0 (pa_cons (pe_lc (own := [("p", 5), ("rest", 6)]) (by rfl) sc_one_back.nd (pi_listK K (pv 0)) (blkOk_by (own := [("p", 5), ("rest", 6)]) (N := N_one_back) (sc := (defScope s_one_back)) (by decide +kernel)) (fun _ _ _ _ _ => (pg_tupK (n := 2) K (by rfl) (pgs_cons (pg_name (i := 5) sc_one_back.nd rfl (.inl rfl)) (pgs_cons (pg_name (i := 6) sc_one_back.nd rfl (.inl rfl)) pgs_nil)))) (fun _ _ _ _ _ => pts_nil) (fun _ _ _ _ _ => (pv 5))) pa_nil)) (pe_op op_mulW (pe_op op_mul pe_int (pv 2)) (pv 3)) (nomark _)) (pss_one (ps_never)) pss_nil)
      (pss_cons (ps_set (i := 4) sc_one_back.nd rfl (.inl rfl) (pe_call (ok_only_candidate T) hr (by rfl) T.g_only_candidate T.F_only_candidate.kp T.b_only_candidate .nil pass0 (pa_cons (pv 0) (pa_cons (pv 2) pa_nil))))
      (pss_cons (ps_if (PW.pt (pw_and (pt_val (pe_call (ok_is_fraction T) (hr.mono (by decide)) (by rfl) T.g_is_fraction T.F_is_fraction.kp T.b_is_fraction .nil pass0 (pa_cons (pv 4) pa_nil))) (pw_and1 (pt_val (pe_call (ok_is_within T) (hr.mono (by decide)) (by rfl) T.g_is_within T.F_is_within.kp T.b_is_within .nil pass0 (pa_cons (pv 4) (pa_cons (pv 1) pa_nil))))))) (pss_one (ps_ret (pv 4))) pss_nil)
      (pss_one (ps_ret pe_non))))))))), ?_⟩
    obtain ⟨c, ys, rfl, hc, hy⟩ := id hw.tup_get
    have ey := DtAll.ints_eq [n, d] hy
    subst ey
    have hl10 := hR.len
    refine ⟨v, rfl, v, _, rfl, hv, hP1, hR.isR, fun H1 e1 => ⟨.ref c, rfl, .ref c, _, rfl, hw.up e1, ?_, ?_⟩⟩
    · show (decide (0 ≤ n) && decide (1 ≤ d)) = true
      rw [decide_eq_true n0, decide_eq_true d0]
      rfl
    refine ⟨.ref c, rfl, c, _, rfl, st_of (e1 _ _ hc), rfl, _, _, rfl, _, _, rfl, rfl, ?_⟩
    have hN : EvN (tLc (iList K (tVar 0)) (gTup K 2 (gCons (gName 5) (gCons (gName 6) gNil))) tYes (tVar 5) [5, 6]) [some v, some (.ref c), some (.int n), some (.int d), none, none, none] H1 ((l.map (·.1)).map PyData.int) := by
      have e : (l.map (·.1)).map PyData.int = (l.filter fun _ => true).map fun q => PyData.int q.1 := by
        rw [List.filter_eq_self.mpr fun _ _ => rfl, List.map_map]
        rfl
      rw [e]
      exact en_lcP _ _ (ed_var rfl (hv.up e1)) (by omega) (fun _ _ => rfl) (fun H2 c e2 hm H3 e3 Q k => k H3 (Ex.refl _)) (fun H2 c e2 hm _ => ed_int (ev_var rfl)) (fun c _ _ => rfl)
    dsimp only [tNext_app]
    refine go_ifop ?_
    refine go_cons (hN H1 (Ex.refl _) _ fun pl H2 hpl e2 a2 => ?_)
    refine ⟨.ref pl, l.map (·.1), rfl, a2.dt, by rw [List.length_map]; omega, hR.prs, .int n, rfl, _, _, rfl, rfl, .inl ⟨by decide, by decide⟩, .int d, rfl, _, _, rfl, rfl, wide_mul (a := 252) (b := 250) (by omega) dz (by decide) (by decide) (by decide), _, _, rfl, rfl, _, rfl, itF (decide_eq_false (by omega)) ?_⟩
    have g2 := e1.trans e2
    refine ⟨v, rfl, .int n, rfl, v, l, n, rfl, hv.up g2, hR, n0, g2 _ _ hP1, g2 _ _ hP2, fun w x f tp H3 hwt hRow e3 htp => ?_⟩
    have g3 := g2.trans e3
    have hk := cand_kept hR hwt hRow
    have hu := fun t b b1 hb t0 t1 hg hk => cand_uniq (t := t) (b := b) hR hwt hRow n0 hp b1 hb t0 t1 hg hk
    generalize candP (prodI (shL l)) x f = cd at htp hk hu
    obtain ⟨ct, cb⟩ := cd
    have hdt : Dt H3 (.ref tp) (.tuple [.int ct, .int cb]) := .tup htp (.cons (.int _) (.cons (.int _) .nil))
    refine ⟨.ref tp, rfl, .ref tp, _, rfl, hdt, _, rfl, it2 (fun e => ?_) (fun e => ?_)⟩
    · obtain ⟨t', b', ee, fb, fg⟩ := dFrac_get e
      cases ee
      refine ⟨.ref tp, rfl, .ref c, rfl, .ref tp, .ref c, ct, cb, n, d, rfl, hdt, hw.up g3, _, rfl, it2 (fun e2 => ?_) (fun e2 => ?_)⟩
      · obtain ⟨w1, w2, w3⟩ := withinB_iff.mp e2
        refine ⟨.ref tp, rfl, q (some (ct, cb)) _ H3 ⟨fb, w3, w1, w2, fg, hk, fun t' b' b1 hb t0 t1 hg hk => ?_⟩ hdt g3⟩
        have := hu t' b' b1 hb t0 t1 hg hk
        cases this
        exact ⟨rfl, rfl⟩
      · refine q none _ H3 (fun t' b' b1 hb t0 t1 hg hk => ?_) .non g3
        have := hu t' b' b1 hb t0 t1 hg hk
        cases this
        rw [withinB_iff.mpr ⟨t0, t1, hb⟩] at e2
        cases e2
    · refine itF rfl (q none _ H3 (fun t' b' b1 hb t0 t1 hg hk => ?_) .non g3)
      have := hu t' b' b1 hb t0 t1 hg hk
      cases this
      rw [dFrac_of b1 hg] at e
      cases e
def spX_one_back (CR CB CT P1 P2 : Addr) : Sp := fun vs H Q E => ∃ (v w : V) (dv dw : PyData), vs = [v, w] ∧ Dt H v dv ∧ Dt H w dw ∧ H P1 = some (TabX P1) ∧ H P2 = some (TabX P2) ∧
  (dReadings dv = false → ∀ H', Ex H H' → E (.ref CR) none H') ∧ (dReadings dv = true → dBounds dw = false → ∀ H', Ex H H' → E (.ref CB) none H') ∧
  (dReadings dv = true → dBounds dw = true → ∃ (l : List (Int × Option Int)) (n d : Int), dv = .list (rdN l) ∧ RdN l ∧ dw = .tuple [.int n, .int d] ∧ 0 ≤ n ∧ 1 ≤ d ∧ n.natAbs < 2 ^ 250 ∧ d.natAbs < 2 ^ 250 ∧
    (2 * n * d < prodI (l.map (·.1)) → ∀ (o : Option (Int × Int)) (u : V) (H' : Hp), TellsOne l n d o → Dt H' u (fD1 o) → Ex H H' → Q u H') ∧ (prodI (l.map (·.1)) ≤ 2 * n * d → ∀ H', Ex H H' → E (.ref CT) none H'))
theorem okX_one_back (T : Txt K mg base z) : FnOk P w K mg base (L2.CX P w) 15 z.a_one_back z.d_one_back ["readings", "bounds"] (spX_one_back z.k_NoReadings z.k_NoBounds z.k_TooFew z.p_is_readings z.p_put_together) := by
  refine T.F_one_back.ok (CX := L2.CX P w) sc_one_back (fun vs H Q E h => ?_) (fun cdv A outer s H vs Q E hr h => ?_)
  · obtain ⟨v, w, dv, dw, rfl, _⟩ := h
    rfl
  · obtain ⟨v, w, dv, dw, rfl, hv, hw, hP1, hP2, qr, qb, q⟩ := h
    refine ⟨_, (pss_cons (ps_expr (pe_callS (okX_need_readings T) (hr.mono (by decide)) (by rfl) T.g_need_readings T.F_need_readings.kp T.b_need_readings (passAt takes_cx) (pa_cons (pv 0) pa_nil)))
      (pss_cons (ps_expr (pe_callS (okX_need_bounds T) (hr.mono (by decide)) (by rfl) T.g_need_bounds T.F_need_bounds.kp T.b_need_bounds (passAt takes_cx) (pa_cons (pv 1) pa_nil)))
      (pss_cons (ps_asg (pv 1) (pg_tup (by rfl) (pgs_cons (pg_name (i := 2) sc_one_back.nd rfl (.inl rfl)) (pgs_cons (pg_name (i := 3) sc_one_back.nd rfl (.inl rfl)) pgs_nil))))
      (pss_cons (ps_if (pt_cmpR op_le (pe_call (ok_product_of T) (hr.mono (by decide)) (by rfl) T.g_product_of T.F_product_of.kp T.b_product_of .nil pass0 (pa_cons (pe_lc (own := [("p", 5), ("rest", 6)]) (by rfl) sc_one_back.nd (pi_listK K (pv 0)) (blkOk_by (own := [("p", 5), ("rest", 6)]) (N := N_one_back) (sc := (defScope s_one_back)) (by decide +kernel)) (fun _ _ _ _ _ => (pg_tupK (n := 2) K (by rfl) (pgs_cons (pg_name (i := 5) sc_one_back.nd rfl (.inl rfl)) (pgs_cons (pg_name (i := 6) sc_one_back.nd rfl (.inl rfl)) pgs_nil)))) (fun _ _ _ _ _ => pts_nil) (fun _ _ _ _ _ => (pv 5))) pa_nil)) (pe_op op_mulW (pe_op op_mul pe_int (pv 2)) (pv 3)) (nomark _)) (pss_one (ps_raiseX rfl takes_cx T.x_TooFew T.k_TooFew (by rfl) pe_str)) pss_nil)
      (pss_cons (ps_set (i := 4) sc_one_back.nd rfl (.inl rfl) (pe_callS (okX_only_candidate T) hr (by rfl) T.g_only_candidate T.F_only_candidate.kp T.b_only_candidate (passAt takes_cx) (pa_cons (pv 0) (pa_cons (pv 2) pa_nil))))
      (pss_cons (ps_if (PW.pt (pw_and (pt_val (pe_call (ok_is_fraction T) (hr.mono (by decide)) (by rfl) T.g_is_fraction T.F_is_fraction.kp T.b_is_fraction .nil pass0 (pa_cons (pv 4) pa_nil))) (pw_and1 (pt_val (pe_call (ok_is_within T) (hr.mono (by decide)) (by rfl) T.g_is_within T.F_is_within.kp T.b_is_within .nil pass0 (pa_cons (pv 4) (pa_cons (pv 1) pa_nil))))))) (pss_one (ps_ret (pv 4))) pss_nil)
      (pss_one (ps_ret pe_non)))))))), ?_⟩
    refine ⟨v, rfl, v, dv, rfl, hv, hP1, fun hr H1 e1 => ⟨w, rfl, w, dw, rfl, hw.up e1, fun hb => ?_, fun hb => qb hr hb H1 e1⟩, fun hr H1 e1 => qr hr H1 e1⟩
    obtain ⟨l, n, d, rfl, hR, rfl, n0, d0, nz, dz, q, qt⟩ := q hr hb
    obtain ⟨c, ys, rfl, hc, hy⟩ := id hw.tup_get
    have ey := DtAll.ints_eq [n, d] hy
    subst ey
    have hl10 := hR.len
    refine ⟨.ref c, rfl, c, _, rfl, st_of (e1 _ _ hc), rfl, _, _, rfl, _, _, rfl, rfl, ?_⟩
    have hN : EvN (tLc (iList K (tVar 0)) (gTup K 2 (gCons (gName 5) (gCons (gName 6) gNil))) tYes (tVar 5) [5, 6]) [some v, some (.ref c), some (.int n), some (.int d), none, none, none] H1 ((l.map (·.1)).map PyData.int) := by
      have e : (l.map (·.1)).map PyData.int = (l.filter fun _ => true).map fun q => PyData.int q.1 := by
        rw [List.filter_eq_self.mpr fun _ _ => rfl, List.map_map]
        rfl
      rw [e]
      exact en_lcP _ _ (ed_var rfl (hv.up e1)) (by omega) (fun _ _ => rfl) (fun H2 c e2 hm H3 e3 Q k => k H3 (Ex.refl _)) (fun H2 c e2 hm _ => ed_int (ev_var rfl)) (fun c _ _ => rfl)
    dsimp only [tNext_app]
    refine go_ifop ?_
    refine go_cons (hN H1 (Ex.refl _) _ fun pl H2 hpl e2 a2 => ?_)
    refine ⟨.ref pl, l.map (·.1), rfl, a2.dt, by rw [List.length_map]; omega, hR.prs, .int n, rfl, _, _, rfl, rfl, .inl ⟨by decide, by decide⟩, .int d, rfl, _, _, rfl, rfl, wide_mul (a := 252) (b := 250) (by omega) dz (by decide) (by decide) (by decide), _, _, rfl, rfl, _, rfl, it2 (fun z => qt (of_decide_eq_true z) H2 (e1.trans e2)) fun z => ?_⟩
    have hp : 2 * n * d < prodI (l.map (·.1)) := by
      have := of_decide_eq_false z
      omega
    have q := q hp
    have g2 := e1.trans e2
    refine ⟨v, rfl, .int n, rfl, v, l, n, rfl, hv.up g2, hR, n0, g2 _ _ hP1, g2 _ _ hP2, fun w x f tp H3 hwt hRow e3 htp => ?_⟩
    have g3 := g2.trans e3
    have hk := cand_kept hR hwt hRow
    have hu := fun t b b1 hb t0 t1 hg hk => cand_uniq (t := t) (b := b) hR hwt hRow n0 hp b1 hb t0 t1 hg hk
    generalize candP (prodI (shL l)) x f = cd at htp hk hu
    obtain ⟨ct, cb⟩ := cd
    have hdt : Dt H3 (.ref tp) (.tuple [.int ct, .int cb]) := .tup htp (.cons (.int _) (.cons (.int _) .nil))
    refine ⟨.ref tp, rfl, .ref tp, _, rfl, hdt, _, rfl, it2 (fun e => ?_) (fun e => ?_)⟩
    · obtain ⟨t', b', ee, fb, fg⟩ := dFrac_get e
      cases ee
      refine ⟨.ref tp, rfl, .ref c, rfl, .ref tp, .ref c, ct, cb, n, d, rfl, hdt, hw.up g3, _, rfl, it2 (fun e2 => ?_) (fun e2 => ?_)⟩
      · obtain ⟨w1, w2, w3⟩ := withinB_iff.mp e2
        refine ⟨.ref tp, rfl, q (some (ct, cb)) _ H3 ⟨fb, w3, w1, w2, fg, hk, fun t' b' b1 hb t0 t1 hg hk => ?_⟩ hdt g3⟩
        have := hu t' b' b1 hb t0 t1 hg hk
        cases this
        exact ⟨rfl, rfl⟩
      · refine q none _ H3 (fun t' b' b1 hb t0 t1 hg hk => ?_) .non g3
        have := hu t' b' b1 hb t0 t1 hg hk
        cases this
        rw [withinB_iff.mpr ⟨t0, t1, hb⟩] at e2
        cases e2
    · refine itF rfl (q none _ H3 (fun t' b' b1 hb t0 t1 hg hk => ?_) .non g3)
      have := hu t' b' b1 hb t0 t1 hg hk
      cases this
      rw [dFrac_of b1 hg] at e
      cases e
def keepD (l : List (Int × Option Int)) : PyData → Bool
  | .tuple [.int t, .int b] => allK t b l
  | _ => false
def backD (n d : Int) (l : List (Int × Option Int)) : List PyData := ((frows n d.toNat).filter (keepD l)).map fun x => x
def sp_all_back (P P2 : Addr) : Sp := fun vs H Q _ => ∃ (v w : V) (n d : Int) (l : List (Int × Option Int)), vs = [v, w] ∧ Dt H v (.list (rdN l)) ∧ RdN l ∧ Dt H w (.tuple [.int n, .int d]) ∧ 0 ≤ n ∧ n ≤ 60 ∧ 1 ≤ d ∧ d ≤ 60 ∧ H P = some (TabX P) ∧ H P2 = some (TabX P2) ∧ ∀ p H', H p = none → Ex H H' → AccL H' p (backD n d l) → Q (.ref p) H'
theorem ok_all_back (T : Txt K mg base z) : FnOk P w K mg base CX0 10 z.a_all_back z.d_all_back ["readings", "bounds"] (sp_all_back z.p_is_readings z.p_keeps_all) := by
  refine T.F_all_back.ok sc_all_back (fun vs H Q E h => ?_) (fun cdv A outer s H vs Q E hr h => ?_)
  · obtain ⟨v, w, n, d, l, rfl, _⟩ := h
    rfl
  · obtain ⟨v, w, n, d, l, rfl, hv, hR, hw, n0, n1, d0, d1, hP, hP2, q⟩ := h
    refine ⟨_, (PSs.nox (pss_cons (ps_expr (pe_call (ok_need_readings T) hr (by rfl) T.g_need_readings T.F_need_readings.kp T.b_need_readings .nil pass0 (pa_cons (pv 0) pa_nil)))
      (pss_one (ps_ret (pe_lc (own := [("f", 2)]) (by rfl) sc_all_back.nd (pi_listK K (pe_call (ok_all_within T) (hr.mono (by decide)) (by rfl) T.g_all_within T.F_all_within.kp T.b_all_within .nil pass0 (pa_cons (pv 1) pa_nil))) (blkOk_by (own := [("f", 2)]) (N := N_all_back) (sc := (defScope s_all_back)) (by decide +kernel)) (fun _ _ _ _ _ => (pg_name (i := 2) sc_all_back.nd rfl (.inl rfl))) (fun _ _ _ _ _ => (pts_one (pt_val (pe_call (ok_keeps_all T) (hr.mono (by decide)) (by rfl) T.g_keeps_all T.F_keeps_all.kp T.b_keeps_all .nil pass0 (pa_cons (pv 2) (pa_cons (pv 0) pa_nil)))))) (fun _ _ _ _ _ => (pv 2))))))), ?_⟩
    refine ⟨v, rfl, v, _, rfl, hv, hP, hR.isR, fun H1 e1 => ?_⟩
    show tRet (tLc (iList K (tCall sp_all_within [] E0 (tCons (tVar 1) tNil))) (gName 2) (tB (tCall (sp_keeps_all z.p_keeps_all) [] E0 (tCons (tVar 2) (tCons (tVar 0) tNil)))) (tVar 2) [2]) { nx := fun x H' => Q V.non H', rt := Q } [some v, some w, none] H1
    have hN : EvN (tCall sp_all_within [] E0 (tCons (tVar 1) tNil)) [some v, some w, none] H1 (frows n d.toNat) := fun H2 e2 Q k => ⟨w, rfl, w, n, d, rfl, (hw.up e1).up e2, n0, n1, d0, d1, k⟩
    refine s_retN (ds := backD n d l) ?_ (fun p H2 hp e2 a => q p H2 (fresh_back e1 hp) (e1.trans e2) a)
    refine en_lcD (keepD l) (fun x => x) hN.ed (Nat.le_trans (frows_len n0 n1 d.toNat) (by omega)) (fun _ => rfl) (fun H2 x dx e2 hm hx => ?_) (fun H2 x dx e2 hm hx _ => ed_var rfl hx) (fun dx hm _ => ?_)
    · obtain ⟨t, b, rfl, _, _, b0, b1, _⟩ := frows_mem n0 hm
      have hbs : b.natAbs < 2 ^ 250 := Nat.lt_of_lt_of_le (show b.natAbs < 2 ^ 10 by omega) (by decide)
      exact fun H3 e3 Q k => ⟨x, rfl, v, rfl, x, v, t, b, l, rfl, hx.up e3, hbs, ((hv.up e1).up e2).up e3, hR, ((e1.trans e2).trans e3) _ _ hP2, _, rfl, k H3 (Ex.refl _)⟩
    · obtain ⟨t, b, rfl, _⟩ := frows_mem n0 hm
      rfl
theorem lc1_inX {K : PySem.W.Frag} {tl : TE} {g : TG} {tt : TT} {te : TE} {vs : List Nat} {σ : L2.St} {H : Hp} {Q : VK} (h : tl σ H fun x H1 => tLc (iList K (tC x)) g tt te vs σ H1 Q) : tLc (iList K tl) g tt te vs σ H Q := h
def spX_all_back (CR CB P P2 : Addr) : Sp := fun vs H Q E => ∃ (v w : V) (dv dw : PyData), vs = [v, w] ∧ Dt H v dv ∧ Dt H w dw ∧ H P = some (TabX P) ∧ H P2 = some (TabX P2) ∧
  (dReadings dv = false → ∀ H', Ex H H' → E (.ref CR) none H') ∧ (dReadings dv = true → dBoundsTo 60 dw = false → ∀ H', Ex H H' → E (.ref CB) none H') ∧
  (dReadings dv = true → dBoundsTo 60 dw = true → ∀ p H', Ex H H' → Q (.ref p) H')
theorem okX_all_back (T : Txt K mg base z) : FnOk P w K mg base (L2.CX P w) 10 z.a_all_back z.d_all_back ["readings", "bounds"] (spX_all_back z.k_NoReadings z.k_NoBounds z.p_is_readings z.p_keeps_all) := by
  refine T.F_all_back.ok (CX := L2.CX P w) sc_all_back (fun vs H Q E h => ?_) (fun cdv A outer s H vs Q E hr h => ?_)
  · obtain ⟨v, w, dv, dw, rfl, _⟩ := h
    rfl
  · obtain ⟨v, w, dv, dw, rfl, hv, hw, hP, hP2, qr, qb, q⟩ := h
    refine ⟨_, (pss_cons (ps_expr (pe_callS (okX_need_readings T) hr (by rfl) T.g_need_readings T.F_need_readings.kp T.b_need_readings (passAt takes_cx) (pa_cons (pv 0) pa_nil)))
      (pss_one (ps_ret (pe_lc (own := [("f", 2)]) (by rfl) sc_all_back.nd (pi_listK K (pe_callS (okX_all_within T) (hr.mono (by decide)) (by rfl) T.g_all_within T.F_all_within.kp T.b_all_within (passAt takes_cx) (pa_cons (pv 1) pa_nil))) (blkOk_by (own := [("f", 2)]) (N := N_all_back) (sc := (defScope s_all_back)) (by decide +kernel)) (fun _ _ _ _ _ => (pg_name (i := 2) sc_all_back.nd rfl (.inl rfl))) (fun _ _ _ _ _ => (pts_one (pt_val (pe_call (ok_keeps_all T) (hr.mono (by decide)) (by rfl) T.g_keeps_all T.F_keeps_all.kp T.b_keeps_all .nil pass0 (pa_cons (pv 2) (pa_cons (pv 0) pa_nil)))))) (fun _ _ _ _ _ => (pv 2)))))), ?_⟩
    refine ⟨v, rfl, v, dv, rfl, hv, hP, fun hr H1 e1 => ?_, fun hr H1 e1 => qr hr H1 e1⟩
    obtain ⟨l, rfl, hR⟩ := readings_get hr
    dsimp only
    refine go_ret ?_
    refine lc1_inX ?_
    refine ⟨w, rfl, w, dw, rfl, hw.up e1, fun hb => qb hr hb H1 e1, fun hb => ?_⟩
    obtain ⟨n, d, rfl, n0, d0, n1, d1⟩ := bto_get hb
    refine ⟨n, d, rfl, fun p H2 hp e2 aF => ?_⟩
    have hv2 := (hv.up e1).up e2
    have hP22 := (e1.trans e2) _ _ hP2
    have hN : EvN (tLc (iList K (tC (.ref p))) (gName 2) (tB (tCall (sp_keeps_all z.p_keeps_all) [] E0 (tCons (tVar 2) (tCons (tVar 0) tNil)))) (tVar 2) [2]) [some v, some w, none] H2 (backD n d l) := by
      refine en_lcD (keepD l) (fun x => x) (fun H3 e3 Q k => k _ H3 (Ex.refl _) (aF.dt.up e3)) (Nat.le_trans (frows_len n0 n1 d.toNat) (by omega)) (fun _ => rfl) (fun H2 x dx e2 hm hx => ?_) (fun H2 x dx e2 hm hx _ => ed_var rfl hx) (fun dx hm _ => ?_)
      · obtain ⟨t, b, rfl, _, _, b0, b1, _⟩ := frows_mem n0 hm
        have hbs : b.natAbs < 2 ^ 250 := Nat.lt_of_lt_of_le (show b.natAbs < 2 ^ 10 by omega) (by decide)
        exact fun H3 e3 Q k => ⟨x, rfl, v, rfl, x, v, t, b, l, rfl, hx.up e3, hbs, (hv2.up e2).up e3, hR, (e2.trans e3) _ _ hP22, _, rfl, k H3 (Ex.refl _)⟩
      · obtain ⟨t, b, rfl, _⟩ := frows_mem n0 hm
        rfl
    exact hN H2 (Ex.refl _) _ fun p2 H3 hp2 e3 a3 => q hr hb p2 H3 ((e1.trans e2).trans e3)
def sp__law_cell_at (K : PySem.W.Frag) : Sp := fun vs H Q _ => ∃ (a : Addr) (ns : List Int) (k : Int), vs = [.ref a, .int k] ∧ SqL K H a (ns.map V.int) ∧ 0 ≤ k ∧ ∀ c, Q (.int c) H
theorem ok__law_cell_at (T : Txt K mg base z) : FnOk P w K mg base CX0 1 z.a__law_cell_at z.d__law_cell_at ["script", "k"] (sp__law_cell_at K) := by
  refine T.F__law_cell_at.ok sc__law_cell_at (fun vs H Q E h => ?_) (fun cdv A outer s H vs Q E hr h => ?_)
  · obtain ⟨a, ns, k, rfl, _⟩ := h
    rfl
  · obtain ⟨a, ns, k, rfl, hS, k0, q⟩ := h
    refine ⟨_, (PSs.nox (pss_cons (ps_if (pt_cmpR op_lt (pv 1) (pe_callB (r := rLenS K) call_len_seq (by rfl) T.m_len (by decide +kernel) (pa_cons (pv 0) pa_nil)) (nomark _)) (pss_one (ps_ret (pe_ix (r := rIxL K) ix_list (pv 0) (pv 1) (fun _ _ => rfl)))) pss_nil)
      (pss_one (ps_ret pe_int)))), ?_⟩
    refine ⟨.int k, rfl, .ref a, rfl, a, _, rfl, .inl hS, k, _, rfl, rfl, _, rfl, it2 (fun e => ?_) (fun e => q 0)⟩
    have e : k < ((ns.map V.int).length : Int) := of_decide_eq_true e
    rw [List.length_map] at e
    exact ⟨.ref a, rfl, .int k, rfl, a, _, k, .int (iAt ns k), rfl, rfl, hS, atI_of k0 (by rw [List.getElem?_map, iAt_get k0 e]; rfl), q _⟩
def sp__law_stir : Sp := fun vs H Q _ => ∃ c k : Int, vs = [.int c, .int k] ∧ 0 ≤ k ∧ k < 1000 ∧ ∀ x, 0 ≤ x → x < 1073741824 → Q (.int x) H
theorem ok__law_stir (T : Txt K mg base z) : FnOk P w K mg base CX0 1 z.a__law_stir z.d__law_stir ["cell", "k"] (sp__law_stir) := by
  refine T.F__law_stir.ok sc__law_stir (fun vs H Q E h => ?_) (fun cdv A outer s H vs Q E hr h => ?_)
  · obtain ⟨c, k, rfl, _⟩ := h
    rfl
  · obtain ⟨c, k, rfl, k0, k1, q⟩ := h
    refine ⟨_, (PSs.nox (pss_cons (ps_set (i := 2) sc__law_stir.nd rfl (.inl rfl) (pe_op op_mod (pe_op op_mul (pe_op op_add (pe_op op_add (pe_op op_mod (pv 0) pe_int) (pe_op op_mul pe_int (pv 1))) pe_int) pe_int) pe_int))
      (pss_cons (ps_set (i := 2) sc__law_stir.nd rfl (.inl rfl) (pe_op op_mod (pe_op op_mulW (pv 2) (pv 2)) pe_int))
      (pss_one (ps_ret (pe_op op_fdivW (pe_op op_mod (pe_op op_mul (pe_op op_add (pv 2) (pe_op op_mul pe_int (pv 1))) pe_int) pe_int) pe_int)))))), ?_⟩
    refine ⟨.int c, rfl, c, _, rfl, rfl, (show (0 : Int) < 2147483629 by decide), .int k, rfl, _, k, rfl, rfl, .inl ⟨by decide, by decide⟩, _, _, rfl, rfl, _, _, rfl, rfl, _, _, rfl, rfl, .inr ⟨by decide, by decide⟩, _, _, rfl, rfl, (show (0 : Int) < 2147483647 by decide), ?_⟩
    have m1 := Int.emod_nonneg ((c % 2147483629 + 9973 * k + 5) * 48271) (show (2147483647 : Int) ≠ 0 by decide)
    have m2 := Int.emod_lt_of_pos ((c % 2147483629 + 9973 * k + 5) * 48271) (show (0 : Int) < 2147483647 by decide)
    try dsimp only
    generalize (c % 2147483629 + 9973 * k + 5) * 48271 % 2147483647 = v1 at m1 m2 ⊢
    have w1 : v1.natAbs < 2 ^ 40 := by omega
    refine ⟨.int v1, rfl, .int v1, rfl, _, _, rfl, rfl, wide_mul w1 w1 (by decide) (by decide) (by decide), _, _, rfl, rfl, (show (0 : Int) < 2147483587 by decide), ?_⟩
    try dsimp only
    generalize v1 * v1 % 2147483587 = v2
    refine ⟨.int v2, rfl, .int k, rfl, _, k, rfl, rfl, .inl ⟨by decide, by decide⟩, _, _, rfl, rfl, _, _, rfl, rfl, .inr ⟨by decide, by decide⟩, _, _, rfl, rfl, (show (0 : Int) < 2147483563 by decide), _, _, rfl, rfl, wide_div (b := 40) (by decide) (by decide) (by decide) (by decide), q _ ?_ ?_⟩
    · have := Int.emod_nonneg ((v2 + 7919 * k) * 16807) (show (2147483563 : Int) ≠ 0 by decide)
      omega
    · have := Int.emod_lt_of_pos ((v2 + 7919 * k) * 16807) (show (0 : Int) < 2147483563 by decide)
      omega
def sp__law_deck : Sp := fun vs H Q _ => ∃ c m : Int, vs = [.int c, .int m] ∧ 1 ≤ m ∧ m ≤ 1000 ∧ ∀ da H', H da = none → Ex H H' → DeckB H' da → Q (.ref da) H'
theorem ok__law_deck (T : Txt K mg base z) : FnOk P w K mg base CX0 2 z.a__law_deck z.d__law_deck ["cell", "many"] (sp__law_deck) := by
  refine T.F__law_deck.ok sc__law_deck (fun vs H Q E h => ?_) (fun cdv A outer s H vs Q E hr h => ?_)
  · obtain ⟨c, m, rfl, _⟩ := h
    rfl
  · obtain ⟨c, m, rfl, m0, m1, q⟩ := h
    refine ⟨_, (PSs.nox (pss_cons (ps_set (i := 2) sc__law_deck.nd rfl (.inl rfl) (pe_lst pa_nil))
      (pss_cons (ps_set (i := 3) sc__law_deck.nd rfl (.inl rfl) (pv 0))
      (pss_cons (ps_for PassesOwn.never rfl (pi_range1 (by rfl) T.m_range (pa_cons (pv 1) pa_nil)) (pg_name (i := 4) sc__law_deck.nd rfl (.inl rfl)) (pss_cons (ps_set (i := 5) sc__law_deck.nd rfl (.inl rfl) (pe_call (ok__law_stir T) hr (by rfl) T.g__law_stir T.F__law_stir.kp T.b__law_stir .nil pass0 (pa_cons (pv 0) (pa_cons (pv 4) pa_nil))))
      (pss_cut (ps_if (pt_cmpR op_ge (pv 0) (pe_op op_pow pe_int pe_int) (nomark _)) (pss_one (ps_set (i := 5) sc__law_deck.nd rfl (.inl rfl) (pe_op op_mod (pv 3) pe_int))) pss_nil)
      (pss_cons (ps_set (i := 3) sc__law_deck.nd rfl (.inl rfl) (pe_op op_fdivW (pv 3) pe_int))
      (pss_one (ps_expr (pe_bm PySem.F.plainAttrs_list PySem.F.slot_list_append PySem.F.type_list_append mt_append (pv 2) (pa_cons (pv 5) pa_nil))))))))
      (pss_one (ps_ret (pe_revLK K (pv 2)))))))), ?_⟩
    refine ⟨sz_of (Nat.le_of_ble_eq_true rfl), fun fo hfo => ⟨.int c, rfl, .int m, rfl, m, rfl, by omega, by omega, for_range (lo := 0) (n := m.toNat) (fun i σ H' => ∃ (dg : Int) (y4 y5 : Option V) (xs : List Int), σ = [some (.int c), some (.int m), some (.ref fo), some (.int dg), y4, y5] ∧ H' fo = some (.lst (xs.map V.int)) ∧ xs.length = i ∧ (∀ x ∈ xs, 0 ≤ x ∧ x < 1073741824) ∧ Ex H H') ⟨c, none, none, [], rfl, upd_same, rfl, (fun x hx => by cases hx), Ex.new hfo⟩ (fun i σ H1 hi hP => ?_) (fun σ H1 hP => ?_)⟩⟩
    · obtain ⟨dg, y4, y5, xs, rfl, hf, hl, hs, e1⟩ := hP
      refine ⟨.int c, rfl, .int (0 + (i : Int)), rfl, c, 0 + (i : Int), rfl, by omega, by omega, fun x x0 x1 => ?_⟩
      refine ⟨fun σ H' => ∃ x : Int, σ = [some (.int c), some (.int m), some (.ref fo), some (.int dg), some (.int (0 + (i : Int))), some (.int x)] ∧ 0 ≤ x ∧ x < 1073741824 ∧ H' = H1, ?_, fun σ H2 hM => ?_⟩
      · refine ⟨.int c, rfl, 10, 18, rfl, rfl, ⟨by decide, by decide, by decide⟩, _, _, rfl, rfl, _, rfl, it2 (fun _ => ?_) (fun _ => ⟨x, rfl, x0, x1, rfl⟩)⟩
        have g0 := Int.emod_nonneg dg (show (720720 : Int) ≠ 0 by decide)
        have g1 := Int.emod_lt_of_pos dg (show (0 : Int) < 720720 by decide)
        exact ⟨.int dg, rfl, dg, _, rfl, rfl, (show (0 : Int) < 720720 by decide), dg % 720720, rfl, g0, by omega, rfl⟩
      obtain ⟨x, rfl, x0, x1, rfl⟩ := hM
      refine ⟨.int dg, rfl, dg, _, rfl, rfl, wide_div (b := 40) (by decide) (by decide) (by decide) (by decide), ?_⟩
      have hlen : (xs.map V.int).length = xs.length := List.length_map ..
      refine ⟨.ref fo, rfl, .inl ⟨rfl, _, .inl (.inl hf)⟩, .int x, rfl, fo, _, .int x, rfl, rfl, hf, sz_lt (by omega), ?_⟩
      refine ⟨_, _, _, xs ++ [x], rfl, ?_, ?_, fun y hy => ?_, fun a o ho => ?_⟩
      · rw [upd_same, List.map_append]
        rfl
      · rw [List.length_append, hl]
        rfl
      · rcases List.mem_append.mp hy with z | z
        · exact hs y z
        · have z : y = x := by simpa using z
          rw [z]
          exact ⟨x0, x1⟩
      · rw [upd_ne (ne_of_none ho hfo)]
        exact e1 _ _ ho
    · obtain ⟨dg, y4, y5, xs, rfl, hf, hl, hs, e1⟩ := hP
      refine ⟨.ref fo, rfl, fo, _, rfl, sq_of hf, fun da hda => ?_⟩
      refine q da _ (fresh_back e1 hda) (e1.trans (Ex.new hda)) ⟨xs.reverse, by rw [upd_same, List.map_reverse], by rw [List.length_reverse]; omega, by rw [List.length_reverse]; omega, fun x hx => hs x (List.mem_reverse.mp hx)⟩
def sp__law_next : Sp := fun vs H Q _ => ∃ da : Addr, vs = [.ref da] ∧ DeckB H da ∧ ∀ x H', 0 ≤ x → x < 1073741824 → DeckB H' da → ExB da H H' → Q (.int x) H'
theorem deck_last {xs : List Int} (h : 2 ≤ xs.length) : ∃ ys y, xs = ys ++ [y] ∧ 1 ≤ ys.length ∧ ys.length ≤ xs.length ∧ (xs.map V.int)[(xs.map V.int).length - 1]? = some (.int y) ∧ (xs.map V.int).dropLast = ys.map V.int := by
  have hne : xs ≠ [] := fun e => by
    rw [e] at h
    cases h
  refine ⟨xs.dropLast, xs.getLast hne, (List.dropLast_concat_getLast hne).symm, by rw [List.length_dropLast]; omega, by rw [List.length_dropLast]; omega, ?_, List.map_dropLast.symm⟩
  rw [List.length_map, List.getElem?_map, List.getElem?_eq_getElem (show xs.length - 1 < xs.length by omega), List.getLast_eq_getElem]
  rfl
theorem ok__law_next (T : Txt K mg base z) : FnOk P w K mg base CX0 2 z.a__law_next z.d__law_next ["deck"] (sp__law_next) := by
  refine T.F__law_next.ok sc__law_next (fun vs H Q E h => ?_) (fun cdv A outer s H vs Q E hr h => ?_)
  · obtain ⟨da, rfl, _⟩ := h
    rfl
  · obtain ⟨da, rfl, ⟨xs, hd, hl, hh, hs⟩, q⟩ := h
    refine ⟨_, (PSs.nox (pss_cons (ps_if (pt_cmpR op_eq (pe_callB (r := rLenS K) call_len_seq (by rfl) T.m_len (by decide +kernel) (pa_cons (pv 0) pa_nil)) pe_int (nomark _)) (pss_one (ps_expr (pe_bm PySem.F.plainAttrs_list PySem.F.slot_list_insert PySem.F.type_list_insert mt_insert (pv 0) (pa_cons pe_int (pa_cons (pe_op op_mulW (pe_call (ok__law_stir T) hr (by rfl) T.g__law_stir T.F__law_stir.kp T.b__law_stir .nil pass0 (pa_cons (pe_ix (r := rIxL K) ix_list (pv 0) pe_int (fun _ _ => rfl)) (pa_cons pe_int pa_nil))) (pe_callTy call_int1 (by rfl) T.m_int (by decide +kernel) (pa_cons (pe_cmpR op_gt (pe_ix (r := rIxL K) ix_list (pv 0) pe_int (fun _ _ => rfl)) pe_int (nomark _)) pa_nil))) pa_nil))))) pss_nil)
      (pss_one (ps_ret (pe_bm0 PySem.F.plainAttrs_list PySem.F.slot_list_pop PySem.F.type_list_pop mt_pop (pv 0)))))), ?_⟩
    have hlen : (xs.map V.int).length = xs.length := List.length_map ..
    refine ⟨.ref da, rfl, da, _, rfl, .inl (sq_of hd), rfl, _, rfl, it2 (fun e => ?_) (fun e => ?_)⟩
    · rw [dI, hlen] at e
      have e : (xs.length : Int) = 1 := of_decide_eq_true e
      obtain ⟨x0, rfl⟩ : ∃ x0, xs = [x0] := by
        match xs, (show xs.length = 1 by omega) with
        | [x0], _ => exact ⟨x0, rfl⟩
      obtain ⟨s0, s1⟩ := hs x0 (.head _)
      refine ⟨.ref da, rfl, .inl ⟨rfl, _, .inl (.inl hd)⟩, .ref da, rfl, da, _, 0, .int x0, rfl, rfl, sq_of hd, rfl, x0, 7, rfl, by decide, by decide, fun r r0 r1 => ?_⟩
      refine ⟨.ref da, rfl, da, _, 0, .int x0, rfl, rfl, sq_of hd, rfl, _, _, rfl, rfl, .inr ⟨_, rfl, _, _, rfl, rfl, ?_, ?_⟩⟩
      · refine wide_mul (a := 40) (b := 10) (by omega) ?_ (by decide) (by decide) (by decide)
        split <;> decide
      have hv : 0 ≤ r * (if decide (0 < x0) = true then 1 else 0) ∧ r * (if decide (0 < x0) = true then 1 else 0) < 1073741824 := by
        by_cases z : decide (0 < x0) = true
        · rw [if_pos z]
          omega
        · rw [if_neg z]
          omega
      refine ⟨da, _, 0, .int (r * (if decide (0 < x0) = true then 1 else 0)), rfl, rfl, hd, sz_lt (Nat.le_of_ble_eq_true rfl), by decide, by decide, ?_⟩
      obtain ⟨v0, v1⟩ := hv
      generalize r * (if decide (0 < x0) = true then 1 else 0) = v at v0 v1 ⊢
      have hd2 : (upd H da (.lst ([x0].map V.int |>.take (0 : Int).toNat |> (· ++ [V.int v] ++ ([x0].map V.int).drop (0 : Int).toNat)))) da = some (.lst [.int v, .int x0]) := upd_same
      refine ⟨.ref da, rfl, .inl ⟨rfl, _, .inl (.inl hd2)⟩, da, _, .int x0, rfl, rfl, hd2, rfl, q x0 _ s0 s1 ⟨[v], upd_same, Nat.le_refl 1, Nat.le_of_ble_eq_true rfl, fun x hx => ?_⟩ (ExB.upd.trans ExB.upd)⟩
      rcases List.mem_cons.mp hx with rfl | hx
      · exact ⟨v0, v1⟩
      · cases hx
    · rw [dI, hlen] at e
      have e : ¬ (xs.length : Int) = 1 := of_decide_eq_false e
      obtain ⟨ys, y, rfl, l1, l2, h1, h2⟩ := deck_last (xs := xs) (by omega)
      refine ⟨.ref da, rfl, .inl ⟨rfl, _, .inl (.inl hd)⟩, da, _, .int y, rfl, rfl, hd, h1, ?_⟩
      rw [h2]
      obtain ⟨s0, s1⟩ := hs y (List.mem_append_right _ (.head _))
      exact q y _ s0 s1 ⟨ys, upd_same, l1, by omega, fun x hx => hs x (List.mem_append_left _ hx)⟩ ExB.upd
def sp__law_primes : Sp := fun vs H Q _ => ∃ (da : Addr) (many most : Int), vs = [.ref da, .int many, .int most] ∧ 0 ≤ many ∧ many ≤ 10 ∧ (most = 30 ∨ most = 100 ∨ most = 1000) ∧ DeckB H da ∧
  ∀ (D : Addr) (ps : List Int) (H' : Hp), ps.Nodup → (∀ x ∈ ps, x ∈ primesL) → (ps.length : Int) = many → H' D = some (.lst (ps.map V.int)) → H D = none → DeckB H' da → ExB da H H' → Q (.ref D) H'
def parts11 : List Int := [2, 3, 5, 7, 11, 13, 17, 19, 23, 29, 31]
def sieve (most : Int) : List Int := (irng 2 most).filter fun p => (parts11.filter fun d => decide (d < p) && decide (p % d = 0)).isEmpty
theorem sieve30 : sieve 30 = primesL.filter fun x => decide (x < 30) := by decide +kernel
theorem sieve100 : sieve 100 = primesL.filter fun x => decide (x < 100) := by decide +kernel
theorem sieve1000 : sieve 1000 = primesL.filter fun x => decide (x < 1000) := by decide +kernel
theorem sieve_ok {most : Int} (h : most = 30 ∨ most = 100 ∨ most = 1000) : LeftOk (sieve most) 6 := by
  have e : sieve most = primesL.filter fun x => decide (x < most) := by
    rcases h with rfl | rfl | rfl
    · exact sieve30
    · exact sieve100
    · exact sieve1000
  have l : 10 ≤ (sieve most).length := by
    rcases h with rfl | rfl | rfl <;> decide +kernel
  rw [e] at l ⊢
  refine ⟨primesL_nd.sublist List.filter_sublist, fun x hx => (List.mem_filter.mp hx).1, by omega, ?_⟩
  have := List.length_filter_le (fun x => decide (x < most)) primesL
  rw [primesL_len] at this
  exact this
theorem ok__law_primes (T : Txt K mg base z) : FnOk P w K mg base CX0 3 z.a__law_primes z.d__law_primes ["deck", "many", "most"] (sp__law_primes) := by
  refine T.F__law_primes.ok sc__law_primes (fun vs H Q E h => ?_) (fun cdv A outer s H vs Q E hr h => ?_)
  · obtain ⟨da, many, most, rfl, _⟩ := h
    rfl
  · obtain ⟨da, many, most, rfl, m0, m1, hm, hD, q⟩ := h
    have hm2 : 30 ≤ most ∧ most ≤ 1000 := by omega
    refine ⟨_, (PSs.nox (pss_cons (ps_set (i := 3) sc__law_primes.nd rfl (.inr rfl) (pe_lst (pa_cons pe_int (pa_cons pe_int (pa_cons pe_int (pa_cons pe_int (pa_cons pe_int (pa_cons pe_int (pa_cons pe_int (pa_cons pe_int (pa_cons pe_int (pa_cons pe_int (pa_cons pe_int pa_nil)))))))))))))
      (pss_cons (ps_set (i := 4) sc__law_primes.nd rfl (.inr rfl) (pe_lc (own := [("p", 5)]) (by rfl) sc__law_primes.nd (pi_range2 (by rfl) T.m_range (pa_cons pe_int (pa_cons (pv 2) pa_nil))) (blkOk_by (own := [("p", 5)]) (N := N__law_primes) (sc := (defScope s__law_primes)) (by decide +kernel)) (fun _ _ _ _ _ => (pg_name (i := 5) sc__law_primes.nd rfl (.inr rfl))) (fun _ _ _ _ _ => (pts_one (pt_cmpR (r := rEqD K) (op_eqD hr.units) (pe_lc (own := [("q", 6)]) (by rfl) sc__law_primes.nd (pi_listK K (pv 3)) (blkOk_by (own := [("q", 6)]) (N := N__law_primes) (sc := (relS ({ kind := .function, names := [(".0", .local), ("p", .cell), ("parts", .free)], isGenerator := false, isCoroutine := false, more := [] } : Scope) (defScope s__law_primes))) (by decide +kernel)) (fun _ _ _ _ _ => (pg_name (i := 6) sc__law_primes.nd rfl (.inl rfl))) (fun _ _ _ _ _ => (pts_one (PW.pt (pw_and (pt_cmpR op_lt (pv 6) (pv 5) (nomark _)) (pw_and1 (pt_cmpR op_eq (pe_op op_mod (pv 5) (pv 6)) pe_int (nomark _))))))) (fun _ _ _ _ _ => (pv 6))) (pe_lst pa_nil) (nomark _)))) (fun _ _ _ _ _ => (pv 5))))
      (pss_one (ps_ret (pe_lc (own := [("k", 7)]) (by rfl) sc__law_primes.nd (pi_range1 (by rfl) T.m_range (pa_cons (pv 1) pa_nil)) (blkOk_by (own := [("k", 7)]) (N := N__law_primes) (sc := (defScope s__law_primes)) (by decide +kernel)) (fun _ _ _ _ _ => (pg_name (i := 7) sc__law_primes.nd rfl (.inl rfl))) (fun _ _ _ _ _ => pts_nil) (fun _ _ _ _ _ => (pe_bmK K PySem.F.plainAttrs_list PySem.F.slot_list_pop PySem.F.type_list_pop mt_popAt (pv 4) (pa_cons (pe_op op_mod (pe_call (ok__law_next T) hr (by rfl) T.g__law_next T.F__law_next.kp T.b__law_next .nil pass0 (pa_cons (pv 0) pa_nil)) (pe_callB (r := rLenS K) call_len_seq (by rfl) T.m_len (by decide +kernel) (pa_cons (pv 4) pa_nil))) pa_nil))))))))), ?_⟩
    refine ⟨sz_of (Nat.le_of_ble_eq_true rfl), fun pt hpt => ?_⟩
    have e1 : Ex H (upd H pt (.lst (parts11.map V.int))) := Ex.new hpt
    have hp1 : (upd H pt (.lst (parts11.map V.int))) pt = some (.lst (parts11.map V.int)) := upd_same
    show tSeq _ _ _ [some (.ref da), some (.int many), some (.int most), some (.ref pt), none, none, none, none] (upd H pt (.lst (parts11.map V.int)))
    revert e1 hp1
    generalize upd H pt (.lst (parts11.map V.int)) = H1
    intro e1 hp1
    have hN : EvN (tLc (iRng2 (tCons (tC (V.int 2)) (tCons (tVar 2) tNil))) (gName 5) (tTest (tOp (rEqD K) (tLc (iList K (tVar 3)) (gName 6) (tAnd (tTest (tOp (rI0 fun i j => V.bl (decide (i < j))) (tVar 6) (tVar 5))) (tTest (tOp rEq (tOp (rI (fun x j => 0 < j) fun i j => V.int (i % j)) (tVar 5) (tVar 6)) (tC (V.int 0))))) (tVar 6) [6]) (tLst tNil))) (tVar 5) [5]) [some (.ref da), some (.int many), some (.int most), some (.ref pt), none, none, none, none] H1 ((sieve most).map PyData.int) := by
      refine en_lcR2 (lo := 2) (hi := most) (fun p => (parts11.filter fun d => decide (d < p) && decide (p % d = 0)).isEmpty) PyData.int (ea_cons ev_c (ea_cons (ev_var rfl) ea_nil)) ⟨by decide, by omega, by omega, by decide, by omega⟩ (fun _ => rfl) (fun p p0 p1 => ?_) (fun x _ _ _ => ed_int (ev_var rfl)) (fun _ _ _ _ => rfl)
      have hN1 : EvN (tLc (iList K (tVar 3)) (gName 6) (tAnd (tTest (tOp (rI0 fun i j => V.bl (decide (i < j))) (tVar 6) (tVar 5))) (tTest (tOp rEq (tOp (rI (fun x j => 0 < j) fun i j => V.int (i % j)) (tVar 5) (tVar 6)) (tC (V.int 0))))) (tVar 6) [6]) [some (.ref da), some (.int many), some (.int most), some (.ref pt), none, some (.int p), none, none] H1 ((parts11.filter fun d => decide (d < p) && decide (p % d = 0)).map PyData.int) := by
        rw [← flt_ints (fun d => decide (d < p) && decide (p % d = 0)) (fun d => decide (dI0 d < p) && decide (p % dI0 d = 0)) (fun _ => rfl) (fun d => d) (fun _ => rfl)]
        refine en_lcD _ _ (ed_var rfl (.lst hp1 (DtAll.ints parts11))) (by decide) (fun _ => rfl) (fun H7 w d e7 hm hv => ?_) (fun H7 w d e7 hm hv _ => ed_var rfl hv) (fun d hm _ => ?_)
        · obtain ⟨x, hx, rfl⟩ := List.mem_map.mp hm
          cases hv
          have xp : 0 < x := (by decide : ∀ x ∈ parts11, 0 < x) x hx
          have h := rv_eq (H := H7) (x := .int (p % x)) (y := .int 0) rfl
          rw [dI] at h
          exact et_and (et_test (ev_op (ev_var (v := .int x) rfl) (ev_var (v := .int p) rfl) rv_I0)) fun _ => et_test (ev_op (ev_op (ev_var (v := .int p) rfl) (ev_var (v := .int x) rfl) (rv_I (C := fun _ j => 0 < j) xp)) ev_c h)
        · obtain ⟨x, hx, rfl⟩ := List.mem_map.mp hm
          rfl
      have h := ev_eqNil (K := K) hN1 (shaped_ints _)
      rw [show ((parts11.filter fun d => decide (d < p) && decide (p % d = 0)).map PyData.int).isEmpty = (parts11.filter fun d => decide (d < p) && decide (p % d = 0)).isEmpty from by cases (parts11.filter fun d => decide (d < p) && decide (p % d = 0)) <;> rfl] at h
      exact et_test h
    refine q_asgN hN fun lf H2 hlf0 e2 aL => ?_
    obtain ⟨acc, hlf, b2, b3⟩ := aL
    have ex := DtAll.ints_eq _ b2
    subst ex
    have hL := sieve_ok hm
    generalize sieve most = qs at hlf b2 b3 hL
    have e12 := e1.trans e2
    have flf : H lf = none := fresh_back e1 hlf0
    have hD2 := hD.up e12
    have hlfn : lf ≠ da := hD.ne flf
    refine ⟨.int many, rfl, many, rfl, by omega, by omega, fun D hDn => lc_range (lo := 0) (n := many.toNat) (fun i H' => ∃ qs ps : List Int, H' lf = some (.lst (qs.map V.int)) ∧ LeftOk qs (6 + i) ∧ H' D = some (.lst (ps.map V.int)) ∧ ps.length = i ∧ i ≤ 10 ∧ ps.Nodup ∧ (∀ x ∈ ps, x ∈ primesL) ∧ (∀ x ∈ qs, x ∉ ps) ∧ DeckB H' da ∧ ExB da H H') ?h0 (fun i H7 hi hP => ?_) (fun H7 hP => ?_)⟩
    case h0 =>
      have e7 : Ex H2 (upd H2 D (.lst [])) := Ex.new hDn
      exact ⟨qs, [], e7 _ _ hlf, hL, upd_same, rfl, Nat.zero_le _, List.nodup_nil, (fun x hx => by cases hx), (fun x _ hx => by cases hx), hD2.up e7, ExB.of (e12.trans e7)⟩
    · have hDp : D ≠ da := hD2.ne hDn
      have hDl : lf ≠ D := ne_of_none hlf hDn
      have hD0 : H D = none := fresh_back e12 hDn
      obtain ⟨qs, ps, hlf, hL, hDs, hpl, hi10, hnd, hpr, hdis, hD7, y7⟩ := hP
      have hlen : (qs.map V.int).length = qs.length := List.length_map ..
      have lo := hL.lo
      have hi2 := hL.hi
      refine ⟨rfl, ?_⟩
      refine ⟨.ref lf, rfl, .inl ⟨rfl, _, .inl (.inl hlf)⟩, .ref da, rfl, da, rfl, hD7, fun v H8 v0 v1 hD8 e8 => ?_⟩
      have hlf8 := e8 _ _ hlfn hlf
      refine ⟨.ref lf, rfl, lf, _, rfl, .inl (sq_of hlf8), v, _, rfl, rfl, (show (0 : Int) < ((qs.map V.int).length : Int) by omega), ?_⟩
      have i0 := Int.emod_nonneg v (show ((qs.map V.int).length : Int) ≠ 0 by omega)
      have i1 := Int.emod_lt_of_pos v (show (0 : Int) < ((qs.map V.int).length : Int) by omega)
      try dsimp only
      generalize v % ((qs.map V.int).length : Int) = ix at i0 i1 ⊢
      rw [hlen] at i1
      obtain ⟨p, hp⟩ : ∃ p, qs[ix.toNat]? = some p := ⟨_, List.getElem?_eq_getElem (show ix.toNat < qs.length by omega)⟩
      obtain ⟨hL2, hpm, hpn, hsub⟩ := hL.pop hp
      refine ⟨lf, _, ix, ix.toNat, .int p, rfl, rfl, hlf8, by omega, by omega, by rw [hlen]; exact seqIx i0 (by omega), by rw [List.getElem?_map, hp]; rfl, ?_⟩
      rw [erase_map]
      have hD8' := e8 _ _ hDp hDs
      refine ⟨ps.map V.int, by rw [upd_ne (Ne.symm hDl)]; exact hD8', sz_lt (by rw [List.length_map]; omega), qs.eraseIdx ix.toNat, ps ++ [p], ?_, hL2, ?_, ?_, by omega, ?_, fun x hx => ?_, fun x hx => ?_, ?_, ?_⟩
      · rw [upd_ne hDl]
        exact upd_same
      · rw [upd_same, List.map_append]
        rfl
      · rw [List.length_append, hpl]
        rfl
      · refine List.nodup_append.mpr ⟨hnd, by simp, fun x hx b hb => ?_⟩
        have hb : b = p := by simpa using hb
        rw [hb]
        exact fun z => hdis p (List.mem_of_getElem? hp) (z ▸ hx)
      · rcases List.mem_append.mp hx with z | z
        · exact hpr x z
        · have z : x = p := by simpa using z
          rw [z]
          exact hpm
      · intro hm
        rcases List.mem_append.mp hm with z | z
        · exact hdis x (hsub x hx) z
        · have z : x = p := by simpa using z
          exact hpn (z ▸ hx)
      · exact (hD8.dr2 (Ne.symm hlfn) ExB.upd).dr2 (Ne.symm hDp) ExB.upd
      · intro a o ha ho
        rw [upd_ne (ne_of_none ho hD0), upd_ne (ne_of_none ho flf)]
        exact e8 _ _ ha (y7 _ _ ha ho)
    · have hD0 : H D = none := fresh_back e12 hDn
      obtain ⟨qs, ps, hlf, hL, hDs, hpl, hi10, hnd, hpr, hdis, hD7, y7⟩ := hP
      exact q D ps H7 hnd hpr (by omega) hDs hD0 hD7 y7
def sp__law_no_readings : Sp := fun vs H Q _ => ∃ (da : Addr) (rv : V) (W0 : Hp) (l : List (Int × Option Int)), vs = [.ref da, rv] ∧ DeckB H da ∧ Dt W0 rv (.list (rdN l)) ∧ Ex W0 H ∧ W0 da = none ∧ RdN l ∧ l.length ≤ 5 ∧
  ∀ v ds W H', Dt W v (.list ds) → Ex W0 W → Ex W H' → W da = none → ds.length = 2 → (∀ d ∈ ds, BadR d) → DeckB H' da → ExB da H H' → Q v H'
theorem ok__law_no_readings (T : Txt K mg base z) : FnOk P w K mg base CX0 3 z.a__law_no_readings z.d__law_no_readings ["deck", "readings"] (sp__law_no_readings) := by
  refine T.F__law_no_readings.ok sc__law_no_readings (fun vs H Q E h => ?_) (fun cdv A outer s H vs Q E hr h => ?_)
  · obtain ⟨da, rv, W0, l, rfl, _⟩ := h
    rfl
  · obtain ⟨da, rv, W0, l, rfl, hD, hrd, w0, wd, hR, hl5, q⟩ := h
    refine ⟨_, (PSs.nox (pss_cons (ps_set (i := 2) sc__law_no_readings.nd rfl (.inr rfl) (pe_ix (r := rIxL K) ix_list (pe_lst (pa_cons pe_int (pa_cons pe_int (pa_cons pe_int (pa_cons pe_int pa_nil))))) (pe_op op_mod (pe_call (ok__law_next T) hr (by rfl) T.g__law_next T.F__law_next.kp T.b__law_next .nil pass0 (pa_cons (pv 0) pa_nil)) pe_int) (fun _ _ => rfl)))
      (pss_cons (ps_setLc (i := 3) (own := [("one", 8)]) (by rfl) sc__law_no_readings.nd rfl rfl (sw_true rfl rfl rfl (by decide +kernel)) (pi_listK K (pv 1)) (blkOk_by (own := [("one", 8)]) (N := N__law_no_readings) (sc := (defScope s__law_no_readings)) (by decide +kernel)) (fun _ _ _ _ _ => (pg_name (i := 8) sc__law_no_readings.nd rfl (.inl rfl))) (fun _ _ _ _ _ => (pts_one (pt_cmpR op_ne (pe_ix (r := rIxT K) ix_tup (pv 8) pe_int (fun _ _ => rfl)) (pv 2) (nomark _)))) (fun _ _ _ _ _ => (pv 8)))
      (pss_cons (ps_set (i := 4) sc__law_no_readings.nd rfl (.inl rfl) (pe_op op_mod (pe_call (ok__law_next T) hr (by rfl) T.g__law_next T.F__law_next.kp T.b__law_next .nil pass0 (pa_cons (pv 0) pa_nil)) (pe_op op_add (pe_callB (r := rLenS K) call_len_seq (by rfl) T.m_len (by decide +kernel) (pa_cons (pv 3) pa_nil)) pe_int)))
      (pss_cons (ps_set (i := 5) sc__law_no_readings.nd rfl (.inl rfl) (pe_lst (pa_cons (pe_tup (pa_cons pe_int (pa_cons pe_int pa_nil))) (pa_cons (pe_tup (pa_cons pe_int (pa_cons pe_int pa_nil))) (pa_cons (pe_tup (pa_cons pe_int (pa_cons pe_int pa_nil))) (pa_cons (pe_tup (pa_cons (pe_un un_neg (pv 2)) (pa_cons pe_int pa_nil))) (pa_cons (pe_tup (pa_cons pe_int (pa_cons pe_int pa_nil))) (pa_cons (pe_tup (pa_cons pe_int (pa_cons pe_int pa_nil))) (pa_cons (pe_tup (pa_cons pe_bl (pa_cons pe_int pa_nil))) (pa_cons (pe_tup (pa_cons pe_str (pa_cons pe_int pa_nil))) (pa_cons (pe_tup (pa_cons pe_non (pa_cons pe_int pa_nil))) (pa_cons (pe_tup (pa_cons (pe_op op_mulW (pv 2) (pv 2)) (pa_cons pe_int pa_nil))) pa_nil))))))))))))
      (pss_cons (ps_set (i := 5) sc__law_no_readings.nd rfl (.inl rfl) (pe_op op_cat (pv 5) (pe_lst (pa_cons (pe_tup (pa_cons (pv 2) (pa_cons (pv 2) pa_nil))) (pa_cons (pe_tup (pa_cons (pv 2) (pa_cons (pe_un un_neg pe_int) pa_nil))) (pa_cons (pe_tup (pa_cons (pv 2) (pa_cons pe_bl pa_nil))) (pa_cons (pe_tup (pa_cons (pv 2) (pa_cons pe_bl pa_nil))) (pa_cons (pe_tup (pa_cons (pv 2) (pa_cons pe_str pa_nil))) (pa_cons (pe_tup (pa_cons (pv 2) (pa_cons (pe_lst (pa_cons pe_int pa_nil)) pa_nil))) (pa_cons (pe_tup (pa_cons (pv 2) (pa_cons (pe_op op_pow pe_int pe_int) pa_nil))) (pa_cons (pe_tup (pa_cons (pv 2) pa_nil)) (pa_cons (pe_tup (pa_cons (pv 2) (pa_cons pe_int (pa_cons pe_int pa_nil)))) (pa_cons (pe_lst (pa_cons (pv 2) (pa_cons pe_int pa_nil))) pa_nil)))))))))))))
      (pss_cons (ps_set (i := 5) sc__law_no_readings.nd rfl (.inl rfl) (pe_op op_cat (pv 5) (pe_lst (pa_cons pe_non (pa_cons (pv 2) (pa_cons pe_str (pa_cons (pe_tup pa_nil) (pa_cons pe_dnewK (pa_cons (pe_tup (pa_cons (pe_op op_pow pe_int pe_int) (pa_cons pe_int pa_nil))) pa_nil)))))))))
      (pss_cons (ps_set (i := 6) sc__law_no_readings.nd rfl (.inl rfl) (pe_ix (r := rIxL K) ix_list (pv 5) (pe_op op_mod (pe_call (ok__law_next T) hr (by rfl) T.g__law_next T.F__law_next.kp T.b__law_next .nil pass0 (pa_cons (pv 0) pa_nil)) pe_int) (fun _ _ => rfl)))
      (pss_cons (ps_set (i := 7) sc__law_no_readings.nd rfl (.inl rfl) (pe_lst (pa_cons (pe_op op_cat (pe_op op_cat (pe_slice (r := rSlL K) sl_list (pv 3) po_none (po_some (pv 4))) (pe_lst (pa_cons (pv 6) pa_nil))) (pe_slice (r := rSlL K) sl_list (pv 3) (po_some (pv 4)) po_none)) (pa_cons (pe_callTy call_tuple_of (by rfl) T.m_tuple (by decide +kernel) (pa_cons (pv 1) pa_nil)) (pa_cons pe_non (pa_cons pe_int (pa_cons pe_bl (pa_cons pe_str (pa_cons pe_dnewK (pa_cons (pe_tup pa_nil) (pa_cons pe_str pa_nil)))))))))))
      (pss_cons (ps_set (i := 7) sc__law_no_readings.nd rfl (.inl rfl) (pe_op op_cat (pv 7) (pe_lst (pa_cons (pe_op op_cat (pe_op op_cat (pe_op op_cat (pe_slice (r := rSlL K) sl_list (pv 3) po_none (po_some (pv 4))) (pe_lst (pa_cons (pe_tup (pa_cons (pv 2) (pa_cons pe_int pa_nil))) pa_nil))) (pe_slice (r := rSlL K) sl_list (pv 3) (po_some (pv 4)) po_none)) (pe_lst (pa_cons (pe_tup (pa_cons (pv 2) (pa_cons pe_int pa_nil))) pa_nil))) (pa_cons (pe_lst (pa_cons (pe_tup (pa_cons (pv 2) (pa_cons pe_non pa_nil))) (pa_cons (pe_tup (pa_cons (pv 2) (pa_cons pe_non pa_nil))) pa_nil))) pa_nil)))))
      (pss_cons (ps_set (i := 7) sc__law_no_readings.nd rfl (.inl rfl) (pe_op op_cat (pv 7) (pe_lst (pa_cons (pe_lc (own := [("q", 9)]) (by rfl) sc__law_no_readings.nd (pi_tupK K (pe_tup (pa_cons pe_int (pa_cons pe_int (pa_cons pe_int (pa_cons pe_int (pa_cons pe_int (pa_cons pe_int (pa_cons pe_int (pa_cons pe_int (pa_cons pe_int (pa_cons pe_int (pa_cons pe_int pa_nil))))))))))))) (blkOk_by (own := [("q", 9)]) (N := N__law_no_readings) (sc := (defScope s__law_no_readings)) (by decide +kernel)) (fun _ _ _ _ _ => (pg_name (i := 9) sc__law_no_readings.nd rfl (.inl rfl))) (fun _ _ _ _ _ => pts_nil) (fun _ _ _ _ _ => (pe_tup (pa_cons (pv 9) (pa_cons pe_int pa_nil))))) pa_nil))))
      (pss_one (ps_ret (pe_lst (pa_cons (pe_ix (r := rIxL K) ix_list (pv 7) pe_int (fun _ _ => rfl)) (pa_cons (pe_ix (r := rIxL K) ix_list (pv 7) (pe_op op_add pe_int (pe_op op_mod (pe_call (ok__law_next T) hr (by rfl) T.g__law_next T.F__law_next.kp T.b__law_next .nil pass0 (pa_cons (pv 0) pa_nil)) pe_int)) (fun _ _ => rfl)) pa_nil)))))))))))))))), ?_⟩
    have L : ∀ {n : Nat}, Nat.ble n 100000 = true → n ≤ 100000 := fun h => Nat.le_of_ble_eq_true h
    obtain ⟨S, hS⟩ : ∃ S, S = [da] := ⟨_, rfl⟩
    have hDD : DDB H da S := ⟨hS, hD⟩
    have nS : ∀ s ∈ S, W0 s = none := fun s hs => by
      rw [hS] at hs
      rw [List.mem_singleton.mp hs]
      exact wd
    have drw : ∀ {σ : L2.St} {n : Nat}, σ[0]? = some (some (.ref da)) → 1 ≤ n → ∀ H1, DDB H1 da S → ∀ Q : VK, (∀ (x : Int) H2, 0 ≤ x → x < (n : Int) → DDB H2 da S → ExS S H1 H2 → Q (.int x) H2) → tOp (rI (fun x j => 0 < j) fun i j => V.int (i % j)) (tCall sp__law_next [] E0 (tCons (tVar 0) tNil)) (tC (V.int (n : Int))) σ H1 Q := fun h0 n1 H1 hD1 Q q => ⟨_, h0, da, rfl, hD1.2, fun x H2 _ _ hD2 e2 => ⟨_, _, rfl, rfl, (show (0 : Int) < _ by omega), q _ H2 (Int.emod_nonneg _ (by omega)) (Int.emod_lt_of_pos _ (by omega)) ⟨hD1.1, hD2⟩ (by rw [hS]; exact exS_ofB e2)⟩⟩
    refine go_asg (evp_pick (n := 4) (G := fun d => ∃ p, d = .int p ∧ (p = 2 ∨ p = 3 ∨ p = 97 ∨ p = 997)) (evp_lstn (m := 4) (evpl_one ef_ci ⟨_, rfl, .inl rfl⟩ (evpl_one ef_ci ⟨_, rfl, .inr (.inl rfl)⟩ (evpl_one ef_ci ⟨_, rfl, .inr (.inr (.inl rfl))⟩ (evpl_one ef_ci ⟨_, rfl, .inr (.inr (.inr rfl))⟩ evpl_nil)))) (L rfl)) (drw (n := 4) rfl (by decide)) W0 H (Ex.refl _) w0 nS hDD _ fun v1 d1 W1 H1 a1 c1 n1 hD1 e1 hv1 gd1 => ?_)
    obtain ⟨p, rfl, hp4⟩ := gd1
    cases hv1
    have pz : p.natAbs < 2 ^ 200 := by
      have b : (1000 : Nat) < 2 ^ 200 := by decide
      omega
    have hr1 := hrd.up a1
    obtain ⟨lo, hlo⟩ : ∃ lo, lo = l.filter (fun q => !decide (V.int q.1 = V.int p)) := ⟨_, rfl⟩
    have hlo5 : lo.length ≤ 5 := by
      rw [hlo]
      exact Nat.le_trans (List.length_filter_le _ _) hl5
    have hloR : ∀ q ∈ lo, q ∈ l := fun q hq => by
      rw [hlo] at hq
      exact (List.mem_filter.mp hq).1
    have hN : ∀ H2, Ex W1 H2 → EvN (tLc (iList K (tVar 1)) (gName 8) (tTest (tOp rNe (tOp (rIxT K) (tVar 8) (tC (V.int 0))) (tVar 2))) (tVar 8) [8]) [some (.ref da), some rv, some (.int p), none, none, none, none, none, none, none] H2 (rdN lo) := fun H2 x2 => by
      rw [hlo]
      refine en_lcQ (fun q => !decide (V.int q.1 = V.int p)) _ (ed_var rfl (hr1.up x2)) (by omega) (fun _ => rfl) (fun H3 b q e3 hm hb H4 e4 Q k => ?_) (fun H3 b q e3 hm hb _ => ed_var rfl (.tup hb (.cons (.int _) (.cons (.o _) .nil)))) (fun q _ _ => ?_)
      · exact ⟨.ref b, rfl, b, _, 0, .int q.1, rfl, rfl, st_of (e4 _ _ hb), rfl, .int p, rfl, rfl, _, rfl, k H4 (Ex.refl _)⟩
      · show noL (.tuple [.int q.1, oD q.2]) = true
        cases q.2 <;> rfl
    refine go_asg (evp_ofN (G := fun d => d = .list (rdN lo)) (W0 := W1) hN rfl W1 H1 (Ex.refl _) c1 n1 hD1 _ fun v2 d2 W2 H2 a2 c2 n2 hD2 e2 hv2 gd2 => ?_)
    subst gd2
    clear hN
    obtain ⟨po, oacc, rfl, hpo, hox⟩ := id hv2.lst_get
    have hol : oacc.length = lo.length := by
      rw [hox.len]
      exact List.length_map ..
    have n2d : W2 da = none := n2 da (by rw [hS]; exact List.mem_singleton.mpr rfl)
    refine ⟨.ref da, rfl, da, rfl, hD2.2, fun x3 H3 _ _ hD3 e3 => ?_⟩
    have c3 := c2.keepB n2d e3
    refine ⟨.ref po, rfl, po, _, rfl, .inl (sq_of (c3 _ _ hpo)), _, _, rfl, rfl, _, _, rfl, rfl, (show (0 : Int) < ((oacc.length : Nat) : Int) + 1 by omega), ?_⟩
    have u0 := Int.emod_nonneg x3 (show ((oacc.length : Nat) : Int) + 1 ≠ 0 by omega)
    have u1 := Int.emod_lt_of_pos x3 (show (0 : Int) < ((oacc.length : Nat) : Int) + 1 by omega)
    obtain ⟨k, hk⟩ : ∃ k : Nat, x3 % (((oacc.length : Nat) : Int) + 1) = (k : Int) := ⟨(x3 % (((oacc.length : Nat) : Int) + 1)).toNat, by omega⟩
    dsimp only [gName_app]
    rw [hk] at u0 u1 ⊢
    have hkl : k ≤ lo.length := by omega
    clear hk
    have hDD3 : DDB H3 da S := ⟨hS, hD3⟩
    have y3 : ExB da H H3 := by
      rw [hS] at e1 e2
      exact ((exB_ofS e1).trans (exB_ofS e2)).trans e3
    refine go_asg (evp_lstn (m := 10) (G := OddR) (evpl_one (ef_tup (efa_cons ef_ci (efa_cons ef_ci efa_nil)) (Nat.le_of_ble_eq_true rfl)) (og (by decide +kernel) (shT1 (al2 (shI (by decide)) (shI (by decide))) (Nat.le_of_ble_eq_true rfl))) (evpl_one (ef_tup (efa_cons ef_ci (efa_cons ef_ci efa_nil)) (Nat.le_of_ble_eq_true rfl)) (og (by decide +kernel) (shT1 (al2 (shI (by decide)) (shI (by decide))) (Nat.le_of_ble_eq_true rfl))) (evpl_one (ef_tup (efa_cons ef_ci (efa_cons ef_ci efa_nil)) (Nat.le_of_ble_eq_true rfl)) (og (by decide +kernel) (shT1 (al2 (shI (by decide)) (shI (by decide))) (Nat.le_of_ble_eq_true rfl))) (evpl_one (ef_tup (efa_cons (ef_int fun H Q q => ⟨_, rfl, _, rfl, q⟩) (efa_cons ef_ci efa_nil)) (Nat.le_of_ble_eq_true rfl)) (og (by rcases hp4 with rfl | rfl | rfl | rfl <;> decide +kernel) (shT1 (al2 (shI (by omega)) (shI (by decide))) (Nat.le_of_ble_eq_true rfl))) (evpl_one (ef_tup (efa_cons ef_ci (efa_cons ef_ci efa_nil)) (Nat.le_of_ble_eq_true rfl)) (og (by decide +kernel) (shT1 (al2 (shI (by decide)) (shI (by decide))) (Nat.le_of_ble_eq_true rfl))) (evpl_one (ef_tup (efa_cons ef_ci (efa_cons ef_ci efa_nil)) (Nat.le_of_ble_eq_true rfl)) (og (by decide +kernel) (shT1 (al2 (shI (by decide)) (shI (by decide))) (Nat.le_of_ble_eq_true rfl))) (evpl_one (ef_tup (efa_cons ef_cb (efa_cons ef_ci efa_nil)) (Nat.le_of_ble_eq_true rfl)) (og (by decide +kernel) (shT1 (al2 shBl (shI (by decide))) (Nat.le_of_ble_eq_true rfl))) (evpl_one (ef_tup (efa_cons ef_cs (efa_cons ef_ci efa_nil)) (Nat.le_of_ble_eq_true rfl)) (og (by decide +kernel) (shT1 (al2 (shS "2" (Nat.le_of_ble_eq_true rfl)) (shI (by decide))) (Nat.le_of_ble_eq_true rfl))) (evpl_one (ef_tup (efa_cons ef_cn (efa_cons ef_ci efa_nil)) (Nat.le_of_ble_eq_true rfl)) (og (by decide +kernel) (shT1 (al2 shN (shI (by decide))) (Nat.le_of_ble_eq_true rfl))) (evpl_one (ef_tup (efa_cons (ef_int fun H Q q => ⟨_, rfl, _, rfl, _, _, rfl, rfl, (wide_mul (a := 20) (b := 20) (by omega) (by omega) (by decide) (by decide) (by decide)), q⟩) (efa_cons ef_ci efa_nil)) (Nat.le_of_ble_eq_true rfl)) (og (by rcases hp4 with rfl | rfl | rfl | rfl <;> decide +kernel) (shT1 (al2 (shI (by rcases hp4 with rfl | rfl | rfl | rfl <;> decide)) (shI (by decide))) (Nat.le_of_ble_eq_true rfl))) evpl_nil)))))))))) (L rfl) W2 H3 (Ex.refl _) c3 n2 hDD3 _ fun v4 d4 W4 H4 a4 c4 n4 hD4 e4 hv4 gd4 => ?_)
    refine go_asg (evp_catn (evp_var (i := 5) rfl hv4 gd4) (evp_lstn (m := 10) (G := OddR) (evpl_one (ef_tup (efa_cons (ef_vi rfl) (efa_cons (ef_vi rfl) efa_nil)) (Nat.le_of_ble_eq_true rfl)) (og (by rcases hp4 with rfl | rfl | rfl | rfl <;> decide +kernel) (shT1 (al2 (shI pz) (shI pz)) (Nat.le_of_ble_eq_true rfl))) (evpl_one (ef_tup (efa_cons (ef_vi rfl) (efa_cons ef_neg efa_nil)) (Nat.le_of_ble_eq_true rfl)) (og (by rcases hp4 with rfl | rfl | rfl | rfl <;> decide +kernel) (shT1 (al2 (shI pz) (shI (by decide))) (Nat.le_of_ble_eq_true rfl))) (evpl_one (ef_tup (efa_cons (ef_vi rfl) (efa_cons ef_cb efa_nil)) (Nat.le_of_ble_eq_true rfl)) (og (by rcases hp4 with rfl | rfl | rfl | rfl <;> decide +kernel) (shT1 (al2 (shI pz) shBl) (Nat.le_of_ble_eq_true rfl))) (evpl_one (ef_tup (efa_cons (ef_vi rfl) (efa_cons ef_cb efa_nil)) (Nat.le_of_ble_eq_true rfl)) (og (by rcases hp4 with rfl | rfl | rfl | rfl <;> decide +kernel) (shT1 (al2 (shI pz) shBl) (Nat.le_of_ble_eq_true rfl))) (evpl_one (ef_tup (efa_cons (ef_vi rfl) (efa_cons ef_cs efa_nil)) (Nat.le_of_ble_eq_true rfl)) (og (by rcases hp4 with rfl | rfl | rfl | rfl <;> decide +kernel) (shT1 (al2 (shI pz) (shS "0" (Nat.le_of_ble_eq_true rfl))) (Nat.le_of_ble_eq_true rfl))) (evpl_one (ef_tup (efa_cons (ef_vi rfl) (efa_cons (ef_lst (efa_cons ef_ci efa_nil) (Nat.le_of_ble_eq_true rfl)) efa_nil)) (Nat.le_of_ble_eq_true rfl)) (og (by rcases hp4 with rfl | rfl | rfl | rfl <;> decide +kernel) (shT2s (al2 ((shI pz).mono (by decide) (by decide)) (shL1s (al1 (shI (by decide))) (Nat.le_of_ble_eq_true rfl))) (Nat.le_of_ble_eq_true rfl))) (evpl_one (ef_tup (efa_cons (ef_vi rfl) (efa_cons (ef_int (i := 10 ^ (25 : Int).toNat) fun H Q q => ⟨10, 25, rfl, rfl, ⟨by decide, by decide, by decide⟩, q⟩) efa_nil)) (Nat.le_of_ble_eq_true rfl)) (og (by rcases hp4 with rfl | rfl | rfl | rfl <;> decide +kernel) (shT1 (al2 (shI pz) (shI (by decide))) (Nat.le_of_ble_eq_true rfl))) (evpl_one (ef_tup (efa_cons (ef_vi rfl) efa_nil) (Nat.le_of_ble_eq_true rfl)) (og rfl (shT1 (al1 (shI pz)) (Nat.le_of_ble_eq_true rfl))) (evpl_one (ef_tup (efa_cons (ef_vi rfl) (efa_cons ef_ci (efa_cons ef_ci efa_nil))) (Nat.le_of_ble_eq_true rfl)) (og rfl (shT1 (al3 (shI pz) (shI (by decide)) (shI (by decide))) (Nat.le_of_ble_eq_true rfl))) (evpl_one (ef_lst (efa_cons (ef_vi rfl) (efa_cons ef_ci efa_nil)) (Nat.le_of_ble_eq_true rfl)) (og rfl (shL1 (al2 (shI pz) (shI (by decide))) (Nat.le_of_ble_eq_true rfl))) evpl_nil)))))))))) (L rfl)) (L rfl) W4 H4 (Ex.refl _) c4 n4 hD4 _ fun v5 d5 W5 H5 a5 c5 n5 hD5 e5 hv5 gd5 => ?_)
    refine go_asg (evp_catn (evp_var (i := 5) rfl hv5 gd5) (evp_lstn (m := 6) (G := OddR) (evpl_one ef_cn (og rfl shN) (evpl_one (ef_vi rfl) (og rfl (shI pz)) (evpl_one ef_cs (og rfl (shS "" (Nat.le_of_ble_eq_true rfl))) (evpl_one (ef_tup efa_nil (Nat.le_of_ble_eq_true rfl)) (og rfl (shT1 (al0) (Nat.le_of_ble_eq_true rfl))) (evpl_one ef_dict0 (og rfl shD) (evpl_one (ef_tup (efa_cons (ef_int (i := 10 ^ (25 : Int).toNat) fun H Q q => ⟨10, 25, rfl, rfl, ⟨by decide, by decide, by decide⟩, q⟩) (efa_cons ef_ci efa_nil)) (Nat.le_of_ble_eq_true rfl)) (og (no_big (by decide)) (shT1 (al2 (shI (by decide)) (shI (by decide))) (Nat.le_of_ble_eq_true rfl))) evpl_nil)))))) (L rfl)) (L rfl) W5 H5 (Ex.refl _) c5 n5 hD5 _ fun v6 d6 W6 H6 a6 c6 n6 hD6 e6 hv6 gd6 => ?_)
    refine go_asg (evp_pick (n := 26) (G := OddR) (evp_var (i := 5) rfl hv6 gd6) (drw (n := 26) rfl (by decide)) W6 H6 (Ex.refl _) c6 n6 hD6 _ fun v7 d7 W7 H7 a7 c7 n7 hD7 e7 hv7 gd7 => ?_)
    have w27 := ((a4.trans a5).trans a6).trans a7
    have hpo7 := w27 _ _ hpo
    have hox7 := hox.up w27
    have hr7 := (hr1.up a2).up w27
    obtain ⟨ra, racc, rfl, hra7, hrx7⟩ := hr7.lst_get
    have hct : ∀ W, DtAll W oacc (rdN lo) → DtAll W (cutV oacc none (some (k : Int))) ((rdN lo).take k) := fun W h => by
      rw [cutTo]
      exact dtTake k h
    have hcd : ∀ W, DtAll W oacc (rdN lo) → DtAll W (cutV oacc (some (k : Int)) none) ((rdN lo).drop k) := fun W h => by
      rw [cutFrom]
      exact dtDrop k h
    have hrl : (rdN lo).length = lo.length := List.length_map ..
    have sh1 : ∀ x ∈ rdN lo, ShB 1 3849 x := fun x hx => by
      obtain ⟨q, hq, rfl⟩ := List.mem_map.mp hx
      obtain ⟨h1, h2⟩ := rd_small hR (hloR q hq)
      exact shb_rd1 h1 h2
    have sh2 : ∀ x ∈ rdN lo, ShB 2 6000 x := fun x hx => (sh1 x hx).mono (by decide) (by decide)
    have htk : ((rdN lo).take k).length ≤ 5 := by rw [List.length_take]; omega
    have hdk : ((rdN lo).drop k).length ≤ 5 := by rw [List.length_drop]; omega
    have htd : ((rdN lo).take k).length + ((rdN lo).drop k).length ≤ 5 := by rw [List.length_take, List.length_drop]; omega
    have shk : ∀ x ∈ (rdN lo).take k, ShB 2 6000 x := fun x hx => sh2 x (List.mem_of_mem_take hx)
    have shd : ∀ x ∈ (rdN lo).drop k, ShB 2 6000 x := fun x hx => sh2 x (List.mem_of_mem_drop hx)
    generalize hTK : (rdN lo).take k = TK at htk htd shk hct
    generalize hDK : (rdN lo).drop k = DK at hdk htd shd hcd
    have shR : ShB 2 49000 (.tuple (rdN l)) := (shb_tup (k := 1) (n := 3849) (m := 40000) (fun x hx => by
      obtain ⟨q, hq, rfl⟩ := List.mem_map.mp hx
      obtain ⟨h1, h2⟩ := rd_small hR hq
      exact shb_rd1 h1 h2) (by
      have : (rdN l).length = l.length := List.length_map ..
      omega)).mono (by decide) (by decide)
    have big : ∀ ds : List PyData, (∀ d ∈ ds, ShB 2 6000 d) → ds.length ≤ 8 → ShB 3 49000 (.list ds) := fun ds h hl => shb_lst h (by omega)
    have b1 : BadR (.list ((TK ++ [d7]) ++ DK)) := br (rds_odd (d := d7) (by simp) gd7.1) (big _ (fun x hx => by
      rcases List.mem_append.mp hx with hx | hx
      · rcases List.mem_append.mp hx with hx | hx
        · exact shk x hx
        · rw [List.mem_singleton.mp hx]
          exact gd7.2
      · exact shd x hx) (by rw [List.length_append, List.length_append]; show TK.length + 1 + DK.length ≤ 8; omega))
    have sp1 : ∀ r : Int, r.natAbs < 2 ^ 200 → ShB 2 6000 (.tuple [.int p, .int r]) := fun r hr => (shT1 (al2 (shI pz) (shI hr)) (Nat.le_of_ble_eq_true rfl)).mono (by decide) (by decide)
    have b2 : BadR (.list (((TK ++ [.tuple [.int p, .int 0]]) ++ DK) ++ [.tuple [.int p, .int 1]])) := br (rds_twice idx_x idx_y (by omega)) (big _ (fun x hx => by
      rcases List.mem_append.mp hx with hx | hx
      · rcases List.mem_append.mp hx with hx | hx
        · rcases List.mem_append.mp hx with hx | hx
          · exact shk x hx
          · rw [List.mem_singleton.mp hx]
            exact sp1 0 (by decide)
        · exact shd x hx
      · rw [List.mem_singleton.mp hx]
        exact sp1 1 (by decide)) (by rw [List.length_append, List.length_append, List.length_append]; show TK.length + 1 + DK.length + 1 ≤ 8; omega))
    have sp0 : ShB 1 6000 (.tuple [.int p, .none]) := shT1 (al2 (shI pz) shN) (Nat.le_of_ble_eq_true rfl)
    have b3 : BadR (.list [.tuple [.int p, .none], .tuple [.int p, .none]]) := br (rds_twice (i := 0) (j := 1) rfl rfl (by decide)) (big _ (al2 (sp0.mono (by decide) (by decide)) (sp0.mono (by decide) (by decide))) (Nat.le_of_ble_eq_true rfl))
    have b4 : BadR (.list ([2, 3, 5, 7, 11, 13, 17, 19, 23, 29, 31].map fun q : Int => PyData.tuple [.int q, .int 0])) := br (rds_many (by decide)) (shb_lst (k := 2) (n := 4000) (m := 49000) (fun x hx => by
      obtain ⟨q, hq, rfl⟩ := List.mem_map.mp hx
      have hq2 : 0 ≤ q ∧ q < 32 := (by decide : ∀ q ∈ ([2, 3, 5, 7, 11, 13, 17, 19, 23, 29, 31] : List Int), 0 ≤ q ∧ q < 32) q hq
      have bz : (32 : Nat) < 2 ^ 200 := by decide
      exact (shb_tup (k := 0) (n := 1921) (m := 4000) (al2 (shI (by omega)) (shI (by decide))) (Nat.le_of_ble_eq_true rfl)).mono (by decide) (by decide)) (Nat.le_of_ble_eq_true rfl))
    have e4 : ∀ {σ : L2.St} {W : Hp}, Ex W7 W → σ[3]? = some (some (.ref po)) → σ[4]? = some (some (.int (k : Int))) → EvF (tSl (rSlL K) (tVar 3) tNoPart (tPart (tVar 4))) σ W (.list TK) := @fun σ W eW h3 h4 => ef_slD h3 (eW _ _ hpo7) (hct) (hox7.up eW) pt_no (pt_vr h4)
    have e5' : ∀ {σ : L2.St} {W : Hp}, Ex W7 W → σ[3]? = some (some (.ref po)) → σ[4]? = some (some (.int (k : Int))) → EvF (tSl (rSlL K) (tVar 3) (tPart (tVar 4)) tNoPart) σ W (.list DK) := @fun σ W eW h3 h4 => ef_slD h3 (eW _ _ hpo7) hcd (hox7.up eW) (pt_vr h4) pt_no
    have one1 : ∀ {σ : L2.St} {W : Hp} {r : Int}, σ[2]? = some (some (.int p)) → EvF (tLst (tCons (tTup (tCons (tVar 2) (tCons (tC (.int r)) tNil))) tNil)) σ W (.list [.tuple [.int p, .int r]]) := @fun σ W r h => ef_lst (efa_cons (ef_tup (efa_cons (ef_vi h) (efa_cons ef_ci efa_nil)) (Nat.le_of_ble_eq_true rfl)) efa_nil) (Nat.le_of_ble_eq_true rfl)
    refine go_asg (evp_lstn (m := 9) (G := BadR) (evpl_one (ef_cat (ef_cat (e4 (Ex.refl _) rfl rfl) (ef_lst (efa_cons (ef_var rfl hv7) efa_nil) (Nat.le_of_ble_eq_true rfl)) (by show TK.length + 1 ≤ 100000; omega)) (e5' (Ex.refl _) rfl rfl) (by rw [List.length_append]; show TK.length + 1 + DK.length ≤ 100000; omega)) b1 (evpl_one (ef_toD rfl hra7 hrx7) (br rfl shR) (evpl_one ef_cn (br rfl shN) (evpl_one ef_ci (br rfl (shI (by decide))) (evpl_one ef_cb (br rfl shBl) (evpl_one ef_cs (br rfl (shS "" (Nat.le_of_ble_eq_true rfl))) (evpl_one ef_dict0 (br rfl shD) (evpl_one (ef_tup efa_nil (Nat.le_of_ble_eq_true rfl)) (br rfl (shT1 al0 (Nat.le_of_ble_eq_true rfl))) (evpl_one ef_cs (br rfl (shS "readings" (Nat.le_of_ble_eq_true rfl))) evpl_nil))))))))) (L rfl) W7 H7 (Ex.refl _) c7 n7 hD7 _ fun v8 d8 W8 H8 a8 c8 n8 hD8 e8 hv8 gd8 => ?_)
    refine go_asg (evp_catn (evp_var (i := 7) rfl hv8 gd8) (evp_lstn (m := 2) (G := BadR) (evpl_one (ef_cat (ef_cat (ef_cat (e4 a8 rfl rfl) (one1 rfl) (by show TK.length + 1 ≤ 100000; omega)) (e5' a8 rfl rfl) (by rw [List.length_append]; show TK.length + 1 + DK.length ≤ 100000; omega)) (one1 rfl) (by rw [List.length_append, List.length_append]; show TK.length + 1 + DK.length + 1 ≤ 100000; omega)) b2 (evpl_one (ef_lst (efa_cons (ef_tup (efa_cons (ef_vi rfl) (efa_cons ef_cn efa_nil)) (Nat.le_of_ble_eq_true rfl)) (efa_cons (ef_tup (efa_cons (ef_vi rfl) (efa_cons ef_cn efa_nil)) (Nat.le_of_ble_eq_true rfl)) efa_nil)) (Nat.le_of_ble_eq_true rfl)) b3 evpl_nil)) (L rfl)) (L rfl) W8 H8 (Ex.refl _) c8 n8 hD8 _ fun v9 d9 W9 H9 a9 c9 n9 hD9 e9 hv9 gd9 => ?_)
    have hN9 : ∀ {σ : L2.St}, σ.length = 10 → ∀ H2, Ex W9 H2 → EvN (tLc (iTup K (tTup (tCons (tC (V.int 2)) (tCons (tC (V.int 3)) (tCons (tC (V.int 5)) (tCons (tC (V.int 7)) (tCons (tC (V.int 11)) (tCons (tC (V.int 13)) (tCons (tC (V.int 17)) (tCons (tC (V.int 19)) (tCons (tC (V.int 23)) (tCons (tC (V.int 29)) (tCons (tC (V.int 31)) tNil))))))))))))) (gName 9) tYes (tTup (tCons (tVar 9) (tCons (tC (V.int 0)) tNil))) [9]) σ H2 ([2, 3, 5, 7, 11, 13, 17, 19, 23, 29, 31].map fun q : Int => PyData.tuple [.int q, .int 0]) := @fun σ hσ H2 x2 => by
      have e : ([2, 3, 5, 7, 11, 13, 17, 19, 23, 29, 31].map fun q : Int => PyData.tuple [.int q, .int 0]) = ((([2, 3, 5, 7, 11, 13, 17, 19, 23, 29, 31] : List Int).map PyData.int).filter fun _ => true).map fun d => .tuple [d, .int 0] := rfl
      rw [e]
      match σ, hσ with
      | [s0, s1, s2, s3, s4, s5, s6, s7, s8, s9], _ =>
      refine en_lcT (fun _ => true) (fun d => .tuple [d, .int 0]) (ed_tup (eda_cons (ed_int ev_c) (eda_cons (ed_int ev_c) (eda_cons (ed_int ev_c) (eda_cons (ed_int ev_c) (eda_cons (ed_int ev_c) (eda_cons (ed_int ev_c) (eda_cons (ed_int ev_c) (eda_cons (ed_int ev_c) (eda_cons (ed_int ev_c) (eda_cons (ed_int ev_c) (eda_cons (ed_int ev_c) eda_nil))))))))))) (Nat.le_of_ble_eq_true rfl)) (Nat.le_of_ble_eq_true rfl) (fun _ => rfl) (fun H4 w d e4 hm hv H5 e5 Q k => k H5 (Ex.refl _)) (fun H4 w d e4 hm hv _ => ed_tup (eda_cons (ed_var rfl hv) (eda_cons (ed_int ev_c) eda_nil)) (Nat.le_of_ble_eq_true rfl)) (fun d hm _ => ?_)
      obtain ⟨q, _, rfl⟩ := List.mem_map.mp hm
      rfl
    refine go_asg (evp_catn (evp_var (i := 7) rfl hv9 gd9) (evp_lstn (m := 1) (G := BadR) (evpl_cons (evp_mono (evp_ofN (G := fun d => d = .list ([2, 3, 5, 7, 11, 13, 17, 19, 23, 29, 31].map fun q : Int => PyData.tuple [.int q, .int 0])) (hN9 rfl) rfl) fun d hd => hd ▸ b4) evpl_nil) (L rfl)) (L rfl) W9 H9 (Ex.refl _) c9 n9 hD9 _ fun v10 d10 W10 H10 a10 c10 n10 hD10 e10 hv10 gd10 => ?_)
    have z3 : ExS S H H3 := by
      rw [hS]
      exact exS_ofB y3
    have z10 : ExS S H H10 := ((((((z3.trans ‹ExS S H3 H4›).trans e5).trans e6).trans e7).trans e8).trans e9).trans e10
    refine go_ret (evp_lstn (m := 2) (G := BadR) (evpl_cons (evp_pick (n := 12) (G := BadR) (evp_var (i := 7) rfl hv10 gd10) (fun H1 hD Q q => q 0 H1 (by decide) (by decide) hD (ExS.refl S H1))) (evpl_cons (evp_pick (n := 12) (G := BadR) (evp_var (i := 7) rfl hv10 gd10) (fun H1 hD Q q => ?_)) evpl_nil)) (L rfl) W10 H10 (Ex.refl _) c10 n10 hD10 _ fun v11 d11 W11 H11 a11 c11 n11 hD11 e11 hv11 gd11 => ?_)
    · refine go_op (go_c ?_)
      exact drw (n := 11) rfl (by decide) H1 hD _ fun x H2 x0 x1 hD2 e2 => ⟨_, _, rfl, rfl, q (1 + x) H2 (by omega) (by omega) hD2 e2⟩
    · obtain ⟨ds, rfl, g1, g2⟩ := gd11
      have z11 := z10.trans e11
      rw [hS] at z11
      exact q v11 ds W11 H11 hv11 ((((((a1.trans a2).trans w27).trans a8).trans a9).trans a10).trans a11) c11 (n11 da (by rw [hS]; exact List.mem_singleton.mpr rfl)) g1 g2 hD11.2 (exB_ofS z11)
def sp__law_no_bounds : Sp := fun vs H Q _ => ∃ da : Addr, vs = [.ref da] ∧ DeckB H da ∧ ∀ v ds W H', Dt W v (.list ds) → Ex W H' → W da = none → ds.length = 2 → (∀ d ∈ ds, BadB d) → DeckB H' da → ExB da H H' → Q v H'
theorem ok__law_no_bounds (T : Txt K mg base z) : FnOk P w K mg base CX0 3 z.a__law_no_bounds z.d__law_no_bounds ["deck"] (sp__law_no_bounds) := by
  refine T.F__law_no_bounds.ok sc__law_no_bounds (fun vs H Q E h => ?_) (fun cdv A outer s H vs Q E hr h => ?_)
  · obtain ⟨da, rfl, _⟩ := h
    rfl
  · obtain ⟨da, rfl, hD, q⟩ := h
    refine ⟨_, (PSs.nox (pss_cons (ps_set (i := 1) sc__law_no_bounds.nd rfl (.inl rfl) (pe_op op_mod (pe_call (ok__law_next T) hr (by rfl) T.g__law_next T.F__law_next.kp T.b__law_next .nil pass0 (pa_cons (pv 0) pa_nil)) pe_int))
      (pss_cons (ps_set (i := 2) sc__law_no_bounds.nd rfl (.inr rfl) (pe_lst (pa_cons pe_non (pa_cons pe_int (pa_cons pe_bl (pa_cons pe_str (pa_cons (pe_lst pa_nil) (pa_cons (pe_tup pa_nil) (pa_cons pe_dnewK (pa_cons (pe_tup (pa_cons (pv 1) pa_nil)) (pa_cons (pe_tup (pa_cons (pv 1) (pa_cons pe_int (pa_cons pe_int pa_nil)))) (pa_cons (pe_lst (pa_cons (pv 1) (pa_cons pe_int pa_nil))) (pa_cons (pe_tup (pa_cons (pe_un un_neg pe_int) (pa_cons pe_int pa_nil))) (pa_cons (pe_tup (pa_cons (pv 1) (pa_cons pe_int pa_nil))) (pa_cons (pe_tup (pa_cons (pv 1) (pa_cons (pe_un un_neg pe_int) pa_nil))) (pa_cons (pe_tup (pa_cons pe_bl (pa_cons pe_int pa_nil))) (pa_cons (pe_tup (pa_cons (pv 1) (pa_cons pe_bl pa_nil))) pa_nil)))))))))))))))))
      (pss_cons (ps_set (i := 2) sc__law_no_bounds.nd rfl (.inr rfl) (pe_op op_cat (pv 2) (pe_lst (pa_cons (pe_tup (pa_cons pe_str (pa_cons pe_int pa_nil))) (pa_cons (pe_tup (pa_cons (pv 1) (pa_cons pe_non pa_nil))) (pa_cons (pe_tup (pa_cons (pv 1) (pa_cons pe_str pa_nil))) (pa_cons (pe_tup (pa_cons pe_non (pa_cons pe_int pa_nil))) (pa_cons (pe_tup (pa_cons (pv 1) (pa_cons (pe_lst (pa_cons pe_int pa_nil)) pa_nil))) (pa_cons (pe_tup (pa_cons (pe_un un_neg (pe_op op_pow pe_int pe_int)) (pa_cons pe_int pa_nil))) (pa_cons (pe_tup (pa_cons pe_bl (pa_cons pe_bl pa_nil))) pa_nil))))))))))
      (pss_one (ps_ret (pe_lc (own := [("turn", 3)]) (by rfl) sc__law_no_bounds.nd (pi_range1 (by rfl) T.m_range (pa_cons pe_int pa_nil)) (blkOk_by (own := [("turn", 3)]) (N := N__law_no_bounds) (sc := (defScope s__law_no_bounds)) (by decide +kernel)) (fun _ _ _ _ _ => (pg_name (i := 3) sc__law_no_bounds.nd rfl (.inl rfl))) (fun _ _ _ _ _ => pts_nil) (fun _ _ _ _ _ => (pe_ix (r := rIxL K) ix_list (pv 2) (pe_op op_mod (pe_call (ok__law_next T) hr (by rfl) T.g__law_next T.F__law_next.kp T.b__law_next .nil pass0 (pa_cons (pv 0) pa_nil)) pe_int) (fun _ _ => rfl)))))))))), ?_⟩
    have L : ∀ {n : Nat}, Nat.ble n 100000 = true → n ≤ 100000 := fun h => Nat.le_of_ble_eq_true h
    refine ⟨.ref da, rfl, da, rfl, hD, fun x1 H1 _ _ hD1 e1 => ⟨_, _, rfl, rfl, (show (0 : Int) < 61 by decide), ?_⟩⟩
    have u0 := Int.emod_nonneg x1 (show (61 : Int) ≠ 0 by decide)
    have u1 := Int.emod_lt_of_pos x1 (show (0 : Int) < 61 by decide)
    dsimp only [gName_app]
    generalize x1 % 61 = n at u0 u1
    have nz : n.natAbs < 2 ^ 200 := Nat.lt_of_lt_of_le (show n.natAbs < 2 ^ 6 by omega) (by decide)
    obtain ⟨S, hS⟩ : ∃ S, S = [da] := ⟨_, rfl⟩
    have hDD : DDB H1 da S := ⟨hS, hD1⟩
    refine go_asg (evp_lstn (m := 15) (G := BadB) (evpl_one ef_cn (bb rfl shN) (evpl_one ef_ci (bb rfl (shI (by decide))) (evpl_one ef_cb (bb rfl shBl) (evpl_one ef_cs (bb rfl (shS "" (Nat.le_of_ble_eq_true rfl))) (evpl_one (ef_lst efa_nil (Nat.le_of_ble_eq_true rfl)) (bb rfl (shL1 (al0) (Nat.le_of_ble_eq_true rfl))) (evpl_one (ef_tup efa_nil (Nat.le_of_ble_eq_true rfl)) (bb rfl (shT1 (al0) (Nat.le_of_ble_eq_true rfl))) (evpl_one ef_dict0 (bb rfl shD) (evpl_one (ef_tup (efa_cons (ef_vi rfl) efa_nil) (Nat.le_of_ble_eq_true rfl)) (bb rfl (shT1 (al1 (shI nz)) (Nat.le_of_ble_eq_true rfl))) (evpl_one (ef_tup (efa_cons (ef_vi rfl) (efa_cons ef_ci (efa_cons ef_ci efa_nil))) (Nat.le_of_ble_eq_true rfl)) (bb rfl (shT1 (al3 (shI nz) (shI (by decide)) (shI (by decide))) (Nat.le_of_ble_eq_true rfl))) (evpl_one (ef_lst (efa_cons (ef_vi rfl) (efa_cons ef_ci efa_nil)) (Nat.le_of_ble_eq_true rfl)) (bb rfl (shL1 (al2 (shI nz) (shI (by decide))) (Nat.le_of_ble_eq_true rfl))) (evpl_one (ef_tup (efa_cons ef_neg (efa_cons ef_ci efa_nil)) (Nat.le_of_ble_eq_true rfl)) (bb (bd_no (by first | decide | omega)) (shT1 (al2 (shI (by decide)) (shI (by decide))) (Nat.le_of_ble_eq_true rfl))) (evpl_one (ef_tup (efa_cons (ef_vi rfl) (efa_cons ef_ci efa_nil)) (Nat.le_of_ble_eq_true rfl)) (bb (bd_no (by first | decide | omega)) (shT1 (al2 (shI nz) (shI (by decide))) (Nat.le_of_ble_eq_true rfl))) (evpl_one (ef_tup (efa_cons (ef_vi rfl) (efa_cons ef_neg efa_nil)) (Nat.le_of_ble_eq_true rfl)) (bb (bd_no (by first | decide | omega)) (shT1 (al2 (shI nz) (shI (by decide))) (Nat.le_of_ble_eq_true rfl))) (evpl_one (ef_tup (efa_cons ef_cb (efa_cons ef_ci efa_nil)) (Nat.le_of_ble_eq_true rfl)) (bb rfl (shT1 (al2 shBl (shI (by decide))) (Nat.le_of_ble_eq_true rfl))) (evpl_one (ef_tup (efa_cons (ef_vi rfl) (efa_cons ef_cb efa_nil)) (Nat.le_of_ble_eq_true rfl)) (bb rfl (shT1 (al2 (shI nz) shBl) (Nat.le_of_ble_eq_true rfl))) evpl_nil))))))))))))))) (L rfl) (fun _ => none) H1 (ex_none _) (ex_none _) (fun _ _ => rfl) hDD _ fun v1 d1 W1 H2 a1 c1 n1 hD2 e2 hv1 gd1 => ?_)
    refine go_asg (evp_catn (evp_var (i := 2) rfl hv1 gd1) (evp_lstn (m := 7) (G := BadB) (evpl_one (ef_tup (efa_cons ef_cs (efa_cons ef_ci efa_nil)) (Nat.le_of_ble_eq_true rfl)) (bb rfl (shT1 (al2 (shS "1" (Nat.le_of_ble_eq_true rfl)) (shI (by decide))) (Nat.le_of_ble_eq_true rfl))) (evpl_one (ef_tup (efa_cons (ef_vi rfl) (efa_cons ef_cn efa_nil)) (Nat.le_of_ble_eq_true rfl)) (bb rfl (shT1 (al2 (shI nz) shN) (Nat.le_of_ble_eq_true rfl))) (evpl_one (ef_tup (efa_cons (ef_vi rfl) (efa_cons ef_cs efa_nil)) (Nat.le_of_ble_eq_true rfl)) (bb rfl (shT1 (al2 (shI nz) (shS "1" (Nat.le_of_ble_eq_true rfl))) (Nat.le_of_ble_eq_true rfl))) (evpl_one (ef_tup (efa_cons ef_cn (efa_cons ef_ci efa_nil)) (Nat.le_of_ble_eq_true rfl)) (bb rfl (shT1 (al2 shN (shI (by decide))) (Nat.le_of_ble_eq_true rfl))) (evpl_one (ef_tup (efa_cons (ef_vi rfl) (efa_cons (ef_lst (efa_cons ef_ci efa_nil) (Nat.le_of_ble_eq_true rfl)) efa_nil)) (Nat.le_of_ble_eq_true rfl)) (bb rfl (shT2 (al2 ((shI nz).mono (by decide) (by decide)) (shL1 (al1 (shI (by decide))) (Nat.le_of_ble_eq_true rfl))) (Nat.le_of_ble_eq_true rfl))) (evpl_one (ef_tup (efa_cons (ef_int (i := -(10 ^ (25 : Int).toNat)) fun H Q q => ⟨10, 25, rfl, rfl, ⟨by decide, by decide, by decide⟩, _, rfl, q⟩) (efa_cons ef_ci efa_nil)) (Nat.le_of_ble_eq_true rfl)) (bb (bd_no (by first | decide | omega)) (shT1 (al2 (shI (by decide)) (shI (by decide))) (Nat.le_of_ble_eq_true rfl))) (evpl_one (ef_tup (efa_cons ef_cb (efa_cons ef_cb efa_nil)) (Nat.le_of_ble_eq_true rfl)) (bb rfl (shT1 (al2 shBl shBl) (Nat.le_of_ble_eq_true rfl))) evpl_nil))))))) (L rfl)) (L rfl) W1 H2 (Ex.refl _) c1 n1 hD2 _ fun v2 d2 W2 H3 a2 c2 n2 hD3 e3 hv2 gd2 => ?_)
    obtain ⟨hD3q, hD3⟩ := hD3
    obtain ⟨ds, rfl, hl22, hds⟩ := gd2
    obtain ⟨tl, tacc, rfl, htl, htx⟩ := id hv2.lst_get
    have hdaW : W2 da = none := n2 da (by rw [hS]; exact List.mem_singleton.mpr rfl)
    have tld : tl ≠ da := fun y => by
      rw [y, hdaW] at htl
      cases htl
    rw [hS] at e2 e3
    have y3 : ExB da H H3 := (e1.trans (exB_ofS e2)).trans (exB_ofS e3)
    have htl22 : tacc.length = 22 := by rw [htx.len]; exact hl22
    refine go_ret ?_
    refine ⟨2, rfl, by decide, by decide, fun D hDn => ?_⟩
    have DH : H D = none := by
      cases eh : H D with
      | none => rfl
      | some o =>
        have := y3 D o (hD3.ne hDn) eh
        rw [hDn] at this
        cases this
    refine lc_range (lo := 0) (n := 2) (fun i H' => ∃ (acc : List V) (es : List PyData) (W' : Hp), H' D = some (.lst acc) ∧ DtAll W' acc es ∧ es.length = i ∧ (∀ d ∈ es, BadB d) ∧ Ex W' H' ∧ W' da = none ∧ W' D = none ∧ Ex W2 W' ∧ DeckB H' da ∧ ExB da H H') ?_ (fun i H' hi hP => ?_) (fun H' hP => ?_)
    · have Dd : D ≠ da := hD3.ne hDn
      exact ⟨[], [], W2, upd_same, .nil, rfl, (fun _ h => nomatch h), c2.trans (Ex.new hDn), hdaW, fresh_back c2 hDn, Ex.refl _, hD3.up (Ex.new hDn), y3.trans (ExB.of (Ex.new hDn))⟩
    · obtain ⟨acc, es, W', k1, k2, k3, k4, k5, k6, k7, k8, k9, k10⟩ := hP
      have Dd : D ≠ da := hD3.ne hDn
      refine ⟨rfl, .ref tl, rfl, .ref da, rfl, da, rfl, k9, fun x6 H6 _ _ hD6 e6 => ⟨_, _, rfl, rfl, (show (0 : Int) < 22 by decide), ?_⟩⟩
      have u0 := Int.emod_nonneg x6 (show (22 : Int) ≠ 0 by decide)
      have u1 := Int.emod_lt_of_pos x6 (show (0 : Int) < 22 by decide)
      have w6 : Ex W' H6 := k5.keepB k6 e6
      obtain ⟨v, hv⟩ : ∃ v, tacc[(x6 % 22).toNat]? = some v := ⟨_, List.getElem?_eq_getElem (by omega)⟩
      obtain ⟨d, hd, hvd⟩ := htx.get _ hv
      refine ⟨tl, _, x6 % 22, v, rfl, rfl, sq_of (w6 _ _ (k8 _ _ htl)), atI_of u0 hv, acc, e6 _ _ Dd k1, sz_lt (by rw [k2.len]; omega), acc ++ [v], es ++ [d], W', upd_same, k2.app (.cons (hvd.up k8) .nil), by rw [List.length_append, k3]; rfl, fun d' hd' => ?_, Ex.mut w6 k7, k6, k7, k8, DeckB.mut hD6 Dd, exB_mutN (k10.trans e6) DH⟩
      · rcases List.mem_append.mp hd' with z | z
        · exact k4 _ z
        · rw [List.mem_singleton.mp z]
          exact hds _ (List.mem_of_getElem? hd)
    · obtain ⟨acc, es, W', k1, k2, k3, k4, k5, k6, k7, k8, k9, k10⟩ := hP
      have wH : Ex (upd W' D (.lst acc)) H' := fun b o z => by
        by_cases y : b = D
        · rw [y] at z ⊢
          cases upd_same.symm.trans z
          exact k1
        · exact k5 _ _ ((upd_ne y).symm.trans z)
      exact q (.ref D) es (upd W' D (.lst acc)) H' (.lst upd_same (k2.up (Ex.new k7))) wH ((upd_ne (fun y => hD3.ne hDn y.symm)).trans k6) k3 k4 k9 k10
theorem kit_cons {K : PySem.W.Frag} {t c : Value} {r : List Value} (h : PySem.W.kitOne K t c = some false) (q : PySem.W.kitAny K t r = some false) : PySem.W.kitAny K t (c :: r) = some false := by
  unfold PySem.W.kitAny
  rw [h]
  exact q
/-- an error of one of the four kinds and no other -/
structure KJ (K : PySem.W.Frag) (z : Ad) (C : Addr) (j : Nat) : Prop where
  xc : L2.ExcC K C
  kv : PySem.W.kitOne K (.ref C) (.type "ValueError") = some true
  xm : PySem.W.exmOne K (.ref C) (.ref z.k_BackError) = some true
  k0 : PySem.W.kitOne K (.ref C) (.ref z.k_NoReadings) = some (decide (0 = j))
  k1 : PySem.W.kitOne K (.ref C) (.ref z.k_NoBounds) = some (decide (1 = j))
  k2 : PySem.W.kitOne K (.ref C) (.ref z.k_NoNumber) = some (decide (2 = j))
  k3 : PySem.W.kitOne K (.ref C) (.ref z.k_TooFew) = some (decide (3 = j))
  ka : PySem.W.kitAny K (.ref C) [.ref z.k_NoFraction, .ref z.k_NoPrime, .ref z.k_TooMany, .ref z.k_NoText, .ref z.k_NoName, .ref z.k_NoRow] = some false
  kb : PySem.W.kitAny K (.ref C) [.ref z.k_NoPoly, .ref z.k_NoQuotient, .ref z.k_NoWorths, .ref z.k_NoDegrees] = some false
def wordK : Nat → Str
  | 0 => Str.ofString "NoReadings"
  | 1 => Str.ofString "NoBounds"
  | 2 => Str.ofString "NoNumber"
  | _ => Str.ofString "TooFew"
def sp__law_word (K : PySem.W.Frag) (z : Ad) : Sp := fun vs H Q _ => ∃ (a C : Addr) (j : Nat), vs = [.ref a] ∧ KJ K z C j ∧ j < 4 ∧ H a = some (ExK (.ref C) a) ∧ ∀ H', Ex H H' → Q (.str (wordK j)) H'
theorem okQ__law_word (T : Txt K mg base z) : FnQ P w K mg base 1 z.a__law_word z.d__law_word ["caught"] (sp__law_word K z) := by
  refine fnq_of T.F__law_word sc__law_word (fun vs H Q E h => ?_) (fun cdv A outer s H vs Q E hr h => ?_)
  · obtain ⟨a, C, j, rfl, _⟩ := h
    rfl
  · obtain ⟨a, C, j, rfl, hk, hj, ha, q⟩ := h
    refine ⟨_, (pss_cons (ps_set (i := 1) sc__law_word.nd rfl (.inl rfl) (pe_lst (pa_cons (pe_callB (r := rIsX K) call_isX (by rfl) T.m_isinstance (by decide +kernel) (pa_cons (pv 0) (pa_cons (pe_glob (v := .ref z.k_NoReadings) (by rfl) T.k_NoReadings rfl) pa_nil))) (pa_cons (pe_callB (r := rIsX K) call_isX (by rfl) T.m_isinstance (by decide +kernel) (pa_cons (pv 0) (pa_cons (pe_glob (v := .ref z.k_NoBounds) (by rfl) T.k_NoBounds rfl) pa_nil))) (pa_cons (pe_callB (r := rIsX K) call_isX (by rfl) T.m_isinstance (by decide +kernel) (pa_cons (pv 0) (pa_cons (pe_glob (v := .ref z.k_NoNumber) (by rfl) T.k_NoNumber rfl) pa_nil))) pa_nil)))))
      (pss_cons (ps_expr (pe_bm PySem.F.plainAttrs_list PySem.F.slot_list_append PySem.F.type_list_append mt_append (pv 1) (pa_cons (pe_callB (r := rIsX K) call_isX (by rfl) T.m_isinstance (by decide +kernel) (pa_cons (pv 0) (pa_cons (pe_glob (v := .ref z.k_TooFew) (by rfl) T.k_TooFew rfl) pa_nil))) pa_nil)))
      (pss_cons (ps_if (PW.pt (pw_or (pt_val (pe_callB (r := rIsX K) call_isX (by rfl) T.m_isinstance (by decide +kernel) (pa_cons (pv 0) (pa_cons (pe_tup (pa_cons (pe_glob (v := .ref z.k_NoFraction) (by rfl) T.k_NoFraction rfl) (pa_cons (pe_glob (v := .ref z.k_NoPrime) (by rfl) T.k_NoPrime rfl) (pa_cons (pe_glob (v := .ref z.k_TooMany) (by rfl) T.k_TooMany rfl) (pa_cons (pe_glob (v := .ref z.k_NoText) (by rfl) T.k_NoText rfl) (pa_cons (pe_glob (v := .ref z.k_NoName) (by rfl) T.k_NoName rfl) (pa_cons (pe_glob (v := .ref z.k_NoRow) (by rfl) T.k_NoRow rfl) pa_nil))))))) pa_nil)))) (pw_or1 (pt_cmpR op_ne (pe_bm PySem.F.plainAttrs_list PySem.F.slot_list_count PySem.F.type_list_count (r := rCountD K) (mt_countD (un65Q hr)) (pv 1) (pa_cons pe_bl pa_nil)) pe_int (nomark _))))) (pss_one (ps_ret pe_str)) pss_nil)
      (pss_cons (ps_if (PW.pt (pw_or (pt_val (pe_callB (r := rIsX K) call_isX (by rfl) T.m_isinstance (by decide +kernel) (pa_cons (pv 0) (pa_cons (pe_tup (pa_cons (pe_glob (v := .ref z.k_NoPoly) (by rfl) T.k_NoPoly rfl) (pa_cons (pe_glob (v := .ref z.k_NoQuotient) (by rfl) T.k_NoQuotient rfl) (pa_cons (pe_glob (v := .ref z.k_NoWorths) (by rfl) T.k_NoWorths rfl) (pa_cons (pe_glob (v := .ref z.k_NoDegrees) (by rfl) T.k_NoDegrees rfl) pa_nil))))) pa_nil)))) (pw_or1 (pt_not (pt_val (pe_callB (r := rIsX K) call_isX (by rfl) T.m_isinstance (by decide +kernel) (pa_cons (pv 0) (pa_cons (pe_bltn (v := .ty "ValueError") (by rfl) T.m_ValueError (by decide +kernel) rfl) pa_nil)))))))) (pss_one (ps_ret pe_str)) pss_nil)
      (pss_one (ps_ret (pe_ix (r := rIxL K) ix_list (pe_lst (pa_cons pe_str (pa_cons pe_str (pa_cons pe_str (pa_cons pe_str pa_nil))))) (pe_bm PySem.F.plainAttrs_list PySem.F.slot_list_index PySem.F.type_list_index (r := rIndex K) mt_index (pv 1) (pa_cons pe_bl pa_nil)) (fun _ _ => rfl)))))))), ?_⟩
    refine ⟨.ref a, rfl, a, C, _, _, rfl, ha, hk.xc, .inl ⟨_, .own _, hk.k0⟩, .ref a, rfl, a, C, _, _, rfl, ha, hk.xc, .inl ⟨_, .own _, hk.k1⟩, .ref a, rfl, a, C, _, _, rfl, ha, hk.xc, .inl ⟨_, .own _, hk.k2⟩, sz_of (Nat.le_of_ble_eq_true rfl), fun l0 hl0 => ?_⟩
    have y0 := Ex.new (o := .lst [.bl (decide (0 = j)), .bl (decide (1 = j)), .bl (decide (2 = j))]) hl0
    have hb0 : (upd H l0 (.lst [.bl (decide (0 = j)), .bl (decide (1 = j)), .bl (decide (2 = j))])) l0 = some (.lst [.bl (decide (0 = j)), .bl (decide (1 = j)), .bl (decide (2 = j))]) := upd_same
    have hl00 := hl0
    dsimp only [gName_app]
    revert y0 hb0
    generalize upd H l0 (.lst [.bl (decide (0 = j)), .bl (decide (1 = j)), .bl (decide (2 = j))]) = Hm
    intro y0 hb0
    refine ⟨.ref l0, rfl, .inl ⟨rfl, _, sq_of hb0⟩, .ref a, rfl, a, C, _, _, rfl, y0 _ _ ha, hk.xc, .inl ⟨_, .own _, hk.k3⟩, l0, _, _, rfl, rfl, hb0, sz_lt (Nat.le_of_ble_eq_true rfl), ?_⟩
    have x0 : Ex H (upd Hm l0 (.lst ([.bl (decide (0 = j)), .bl (decide (1 = j)), .bl (decide (2 = j))] ++ [.bl (decide (3 = j))]))) := fun b o hb => by
      rw [upd_ne (ne_of_none hb hl00)]
      exact y0 _ _ hb
    have h0 : (upd Hm l0 (.lst ([.bl (decide (0 = j)), .bl (decide (1 = j)), .bl (decide (2 = j))] ++ [.bl (decide (3 = j))]))) l0 = some (.lst ([decide (0 = j), decide (1 = j), decide (2 = j), decide (3 = j)].map V.bl)) := upd_same
    dsimp only
    revert x0 h0
    generalize upd Hm l0 _ = H0
    intro x0 h0
    have ha0 := x0 _ _ ha
    refine ⟨.ref a, rfl, sz_of (Nat.le_of_ble_eq_true rfl), fun tp htp => ?_⟩
    have x1 := Ex.new (o := .tup [.ref z.k_NoFraction, .ref z.k_NoPrime, .ref z.k_TooMany, .ref z.k_NoText, .ref z.k_NoName, .ref z.k_NoRow]) htp
    refine ⟨a, C, .ref tp, false, rfl, x1 _ _ ha0, hk.xc, .inr ⟨tp, _, _, rfl, upd_same, .cons (.own _) (.cons (.own _) (.cons (.own _) (.cons (.own _) (.cons (.own _) (.cons (.own _) (.nil)))))), hk.ka⟩, false, rfl, itF rfl ?_⟩
    have ha1 := x1 _ _ ha0
    have h1 := x1 _ _ h0
    have g1 := x0.trans x1
    revert ha1 h1 g1
    generalize upd H0 tp _ = H1
    intro ha1 h1 g1
    refine ⟨.ref l0, rfl, .inl ⟨rfl, _, sq_of h1⟩, l0, .bl true, .bool true, [decide (0 = j), decide (1 = j), decide (2 = j), decide (3 = j)].map PyData.bool, rfl, rfl, Dt.dp _ _ (SeqAt.canLay_of_shaped (sh_bls _)) (.lst h1 (dt_bls _)), .bl true, sh_bls _, rfl, ?_⟩
    rw [cnt_eq]
    have hc : [decide (0 = j), decide (1 = j), decide (2 = j), decide (3 = j)].count true = 1 := by
      rcases (show j = 0 ∨ j = 1 ∨ j = 2 ∨ j = 3 by omega) with rfl | rfl | rfl | rfl <;> rfl
    rw [hc]
    refine ⟨rfl, _, rfl, itF rfl ?_⟩
    refine go_next ?_
    dsimp only
    refine ⟨.ref a, rfl, sz_of (Nat.le_of_ble_eq_true rfl), fun tq htq => ?_⟩
    have x1b := Ex.new (o := .tup [.ref z.k_NoPoly, .ref z.k_NoQuotient, .ref z.k_NoWorths, .ref z.k_NoDegrees]) htq
    refine ⟨a, C, .ref tq, false, rfl, x1b _ _ ha1, hk.xc, .inr ⟨tq, _, _, rfl, upd_same, .cons (.own _) (.cons (.own _) (.cons (.own _) (.cons (.own _) (.nil)))), hk.kb⟩, false, rfl, itF rfl ?_⟩
    have ha2 := x1b _ _ ha1
    have h1b := x1b _ _ h1
    have g1b := g1.trans x1b
    revert ha2 h1b g1b
    generalize upd H1 tq _ = H1b
    intro ha2 h1b g1b
    refine ⟨.ref a, rfl, a, C, _, true, rfl, ha2, hk.xc, .inl ⟨_, .ty _, hk.kv⟩, true, rfl, itF rfl ?_⟩
    refine ⟨sz_of (Nat.le_of_ble_eq_true rfl), fun l2 hl2 => ?_⟩
    have x2 := Ex.new (o := .lst [.str (wordK 0), .str (wordK 1), .str (wordK 2), .str (wordK 3)]) hl2
    have h2 := x2 _ _ h1b
    refine ⟨.ref l0, rfl, .inl ⟨rfl, _, sq_of h2⟩, l0, _, .bl true, j, .bl true, rfl, rfl, sq_of h2, rfl, bls_flat _, bls_at ?_, rfl, bls_no ?_, ?_⟩
    · rcases (show j = 0 ∨ j = 1 ∨ j = 2 ∨ j = 3 by omega) with rfl | rfl | rfl | rfl <;> rfl
    · intro m hm
      rcases (show j = 0 ∨ j = 1 ∨ j = 2 ∨ j = 3 by omega) with rfl | rfl | rfl | rfl
      · omega
      · obtain rfl : m = 0 := by omega
        rfl
      · rcases (show m = 0 ∨ m = 1 by omega) with rfl | rfl <;> rfl
      · rcases (show m = 0 ∨ m = 1 ∨ m = 2 by omega) with rfl | rfl | rfl <;> rfl
    · refine ⟨l2, [.str (wordK 0), .str (wordK 1), .str (wordK 2), .str (wordK 3)], (j : Int), .str (wordK j), rfl, rfl, sq_of upd_same, ?_, q _ (g1b.trans x2)⟩
      rcases (show j = 0 ∨ j = 1 ∨ j = 2 ∨ j = 3 by omega) with rfl | rfl | rfl | rfl <;> rfl
theorem kj0 (T : Txt K mg base z) : KJ K z z.k_NoReadings 0 := ⟨T.xc_NoReadings, T.kv_NoReadings, T.xm_NoReadings, T.ki_NoReadings_NoReadings, T.ki_NoReadings_NoBounds, T.ki_NoReadings_NoNumber, T.ki_NoReadings_TooFew, (kit_cons T.ki_NoReadings_NoFraction (kit_cons T.ki_NoReadings_NoPrime (kit_cons T.ki_NoReadings_TooMany (kit_cons T.ki_NoReadings_NoText (kit_cons T.ki_NoReadings_NoName (kit_cons T.ki_NoReadings_NoRow rfl)))))), (kit_cons T.ki_NoReadings_NoPoly (kit_cons T.ki_NoReadings_NoQuotient (kit_cons T.ki_NoReadings_NoWorths (kit_cons T.ki_NoReadings_NoDegrees rfl))))⟩
theorem kj1 (T : Txt K mg base z) : KJ K z z.k_NoBounds 1 := ⟨T.xc_NoBounds, T.kv_NoBounds, T.xm_NoBounds, T.ki_NoBounds_NoReadings, T.ki_NoBounds_NoBounds, T.ki_NoBounds_NoNumber, T.ki_NoBounds_TooFew, (kit_cons T.ki_NoBounds_NoFraction (kit_cons T.ki_NoBounds_NoPrime (kit_cons T.ki_NoBounds_TooMany (kit_cons T.ki_NoBounds_NoText (kit_cons T.ki_NoBounds_NoName (kit_cons T.ki_NoBounds_NoRow rfl)))))), (kit_cons T.ki_NoBounds_NoPoly (kit_cons T.ki_NoBounds_NoQuotient (kit_cons T.ki_NoBounds_NoWorths (kit_cons T.ki_NoBounds_NoDegrees rfl))))⟩
theorem kj3 (T : Txt K mg base z) : KJ K z z.k_TooFew 3 := ⟨T.xc_TooFew, T.kv_TooFew, T.xm_TooFew, T.ki_TooFew_NoReadings, T.ki_TooFew_NoBounds, T.ki_TooFew_NoNumber, T.ki_TooFew_TooFew, (kit_cons T.ki_TooFew_NoFraction (kit_cons T.ki_TooFew_NoPrime (kit_cons T.ki_TooFew_TooMany (kit_cons T.ki_TooFew_NoText (kit_cons T.ki_TooFew_NoName (kit_cons T.ki_TooFew_NoRow rfl)))))), (kit_cons T.ki_TooFew_NoPoly (kit_cons T.ki_TooFew_NoQuotient (kit_cons T.ki_TooFew_NoWorths (kit_cons T.ki_TooFew_NoDegrees rfl))))⟩
def sp__law_asked (z : Ad) : Sp := fun vs H Q _ => ∃ (way : Int) (v w : V) (dv dw : PyData), vs = [.int way, v, w] ∧ Dt H v dv ∧ Dt H w dw ∧ ShowsB (.list [dv, dw]) ∧ (way = 0 ∨ way = 1) ∧ Tabs z H ∧
  (dReadings dv = false → ∀ H', Ex H H' → Q (.str (wordK 0)) H') ∧
  (dReadings dv = true → (way = 0 ∧ dBounds dw = false ∨ way = 1 ∧ dBoundsTo 60 dw = false) → ∀ H', Ex H H' → Q (.str (wordK 1)) H') ∧
  (dReadings dv = true → way = 0 → dBounds dw = true → ∃ (l : List (Int × Option Int)) (n d : Int), dv = .list (rdN l) ∧ RdN l ∧ dw = .tuple [.int n, .int d] ∧ 0 ≤ n ∧ 1 ≤ d ∧ n.natAbs < 2 ^ 250 ∧ d.natAbs < 2 ^ 250 ∧ (2 * n * d < prodI (l.map (·.1)) → ∀ H', Ex H H' → Q (.str (Str.ofString "")) H') ∧ (prodI (l.map (·.1)) ≤ 2 * n * d → ∀ H', Ex H H' → Q (.str (wordK 3)) H')) ∧
  (dReadings dv = true → way = 1 → dBoundsTo 60 dw = true → ∀ H', Ex H H' → Q (.str (Str.ofString "")) H')
theorem ok__law_asked (T : Txt K mg base z) : FnG P w K mg base CX0 16 z.a__law_asked z.d__law_asked ["way", "readings", "bounds"] (sp__law_asked z) := by
  refine okG T.F__law_asked sc__law_asked (fun vs H Q E h => ?_) (fun cdv A outer s H vs Q E hG hr h => ?_)
  · obtain ⟨way, v, w, dv, dw, rfl, _⟩ := h
    rfl
  · obtain ⟨way, v, w, dv, dw, rfl, hv, hw, hs, hway, hT, q0, q1, q2, q3⟩ := h
    refine ⟨_, (PSs.nox (pss_cons (ps_set (i := 3) sc__law_asked.nd rfl (.inl rfl) pe_str)
      (pss_cons (ps_set (i := 4) sc__law_asked.nd rfl (.inl rfl) (pe_callB (r := rReprB) (call_reprB T.sys hG hr.units) (by rfl) T.m_repr (by decide +kernel) (pa_cons (pe_lst (pa_cons (pv 1) (pa_cons (pv 2) pa_nil))) pa_nil)))
      (pss_cut (ps_try_trk (i := 5) rfl rfl rfl sc__law_asked.nd rfl rfl ⟨by rfl, by decide, .inl T.k_BackError⟩ takes0 (fun W pn xe tk _ => (pss_one (ps_if (pt_cmpR op_eq (pv 0) pe_int (nomark _)) (pss_one (ps_expr (pe_callS (okX_one_back T) hr (by rfl) T.g_one_back T.F_one_back.kp T.b_one_back (passAt tk) (pa_cons (pv 1) (pa_cons (pv 2) pa_nil))))) (pss_one (ps_expr (pe_callS (okX_all_back T) (hr.mono (by decide)) (by rfl) T.g_all_back T.F_all_back.kp T.b_all_back (passAt tk) (pa_cons (pv 1) (pa_cons (pv 2) pa_nil)))))))) (fun a pn => (pss_one (ps_set (i := 3) sc__law_asked.nd rfl (.inl rfl) (pe_callQ (okQ__law_word T) (roomQ_m (hr.mono (by decide))) (by rfl) T.g__law_word T.F__law_word.kp T.b__law_word (pa_cons (pv 5) pa_nil))))))
      (pss_cons (ps_if (pt_cmpR op_ne (pe_callB (r := rReprB) (call_reprB T.sys hG hr.units) (by rfl) T.m_repr (by decide +kernel) (pa_cons (pe_lst (pa_cons (pv 1) (pa_cons (pv 2) pa_nil))) pa_nil)) (pv 4) (nomark _)) (pss_one (ps_ret pe_str)) pss_nil)
      (pss_one (ps_ret (pv 3)))))))), ?_⟩
    refine ⟨v, rfl, w, rfl, sz_of (Nat.le_of_ble_eq_true rfl), fun l0 hl0 => ?_⟩
    have x1 := Ex.new (o := .lst [v, w]) hl0
    refine ⟨.ref l0, _, rfl, .lst upd_same (.cons (hv.up x1) (.cons (hw.up x1) .nil)), hs, ?_⟩
    dsimp only [gName_app]
    revert x1
    generalize upd H l0 (.lst [v, w]) = H1
    intro x1
    refine ⟨fun σ H' => ∃ (x : Str) (y5 : Option V), σ = [some (.int way), some v, some w, some (.str x), some (.str (PyData.list [dv, dw]).shown), y5] ∧ Ex H H' ∧ (∀ H2, Ex H H2 → Q (.str x) H2), ?_, fun σ H2 hM => ?_⟩
    · have hT1 := hT.up x1
      refine ⟨.int way, rfl, rfl, _, rfl, it2 (fun z => ?_) fun z => ?_⟩
      · have hw0 : way = 0 := by
          rcases hway with y | y
          · exact y
          · subst y
            cases z
        refine ⟨v, rfl, w, rfl, v, w, dv, dw, rfl, hv.up x1, hw.up x1, hT1.1, hT1.2.2, fun hr H2 e1 => ?_, fun hr hb H2 e1 => ?_, fun hr hb => ?_⟩
        · have g2 := x1.trans e1
          exact ⟨true, (kj0 T).xm, fun _ => ⟨rfl, fun a ha => ⟨.ref a, rfl, a, _, 0, rfl, kj0 T, by decide, upd_same, fun H2 e2 => ⟨_, _, rfl, g2.trans ((Ex.new ha).trans e2), q0 hr⟩⟩⟩, fun z => nomatch z⟩
        · have g2 := x1.trans e1
          exact ⟨true, (kj1 T).xm, fun _ => ⟨rfl, fun a ha => ⟨.ref a, rfl, a, _, 1, rfl, kj1 T, by decide, upd_same, fun H2 e2 => ⟨_, _, rfl, g2.trans ((Ex.new ha).trans e2), q1 hr (.inl ⟨hw0, hb⟩)⟩⟩⟩, fun z => nomatch z⟩
        · obtain ⟨l, n, d, el, hR, ed, n0, d0, nz, dz, qa, qb⟩ := q2 hr hw0 hb
          refine ⟨l, n, d, el, hR, ed, n0, d0, nz, dz, fun hlt o u H2 _ _ e1 => ?_, fun hle H2 e1 => ?_⟩
          · exact ⟨_, _, rfl, x1.trans e1, qa hlt⟩
          · have g2 := x1.trans e1
            exact ⟨true, (kj3 T).xm, fun _ => ⟨rfl, fun a ha => ⟨.ref a, rfl, a, _, 3, rfl, kj3 T, by decide, upd_same, fun H2 e2 => ⟨_, _, rfl, g2.trans ((Ex.new ha).trans e2), qb hle⟩⟩⟩, fun z => nomatch z⟩
      · have hw1 : way = 1 := by
          rcases hway with y | y
          · subst y
            cases z
          · exact y
        refine ⟨v, rfl, w, rfl, v, w, dv, dw, rfl, hv.up x1, hw.up x1, hT1.1, hT1.2.1, fun hr H2 e1 => ?_, fun hr hb H2 e1 => ?_, fun hr hb u H2 e1 => ?_⟩
        · have g2 := x1.trans e1
          exact ⟨true, (kj0 T).xm, fun _ => ⟨rfl, fun a ha => ⟨.ref a, rfl, a, _, 0, rfl, kj0 T, by decide, upd_same, fun H2 e2 => ⟨_, _, rfl, g2.trans ((Ex.new ha).trans e2), q0 hr⟩⟩⟩, fun z => nomatch z⟩
        · have g2 := x1.trans e1
          exact ⟨true, (kj1 T).xm, fun _ => ⟨rfl, fun a ha => ⟨.ref a, rfl, a, _, 1, rfl, kj1 T, by decide, upd_same, fun H2 e2 => ⟨_, _, rfl, g2.trans ((Ex.new ha).trans e2), q1 hr (.inr ⟨hw1, hb⟩)⟩⟩⟩, fun z => nomatch z⟩
        · exact ⟨_, _, rfl, x1.trans e1, q3 hr hw1 hb⟩
    · obtain ⟨x, y5, rfl, e2, qx⟩ := hM
      refine ⟨v, rfl, w, rfl, sz_of (Nat.le_of_ble_eq_true rfl), fun l1 hl1 => ?_⟩
      have x3 := Ex.new (o := .lst [v, w]) hl1
      refine ⟨.ref l1, _, rfl, .lst upd_same (.cons ((hv.up e2).up x3) (.cons ((hw.up e2).up x3) .nil)), hs, _, rfl, rfl, _, rfl, itF (congrArg Bool.not (decide_eq_true rfl)) (go_next ?_)⟩
      exact ⟨_, rfl, qx _ (e2.trans x3)⟩
def sp__law_split : Sp := fun vs H Q _ => ∃ (da pa : Addr) (ps : List Int), vs = [.ref da, .ref pa] ∧ DeckB H da ∧ H pa = some (.lst (ps.map V.int)) ∧ pa ≠ da ∧ (∀ p ∈ ps, primeB p = true) ∧ ps.length ≤ 10 ∧
  ∀ (n d : Int) (t : Addr) H', 1 ≤ n → 1 ≤ d → n * d = prodI ps → n.natAbs < 2 ^ 200 → d.natAbs < 2 ^ 200 → H t = none → H' t = some (.tup [.int n, .int d]) → DeckB H' da → ExB da H H' → Q (.ref t) H'
theorem ok__law_split (T : Txt K mg base z) : FnOk P w K mg base CX0 3 z.a__law_split z.d__law_split ["deck", "primes"] (sp__law_split) := by
  refine T.F__law_split.ok sc__law_split (fun vs H Q E h => ?_) (fun cdv A outer s H vs Q E hr h => ?_)
  · obtain ⟨da, pa, ps, rfl, _⟩ := h
    rfl
  · obtain ⟨da, pa, ps, rfl, hD, hp, hne, hpr, hl, q⟩ := h
    refine ⟨_, (PSs.nox (pss_cons (ps_set (i := 2) sc__law_split.nd rfl (.inl rfl) pe_int)
      (pss_cons (ps_set (i := 3) sc__law_split.nd rfl (.inl rfl) pe_int)
      (pss_cons (ps_for PassesOwn.never rfl (pi_listK K (pv 1)) (pg_name (i := 4) sc__law_split.nd rfl (.inl rfl)) (pss_one (ps_if (pt_cmpR op_eq (pe_op op_mod (pe_call (ok__law_next T) hr (by rfl) T.g__law_next T.F__law_next.kp T.b__law_next .nil pass0 (pa_cons (pv 0) pa_nil)) pe_int) pe_int (nomark _)) (pss_one (ps_set (i := 2) sc__law_split.nd rfl (.inl rfl) (pe_op op_mulW (pv 2) (pv 4)))) (pss_one (ps_set (i := 3) sc__law_split.nd rfl (.inl rfl) (pe_op op_mulW (pv 3) (pv 4)))))))
      (pss_one (ps_ret (pe_tup (pa_cons (pv 2) (pa_cons (pv 3) pa_nil))))))))), ?_⟩
    refine ⟨.ref pa, rfl, pa, rfl, ⟨_, sq_of hp⟩, for_list (xs := ps.map V.int) (fun i σ H' => (∃ (n d : Int) (y4 : Option V), σ = [some (.ref da), some (.ref pa), some (.int n), some (.int d), y4] ∧ 1 ≤ n ∧ 1 ≤ d ∧ n * d = prodI (ps.take i)) ∧ DeckB H' da ∧ ExB da H H') ⟨⟨1, 1, _, rfl, by decide, by decide, rfl⟩, hD, ExB.refl _ _⟩ (fun i σ H' _ hP => sq_of (hP.2.2 _ _ hne hp)) (fun i x σ H' hi hP => ?_) (fun σ H' hP => ?_)⟩
    · obtain ⟨⟨n, d, y4, rfl, n1, d1, hnd⟩, hD', e⟩ := hP
      obtain ⟨p, hpi, rfl⟩ := int_get hi
      have htk : ps.take (i + 1) = ps.take i ++ [p] := take_snoc hpi
      have hpp := hpr p (List.mem_of_getElem? hpi)
      have lo := primeB_lo hpp
      obtain ⟨s0, s1⟩ := prodI_small (ps := ps.take i) (by rw [List.length_take]; omega) fun p hp => hpr p (List.mem_of_mem_take hp)
      have hn : n ≤ n * d := by
        have := Int.mul_le_mul_of_nonneg_left d1 (show 0 ≤ n by omega)
        omega
      have hd : d ≤ n * d := by
        have := Int.mul_le_mul_of_nonneg_right n1 (show 0 ≤ d by omega)
        omega
      refine ⟨.ref da, rfl, da, rfl, hD', fun x1 H1 _ _ hD1 e1 => ⟨_, _, rfl, rfl, (show (0 : Int) < 2 by decide), rfl, _, rfl, it2 (fun z => ?_) fun z => ?_⟩⟩
      · refine ⟨.int n, rfl, .int p, rfl, n, p, rfl, rfl, wide_mul (a := 120) (b := 20) (by omega) (by omega) (by decide) (by decide) (by decide), ⟨n * p, d, _, rfl, ?_, d1, ?_⟩, hD1, e.trans e1⟩
        · have := Int.mul_le_mul (show (1 : Int) ≤ n from n1) (show (1 : Int) ≤ p by omega) (by decide) (by omega)
          omega
        · rw [htk, prodI_snoc, ← hnd, Int.mul_assoc, Int.mul_comm p d, ← Int.mul_assoc]
      · refine ⟨.int d, rfl, .int p, rfl, d, p, rfl, rfl, wide_mul (a := 120) (b := 20) (by omega) (by omega) (by decide) (by decide) (by decide), ⟨n, d * p, _, rfl, n1, ?_, ?_⟩, hD1, e.trans e1⟩
        · have := Int.mul_le_mul (show (1 : Int) ≤ d from d1) (show (1 : Int) ≤ p by omega) (by decide) (by omega)
          omega
        · rw [htk, prodI_snoc, ← hnd, Int.mul_assoc]
    · obtain ⟨⟨n, d, y4, rfl, n1, d1, hnd⟩, hD', e⟩ := hP
      rw [show (ps.map V.int).length = ps.length from List.length_map .., List.take_length] at hnd
      obtain ⟨s0, s1⟩ := prodI_small hl hpr
      have hn : n ≤ n * d := by
        have := Int.mul_le_mul_of_nonneg_left d1 (show 0 ≤ n by omega)
        omega
      have hd : d ≤ n * d := by
        have := Int.mul_le_mul_of_nonneg_right n1 (show 0 ≤ d by omega)
        omega
      refine ⟨.int n, rfl, .int d, rfl, sz_of (Nat.le_of_ble_eq_true rfl), fun t ht => ?_⟩
      have htn : H t = none := by
        cases eh : H t with
        | none => rfl
        | some o =>
          have := e t o (hD'.ne ht) eh
          rw [ht] at this
          cases this
      exact q n d t _ n1 d1 hnd (Nat.lt_of_lt_of_le (show n.natAbs < 2 ^ 120 by omega) (by decide)) (Nat.lt_of_lt_of_le (show d.natAbs < 2 ^ 120 by omega) (by decide)) htn upd_same (hD'.up (Ex.new ht)) (e.trans (ExB.of (Ex.new ht)))
/-- asked within enough and not enough -/
theorem ask_few {z : Ad} {v w : V} {H : Hp} {l : List (Int × Option Int)} {n d : Int} {Q : VK} {E : XK} (hv : Dt H v (.list (rdN l))) (hR : RdN l) (hw : Dt H w (.tuple [.int n, .int d])) (n0 : 0 ≤ n) (d0 : 1 ≤ d) (nz : n.natAbs < 2 ^ 200) (dz : d.natAbs < 2 ^ 200) (hT : Tabs z H) (q : ∀ H', Ex H H' → Q (.str (if 2 * n * d < prodI (l.map (·.1)) then Str.ofString "" else wordK 3)) H') : sp__law_asked z [.int 0, v, w] H Q E := by
  refine ⟨0, v, w, _, _, rfl, hv, hw, shows2D (shb_rd hR) (shb_bd nz dz), .inl rfl, hT, fun hr => ?_, fun _ h => ?_, fun _ _ _ => ⟨l, n, d, rfl, hR, rfl, n0, d0, Nat.lt_of_lt_of_le nz (by decide), Nat.lt_of_lt_of_le dz (by decide), fun h => ?_, fun h => ?_⟩, fun _ h => nomatch h⟩
  · rw [hR.isR] at hr
    cases hr
  · rcases h with ⟨_, h⟩ | ⟨h, _⟩
    · rw [bd_ok n0 d0] at h
      cases h
    · cases h
  · rw [if_pos h] at q
    exact q
  · rw [if_neg (by omega)] at q
    exact q
theorem go_iftA {te : TE} {A B : TS} {D : Ends} {σ : L2.St} {H : Hp} (h : te σ H fun v H1 => ∃ b, v = .bl b ∧ if b = true then A D σ H1 else B D σ H1) : tIfS (tTest te) A B D σ H := h
theorem ask_fewT {z : Ad} {v w : V} {σ : L2.St} {H : Hp} {l : List (Int × Option Int)} {n d : Int} {Q : VK} (h0 : σ[0]? = some (some v)) (h3 : σ[3]? = some (some w)) (hv : Dt H v (.list (rdN l))) (hR : RdN l) (hw : Dt H w (.tuple [.int n, .int d])) (n0 : 0 ≤ n) (d0 : 1 ≤ d) (nz : n.natAbs < 2 ^ 200) (dz : d.natAbs < 2 ^ 200) (hT : Tabs z H) (q : ∀ H', Ex H H' → Q (.str (if 2 * n * d < prodI (l.map (·.1)) then Str.ofString "" else wordK 3)) H') :
    tCall (sp__law_asked z) [] E0 (tCons (tC (V.int 0)) (tCons (tVar 0) (tCons (tVar 3) tNil))) σ H Q := ⟨v, h0, w, h3, ask_few (z := z) (E := E0) (Q := Q) hv hR hw n0 d0 nz dz hT q⟩
def sp__law_enough_right (z : Ad) : Sp := fun vs H Q _ => ∃ (v : V) (n d : Int) (l : List (Int × Option Int)), vs = [v, .int n, .int d] ∧ Dt H v (.list (rdN l)) ∧ RdN l ∧ 1 ≤ n ∧ n ≤ 1000000000000 ∧ 1 ≤ d ∧ d ≤ 1000000000000 ∧ prodI (l.map (·.1)) = 2 * n * d ∧ Tabs z H ∧ ∀ H', Ex H H' → Q (.bl true) H'
theorem ok__law_enough_right (T : Txt K mg base z) : FnG P w K mg base CX0 17 z.a__law_enough_right z.d__law_enough_right ["readings", "n", "d"] (sp__law_enough_right z) := by
  refine okG T.F__law_enough_right sc__law_enough_right (fun vs H Q E h => ?_) (fun cdv A outer s H vs Q E hG hr h => ?_)
  · obtain ⟨v, n, d, l, rfl, _⟩ := h
    rfl
  · obtain ⟨v, n, d, l, rfl, hv, hR, n1, n9, d1, d9, hp, hT, q⟩ := h
    refine ⟨_, (PSs.nox (pss_cons (ps_for PassesOwn.never rfl (pi_listK K (pe_lst (pa_cons (pe_tup (pa_cons (pv 1) (pa_cons (pv 2) pa_nil))) (pa_cons (pe_tup (pa_cons (pe_op op_add (pv 1) pe_int) (pa_cons (pv 2) pa_nil))) (pa_cons (pe_tup (pa_cons (pv 1) (pa_cons (pe_op op_add (pv 2) pe_int) pa_nil))) (pa_cons (pe_tup (pa_cons (pe_op op_pow pe_int pe_int) (pa_cons (pv 2) pa_nil))) pa_nil)))))) (pg_name (i := 3) sc__law_enough_right.nd rfl (.inl rfl)) (pss_one (ps_if (pt_cmpR op_ne (pe_callG (ok__law_asked T) hG hr (by rfl) T.g__law_asked T.F__law_asked.kp T.b__law_asked .nil pass0 (pa_cons pe_int (pa_cons (pv 0) (pa_cons (pv 3) pa_nil)))) pe_str (nomark _)) (pss_one (ps_ret pe_bl)) pss_nil)))
      (pss_cons (ps_set (i := 4) sc__law_enough_right.nd rfl (.inl rfl) (pe_op op_cat (pe_lst (pa_cons (pe_tup (pa_cons (pe_op op_sub (pv 1) pe_int) (pa_cons (pv 2) pa_nil))) (pa_cons (pe_tup (pa_cons pe_int (pa_cons (pv 2) pa_nil))) (pa_cons (pe_tup (pa_cons pe_int (pa_cons (pe_op op_pow pe_int pe_int) pa_nil))) pa_nil)))) (pe_op op_rep (pe_lst (pa_cons (pe_tup (pa_cons (pv 1) (pa_cons (pe_op op_sub (pv 2) pe_int) pa_nil))) pa_nil)) (pe_callTy call_int1 (by rfl) T.m_int (by decide +kernel) (pa_cons (pe_cmpR op_gt (pv 2) pe_int (nomark _)) pa_nil)))))
      (pss_one (ps_ret (pe_cmpR (r := rEqD K) (op_eqD hr.units) (pe_lc (own := [("bounds", 3)]) (by rfl) sc__law_enough_right.nd (pi_listK K (pv 4)) (blkOk_by (own := [("bounds", 3)]) (N := N__law_enough_right) (sc := (defScope s__law_enough_right)) (by decide +kernel)) (fun _ _ _ _ _ => (pg_name (i := 3) sc__law_enough_right.nd rfl (.inl rfl))) (fun _ _ _ _ _ => (pts_one (pt_cmpR op_ne (pe_callG (ok__law_asked T) hG hr (by rfl) T.g__law_asked T.F__law_asked.kp T.b__law_asked .nil pass0 (pa_cons pe_int (pa_cons (pv 0) (pa_cons (pv 3) pa_nil)))) pe_str (nomark _)))) (fun _ _ _ _ _ => (pv 3))) (pe_lst pa_nil) (nomark _))))))), ?_⟩
    have b0 : (100000000000000000000000000000 : Nat) < 2 ^ 200 := by decide
    have bp : (10 : Int) ^ (29 : Int).toNat = 100000000000000000000000000000 := by decide
    have cn : ∀ {σ : L2.St} {H : Hp} {i : Int}, Ev (tC (.int i)) σ H (.int i) := @fun σ H i H1 e Q k => k H1 (Ex.refl _)
    have pw : ∀ {σ : L2.St} {H : Hp}, Ev (tOp (rI CPow fun i j => V.int (i ^ j.toNat)) (tC (V.int 10)) (tC (V.int 29))) σ H (.int (10 ^ (29 : Int).toNat)) := @fun σ H H1 e Q k => ⟨10, 29, rfl, rfl, ⟨by decide, by decide, by decide⟩, k H1 (Ex.refl _)⟩
    have two : ∀ {σ : L2.St} {H : Hp} {ta tb : TE} {i j : Int}, Ev ta σ H (.int i) → Ev tb σ H (.int j) → EvD (tTup (tCons ta (tCons tb tNil))) σ H (.tuple [.int i, .int j]) := @fun σ H ta tb i j h1 h2 => ed_tup (eda_cons (ed_int h1) (eda_cons (ed_int h2) eda_nil)) (Nat.le_of_ble_eq_true rfl)
    obtain ⟨L1, hL1⟩ : ∃ L1 : List (Int × Int), L1 = [(n, d), (n + 1, d), (n, d + 1), (10 ^ (29 : Int).toNat, d)] := ⟨_, rfl⟩
    have hF1 : ∀ f ∈ L1, 0 ≤ f.1 ∧ 1 ≤ f.2 ∧ f.1.natAbs < 2 ^ 200 ∧ f.2.natAbs < 2 ^ 200 ∧ ¬ 2 * f.1 * f.2 < prodI (l.map (·.1)) := fun f hf => by
      rw [hL1, bp] at hf
      rw [hp]
      simp only [List.mem_cons, List.not_mem_nil, or_false] at hf
      rcases hf with rfl | rfl | rfl | rfl <;> dsimp only
      · exact ⟨by omega, by omega, by omega, by omega, by omega⟩
      · refine ⟨by omega, by omega, by omega, by omega, ?_⟩
        show ¬ 2 * (n + 1) * d < 2 * n * d
        have e : 2 * (n + 1) * d = 2 * n * d + 2 * d := by rw [Int.mul_add, Int.add_mul]; rfl
        omega
      · refine ⟨by omega, by omega, by omega, by omega, ?_⟩
        show ¬ 2 * n * (d + 1) < 2 * n * d
        have e : 2 * n * (d + 1) = 2 * n * d + 2 * n := by rw [Int.mul_add, Int.mul_one]
        omega
      · refine ⟨by decide, by omega, by decide, by omega, ?_⟩
        show ¬ 2 * 100000000000000000000000000000 * d < 2 * n * d
        have := Int.mul_le_mul_of_nonneg_right (show 2 * n ≤ 2 * 100000000000000000000000000000 by omega) (show 0 ≤ d by omega)
        omega
    obtain ⟨L2, hL2⟩ : ∃ L2 : List (Int × Int), L2 = [(n - 1, d), (0, d), (0, 10 ^ (29 : Int).toNat)] ++ (if 1 < d then [(n, d - 1)] else []) := ⟨_, rfl⟩
    have hF2 : ∀ f ∈ L2, 0 ≤ f.1 ∧ 1 ≤ f.2 ∧ f.1.natAbs < 2 ^ 200 ∧ f.2.natAbs < 2 ^ 200 ∧ 2 * f.1 * f.2 < prodI (l.map (·.1)) := fun f hf => by
      have h0 : 0 < 2 * n * d := by
        have := Int.mul_le_mul (show (1 : Int) ≤ 2 * n by omega) d1 (by decide) (by omega)
        omega
      rw [hL2, bp] at hf
      rw [hp]
      rcases List.mem_append.mp hf with hf | hf
      · simp only [List.mem_cons, List.not_mem_nil, or_false] at hf
        rcases hf with rfl | rfl | rfl <;> dsimp only
        · refine ⟨by omega, by omega, by omega, by omega, ?_⟩
          show 2 * (n - 1) * d < 2 * n * d
          have e : 2 * (n - 1) * d = 2 * n * d - 2 * d := by rw [Int.mul_sub, Int.sub_mul]; rfl
          omega
        · refine ⟨by omega, by omega, by decide, by omega, ?_⟩
          show 2 * 0 * d < 2 * n * d
          rw [Int.mul_zero, Int.zero_mul]
          exact h0
        · refine ⟨by omega, by decide, by decide, by decide, ?_⟩
          show 2 * 0 * 100000000000000000000000000000 < 2 * n * d
          omega
      · by_cases hd : 1 < d
        · rw [if_pos hd] at hf
          rw [List.mem_singleton.mp hf]
          dsimp only
          refine ⟨by omega, by omega, by omega, by omega, ?_⟩
          show 2 * n * (d - 1) < 2 * n * d
          have e : 2 * n * (d - 1) = 2 * n * d - 2 * n := by rw [Int.mul_sub, Int.mul_one]
          omega
        · rw [if_neg hd] at hf
          cases hf
    have hD1 : EvD (tLst (tCons (tTup (tCons (tVar 1) (tCons (tVar 2) tNil))) (tCons (tTup (tCons (tOp (rI0 fun i j => V.int (i + j)) (tVar 1) (tC (V.int 1))) (tCons (tVar 2) tNil))) (tCons (tTup (tCons (tVar 1) (tCons (tOp (rI0 fun i j => V.int (i + j)) (tVar 2) (tC (V.int 1))) tNil))) (tCons (tTup (tCons (tOp (rI CPow fun i j => V.int (i ^ j.toNat)) (tC (V.int 10)) (tC (V.int 29))) (tCons (tVar 2) tNil))) tNil))))) [some v, some (.int n), some (.int d), none, none] H (.list (L1.map fun f => .tuple [.int f.1, .int f.2])) := by
      rw [hL1]
      exact ed_lst (eda_cons (two (ev_var rfl) (ev_var rfl)) (eda_cons (two (fun H1 e Q k => ⟨.int n, rfl, n, 1, rfl, rfl, k H1 (Ex.refl _)⟩) (ev_var rfl)) (eda_cons (two (ev_var rfl) (fun H1 e Q k => ⟨.int d, rfl, d, 1, rfl, rfl, k H1 (Ex.refl _)⟩)) (eda_cons (two pw (ev_var rfl)) eda_nil)))) (Nat.le_of_ble_eq_true rfl)
    refine q_forE hD1 (fun i σ H' => (∃ y3, σ = [some v, some (.int n), some (.int d), y3, none]) ∧ Ex H H') (fun H1 e1 => ⟨⟨_, rfl⟩, e1⟩) (fun i x dd σ H' hi hx hP => ?_) (fun σ H' hP => ?_)
    · obtain ⟨⟨y3, rfl⟩, e⟩ := hP
      rw [List.getElem?_map] at hi
      obtain ⟨f, hf, rfl⟩ := Option.map_eq_some_iff.mp hi
      obtain ⟨f1, f2, f3, f4, f5⟩ := hF1 f (List.mem_of_getElem? hf)
      refine go_iftA ?_
      refine go_op ?_
      refine ask_fewT rfl rfl (hv.up e) hR hx f1 f2 f3 f4 (hT.up e) fun H2 e2 => ?_
      rw [if_neg f5]
      exact ⟨rfl, _, rfl, itF (congrArg Bool.not (decide_eq_true rfl)) (go_next ⟨⟨⟨_, rfl⟩, e.trans e2⟩, e2⟩)⟩
    · obtain ⟨⟨y3, rfl⟩, e⟩ := hP
      have hD3 : EvD (tOp rCat (tLst (tCons (tTup (tCons (tOp (rI0 fun i j => V.int (i - j)) (tVar 1) (tC (V.int 1))) (tCons (tVar 2) tNil))) (tCons (tTup (tCons (tC (V.int 0)) (tCons (tVar 2) tNil))) (tCons (tTup (tCons (tC (V.int 0)) (tCons (tOp (rI CPow fun i j => V.int (i ^ j.toNat)) (tC (V.int 10)) (tC (V.int 29))) tNil))) tNil))))
          (tOp rRep (tLst (tCons (tTup (tCons (tVar 1) (tCons (tOp (rI0 fun i j => V.int (i - j)) (tVar 2) (tC (V.int 1))) tNil))) tNil))
            (tCB (fun xs H Q => (∃ i, xs = [V.int i] ∧ Q (V.int i) H) ∨ ∃ k, xs = [V.bl k] ∧ Q (V.int (if k = true then 1 else 0)) H) (tCons (tOp (rI0 fun i j => V.bl (decide (j < i))) (tVar 2) (tC (V.int 1))) tNil)))) [some v, some (.int n), some (.int d), y3, none] H' (.list (L2.map fun f => .tuple [.int f.1, .int f.2])) := by
        rw [hL2, List.map_append]
        refine ed_cat (ed_lst (eda_cons (two (fun H1 e Q k => ⟨.int n, rfl, n, 1, rfl, rfl, k H1 (Ex.refl _)⟩) (ev_var rfl)) (eda_cons (two cn (ev_var rfl)) (eda_cons (two cn pw) eda_nil))) (Nat.le_of_ble_eq_true rfl)) (fun H1 e Q k => ?_) ?_
        · refine go_op ?_
          refine ed_lst (eda_cons (two (ev_var rfl) (fun H1 e Q k => ⟨.int d, rfl, d, 1, rfl, rfl, k H1 (Ex.refl _)⟩)) eda_nil) (Nat.le_of_ble_eq_true rfl) H1 e _ fun v2 H2 e2 hv2 => ?_
          obtain ⟨l2, xs, rfl, hl2, hxs⟩ := hv2.lst_get
          cases hxs with
          | @cons x0 _ _ _ hx0 hx1 =>
          cases hx1
          refine ⟨.int d, rfl, d, 1, rfl, rfl, .inr ⟨decide (1 < d), rfl, ?_⟩⟩
          by_cases hd : 1 < d
          · rw [decide_eq_true hd]
            simp only [if_pos hd] at k
            refine ⟨l2, 1, [x0], rfl, rfl, hl2, by decide, by decide, sz_of (Nat.le_of_ble_eq_true rfl), fun p hp => k _ _ (e2.trans (Ex.new hp)) (.lst upd_same (.cons (hx0.up (Ex.new hp)) .nil))⟩
          · rw [decide_eq_false hd]
            simp only [if_neg hd] at k
            exact ⟨l2, 0, [x0], rfl, rfl, hl2, by decide, by decide, Nat.zero_le _, fun p hp => k _ _ (e2.trans (Ex.new hp)) (.lst upd_same .nil)⟩
        · rw [List.length_map, List.length_map]
          split <;> exact Nat.le_of_ble_eq_true rfl
      refine q_asgD hD3 fun w4 H3 e3 hw4 => ?_
      have g3 := e.trans e3
      have l2n : L2.length ≤ 4 := by
        rw [hL2, List.length_append]
        split <;> exact Nat.le_of_ble_eq_true rfl
      have hN : EvN (tLc (iList K (tVar 4)) (gName 3) (tTest (tOp rNe (tCall (sp__law_asked z) [] E0 (tCons (tC (V.int 0)) (tCons (tVar 0) (tCons (tVar 3) tNil)))) (tC (V.str (Str.ofString ""))))) (tVar 3) [3]) [some v, some (.int n), some (.int d), y3, some w4] H3 (((L2.map fun f => PyData.tuple [.int f.1, .int f.2]).filter fun _ => false).map fun x => x) := by
        refine en_lcD _ _ (ed_var rfl hw4) (by rw [List.length_map]; omega) (fun _ => rfl) (fun H1 x dd e1 hm hx => ?_) (fun H1 x dd e1 hm hx h => nomatch h) (fun dd hm h => nomatch h)
        obtain ⟨f, hf, rfl⟩ := List.mem_map.mp hm
        obtain ⟨f1, f2, f3, f4, f5⟩ := hF2 f hf
        intro H2 e2 Q k
        refine go_tst (go_op ?_)
        refine ask_fewT rfl rfl (((hv.up g3).up e1).up e2) hR (hx.up e2) f1 f2 f3 f4 (((hT.up g3).up e1).up e2) fun H4 e4 => ?_
        rw [if_pos f5]
        exact ⟨rfl, _, rfl, k H4 e4⟩
      have hem : ((L2.map fun f => PyData.tuple [.int f.1, .int f.2]).filter fun _ => false).map (fun x => x) = [] := by
        rw [List.filter_eq_nil_iff.mpr fun _ _ h => Bool.false_ne_true h]
        rfl
      rw [hem] at hN
      exact go_ret (ev_eqNil (K := K) hN rfl H3 (Ex.refl _) _ fun H4 e4 => q _ (g3.trans e4))
def sp_law (K : PySem.W.Frag) (z : Ad) : Sp := fun vs H Q _ => ∃ (a : Addr) (ns : List Int), vs = [.ref a] ∧ SqL K H a (ns.map V.int) ∧ Tabs z H ∧ ∀ H', Ex H H' → Q (.bl true) H'
theorem law_start {H : Hp} {a : Addr} {ns : List Int} (hl : ns.length ≤ 63) (hT : Tabs z H) (hS : SqL K H a (ns.map V.int)) : sp_law K z [.ref a] H (fun v H' => v = .bl true ∧ Ex H H') fun _ _ _ => False := ⟨a, ns, rfl, hS, hT, fun _ e => ⟨rfl, e⟩⟩
theorem lc_in {K : PySem.W.Frag} {tl : TE} {g : TG} {tt : TT} {te : TE} {vs : List Nat} {σ : L2.St} {H : Hp} {Q : VK} (h : tl σ H fun x H1 => tLc (iList K (tC x)) g tt te vs σ H1 Q) : tLc (iList K tl) g tt te vs σ H Q := h
/-- asked of no readings -/
theorem ask_bad {z : Ad} {v w : V} {dv dw : PyData} {H : Hp} {way : Int} {Q : VK} {E : XK} (hv : Dt H v dv) (hb : BadR dv) (hw : Dt H w dw) (hs : ShB 5 49000 dw) (hway : way = 0 ∨ way = 1) (hT : Tabs z H) (q : ∀ H', Ex H H' → Q (.str (wordK 0)) H') : sp__law_asked z [.int way, v, w] H Q E :=
  ⟨way, v, w, dv, dw, rfl, hv, hw, shows2D hb.2 hs, hway, hT, fun _ => q, fun hr => absurd (hb.1.symm.trans hr) Bool.false_ne_true, fun hr => absurd (hb.1.symm.trans hr) Bool.false_ne_true, fun hr => absurd (hb.1.symm.trans hr) Bool.false_ne_true⟩
/-- asked of no bounds -/
theorem ask_nob {z : Ad} {v w : V} {l : List (Int × Option Int)} {dw : PyData} {H : Hp} {way : Int} {Q : VK} {E : XK} (hv : Dt H v (.list (rdN l))) (hR : RdN l) (hw : Dt H w dw) (hb : way = 0 ∧ dBounds dw = false ∨ way = 1 ∧ dBoundsTo 60 dw = false) (hs : ShB 5 49000 dw) (hT : Tabs z H) (q : ∀ H', Ex H H' → Q (.str (wordK 1)) H') : sp__law_asked z [.int way, v, w] H Q E :=
  ⟨way, v, w, _, dw, rfl, hv, hw, shows2D (shb_rd hR) hs, by omega, hT, fun hr => absurd (hr.symm.trans hR.isR) Bool.false_ne_true, fun _ _ => q, (fun _ h0 h1 => by
    rcases hb with ⟨_, hb⟩ | ⟨hb, _⟩
    · rw [hb] at h1
      cases h1
    · omega), (fun _ h0 h1 => by
    rcases hb with ⟨hb, _⟩ | ⟨_, hb⟩
    · omega
    · rw [hb] at h1
      cases h1)⟩
/-- asked in all, within bounds -/
theorem ask_all {z : Ad} {v w : V} {l : List (Int × Option Int)} {n d : Int} {H : Hp} {Q : VK} {E : XK} (hv : Dt H v (.list (rdN l))) (hR : RdN l) (hw : Dt H w (.tuple [.int n, .int d])) (n0 : 0 ≤ n) (d0 : 1 ≤ d) (n1 : n ≤ 60) (d1 : d ≤ 60) (hT : Tabs z H) (q : ∀ H', Ex H H' → Q (.str (Str.ofString "")) H') : sp__law_asked z [.int 1, v, w] H Q E := by
  have hb : dBoundsTo 60 (.tuple [.int n, .int d]) = true := by
    show (decide (0 ≤ n) && decide (1 ≤ d) && decide (n ≤ 60) && decide (d ≤ 60)) = true
    rw [decide_eq_true n0, decide_eq_true d0, decide_eq_true n1, decide_eq_true d1]
    rfl
  have bz : (100 : Nat) < 2 ^ 200 := by decide
  exact ⟨1, v, w, _, _, rfl, hv, hw, shows2D (shb_rd hR) (shb_bd (by omega) (by omega)), .inr rfl, hT, fun hr => absurd (hr.symm.trans hR.isR) Bool.false_ne_true, (fun _ h => by
    rcases h with ⟨h, _⟩ | ⟨_, h⟩
    · cases h
    · rw [hb] at h
      cases h), (fun _ h => by cases h), fun _ _ _ => q⟩
theorem rdN_nil : RdN [] := ⟨Nat.zero_le _, (fun _ h => nomatch h), List.nodup_nil⟩
theorem ok_law (T : Txt K mg base z) : FnG P w K mg base CX0 18 z.a_law z.d_law ["script"] (sp_law K z) := by
  refine okG T.F_law sc_law (fun vs H Q E h => ?_) (fun cdv A outer s H vs Q E hG hr h => ?_)
  · obtain ⟨a, ns, rfl, _⟩ := h
    rfl
  · obtain ⟨a, ns, rfl, hS, hT, q⟩ := h
    refine ⟨_, (PSs.nox (pss_cons (ps_for PassesOwn.never rfl (pi_range1 (by rfl) T.m_range (pa_cons (pe_callB (call_max2 rfl) (by rfl) T.m_max (by decide +kernel) (pa_cons pe_int (pa_cons (pe_callB (call_min2 rfl) (by rfl) T.m_min (by decide +kernel) (pa_cons (pe_callB (r := rLenS K) call_len_seq (by rfl) T.m_len (by decide +kernel) (pa_cons (pv 0) pa_nil)) (pa_cons pe_int pa_nil))) pa_nil))) pa_nil)) (pg_name (i := 1) sc_law.nd rfl (.inl rfl)) (pss_cons (ps_set (i := 2) sc_law.nd rfl (.inr rfl) (pe_call (ok__law_deck T) (hr.mono (by decide)) (by rfl) T.g__law_deck T.F__law_deck.kp T.b__law_deck .nil pass0 (pa_cons (pe_call (ok__law_cell_at T) (hr.mono (by decide)) (by rfl) T.g__law_cell_at T.F__law_cell_at.kp T.b__law_cell_at .nil pass0 (pa_cons (pv 0) (pa_cons (pv 1) pa_nil))) (pa_cons pe_int pa_nil))))
      (pss_cons (ps_setLc (i := 3) (own := [("p", 10)]) (by rfl) sc_law.nd rfl rfl (sw_true rfl rfl rfl (by decide +kernel)) (pi_listK K (pe_call (ok__law_primes T) (hr.mono (by decide)) (by rfl) T.g__law_primes T.F__law_primes.kp T.b__law_primes .nil pass0 (pa_cons (pv 2) (pa_cons (pe_op op_mod (pe_call (ok__law_next T) (hr.mono (by decide)) (by rfl) T.g__law_next T.F__law_next.kp T.b__law_next .nil pass0 (pa_cons (pv 2) pa_nil)) pe_int) (pa_cons pe_int pa_nil))))) (blkOk_by (own := [("p", 10)]) (N := N_law) (sc := (defScope s_law)) (by decide +kernel)) (fun _ _ _ _ _ => (pg_name (i := 10) sc_law.nd rfl (.inl rfl))) (fun _ _ _ _ _ => (pts_one (pt_cmpR op_ne (pv 10) pe_int (nomark _)))) (fun _ _ _ _ _ => (pv 10)))
      (pss_cons (ps_set (i := 4) sc_law.nd rfl (.inr rfl) (pe_lc (own := [("p", 10)]) (by rfl) sc_law.nd (pi_listK K (pe_op op_cat (pe_lst (pa_cons pe_int pa_nil)) (pv 3))) (blkOk_by (own := [("p", 10)]) (N := N_law) (sc := (defScope s_law)) (by decide +kernel)) (fun _ _ _ _ _ => (pg_name (i := 10) sc_law.nd rfl (.inl rfl))) (fun _ _ _ _ _ => pts_nil) (fun _ _ _ _ _ => (pe_tup (pa_cons (pv 10) (pa_cons (pe_ix (r := rIxL K) ix_list (pe_lst (pa_cons pe_non (pa_cons pe_int (pa_cons pe_int pa_nil)))) (pe_op op_mod (pe_call (ok__law_next T) (hr.mono (by decide)) (by rfl) T.g__law_next T.F__law_next.kp T.b__law_next .nil pass0 (pa_cons (pv 2) pa_nil)) pe_int) (fun _ _ => rfl)) pa_nil))))))
      (pss_cons (ps_asg (pe_call (ok__law_split T) (hr.mono (by decide)) (by rfl) T.g__law_split T.F__law_split.kp T.b__law_split .nil pass0 (pa_cons (pv 2) (pa_cons (pv 3) pa_nil))) (pg_tup (by rfl) (pgs_cons (pg_name (i := 5) sc_law.nd rfl (.inl rfl)) (pgs_cons (pg_name (i := 6) sc_law.nd rfl (.inl rfl)) pgs_nil))))
      (pss_cons (ps_if (PW.pt (pw_or (pt_not (pt_val (pe_callG (ok__law_enough_right T) hG hr (by rfl) T.g__law_enough_right T.F__law_enough_right.kp T.b__law_enough_right .nil pass0 (pa_cons (pv 4) (pa_cons (pv 5) (pa_cons (pv 6) pa_nil)))))) (pw_or1 (pt_cmpR op_ne (pe_callG (ok__law_asked T) hG (hr.mono (by decide)) (by rfl) T.g__law_asked T.F__law_asked.kp T.b__law_asked .nil pass0 (pa_cons pe_int (pa_cons (pe_lst pa_nil) (pa_cons (pe_tup (pa_cons pe_int (pa_cons pe_int pa_nil))) pa_nil)))) pe_str (nomark _))))) (pss_one (ps_ret pe_bl)) pss_nil)
      (pss_cons (ps_for PassesOwn.never rfl (pi_listK K (pe_call (ok__law_no_readings T) (hr.mono (by decide)) (by rfl) T.g__law_no_readings T.F__law_no_readings.kp T.b__law_no_readings .nil pass0 (pa_cons (pv 2) (pa_cons (pv 4) pa_nil)))) (pg_name (i := 7) sc_law.nd rfl (.inr rfl)) (pss_one (ps_for PassesOwn.never rfl (pi_listK K (pe_op op_cat (pe_lst (pa_cons (pe_tup (pa_cons pe_int (pa_cons pe_int pa_nil))) (pa_cons (pe_tup (pa_cons pe_int (pa_cons pe_int pa_nil))) (pa_cons (pe_tup (pa_cons pe_int (pa_cons pe_int pa_nil))) pa_nil)))) (pe_call (ok__law_no_bounds T) (hr.mono (by decide)) (by rfl) T.g__law_no_bounds T.F__law_no_bounds.kp T.b__law_no_bounds .nil pass0 (pa_cons (pv 2) pa_nil)))) (pg_name (i := 8) sc_law.nd rfl (.inr rfl)) (pss_one (ps_if (pt_cmpR (r := rNeD K) (op_neD hr.units) (pe_lc (own := [("way", 11)]) (by rfl) sc_law.nd (pi_tupK K (pe_tup (pa_cons pe_int (pa_cons pe_int pa_nil)))) (blkOk_by (own := [("way", 11)]) (N := N_law) (sc := (defScope s_law)) (by decide +kernel)) (fun _ _ _ _ _ => (pg_name (i := 11) sc_law.nd rfl (.inl rfl))) (fun _ _ _ _ _ => (pts_one (pt_cmpR op_ne (pe_callG (ok__law_asked T) hG (hr.mono (by decide)) (by rfl) T.g__law_asked T.F__law_asked.kp T.b__law_asked .nil pass0 (pa_cons (pv 11) (pa_cons (pv 7) (pa_cons (pv 8) pa_nil)))) pe_str (nomark _)))) (fun _ _ _ _ _ => (pv 11))) (pe_lst pa_nil) (nomark _)) (pss_one (ps_ret pe_bl)) pss_nil)))))
      (pss_cons (ps_for PassesOwn.never rfl (pi_listK K (pe_call (ok__law_no_bounds T) (hr.mono (by decide)) (by rfl) T.g__law_no_bounds T.F__law_no_bounds.kp T.b__law_no_bounds .nil pass0 (pa_cons (pv 2) pa_nil))) (pg_name (i := 7) sc_law.nd rfl (.inr rfl)) (pss_one (ps_if (pt_cmpR (r := rNeD K) (op_neD hr.units) (pe_lc (own := [("way", 11)]) (by rfl) sc_law.nd (pi_tupK K (pe_tup (pa_cons pe_int (pa_cons pe_int pa_nil)))) (blkOk_by (own := [("way", 11)]) (N := N_law) (sc := (defScope s_law)) (by decide +kernel)) (fun _ _ _ _ _ => (pg_name (i := 11) sc_law.nd rfl (.inl rfl))) (fun _ _ _ _ _ => (pts_one (pt_cmpR op_ne (pe_callG (ok__law_asked T) hG (hr.mono (by decide)) (by rfl) T.g__law_asked T.F__law_asked.kp T.b__law_asked .nil pass0 (pa_cons (pv 11) (pa_cons (pv 4) (pa_cons (pv 7) pa_nil)))) pe_str (nomark _)))) (fun _ _ _ _ _ => (pv 11))) (pe_lst pa_nil) (nomark _)) (pss_one (ps_ret pe_bl)) pss_nil)))
      (pss_cons (ps_set (i := 9) sc_law.nd rfl (.inl rfl) (pe_op op_add pe_int (pe_op op_mod (pe_call (ok__law_next T) (hr.mono (by decide)) (by rfl) T.g__law_next T.F__law_next.kp T.b__law_next .nil pass0 (pa_cons (pv 2) pa_nil)) pe_int)))
      (pss_cons (ps_for PassesOwn.never rfl (pi_listK K (pe_lst (pa_cons (pe_tup (pa_cons (pv 9) (pa_cons pe_int pa_nil))) (pa_cons (pe_tup (pa_cons pe_int (pa_cons (pv 9) pa_nil))) (pa_cons (pe_tup (pa_cons pe_int (pa_cons pe_int pa_nil))) (pa_cons (pe_tup (pa_cons pe_int (pa_cons (pe_op op_pow pe_int pe_int) pa_nil))) pa_nil)))))) (pg_name (i := 8) sc_law.nd rfl (.inr rfl)) (pss_one (ps_if (pt_cmpR op_ne (pe_callG (ok__law_asked T) hG (hr.mono (by decide)) (by rfl) T.g__law_asked T.F__law_asked.kp T.b__law_asked .nil pass0 (pa_cons pe_int (pa_cons (pv 4) (pa_cons (pv 8) pa_nil)))) pe_str (nomark _)) (pss_one (ps_ret pe_bl)) pss_nil)))
      (pss_one (ps_if (PW.pt (pw_or (pt_cmpR op_ne (pe_callG (ok__law_asked T) hG (hr.mono (by decide)) (by rfl) T.g__law_asked T.F__law_asked.kp T.b__law_asked .nil pass0 (pa_cons pe_int (pa_cons (pv 4) (pa_cons (pe_tup (pa_cons (pe_op op_mod (pv 5) pe_int) (pa_cons (pe_op op_add pe_int (pe_op op_mod (pv 6) pe_int)) pa_nil))) pa_nil)))) pe_str (nomark _)) (pw_or1 (pt_cmpR op_ne (pe_callG (ok__law_asked T) hG (hr.mono (by decide)) (by rfl) T.g__law_asked T.F__law_asked.kp T.b__law_asked .nil pass0 (pa_cons pe_int (pa_cons (pe_lst pa_nil) (pa_cons (pe_tup (pa_cons pe_int (pa_cons (pe_op op_add pe_int (pv 6)) pa_nil))) pa_nil)))) pe_str (nomark _))))) (pss_one (ps_ret pe_bl)) pss_nil))))))))))))
      (pss_one (ps_ret pe_bl)))), ?_⟩
    have hL0 : (0 : Int) ≤ ((ns.map V.int).length : Int) := Int.natCast_nonneg _
    refine ⟨.ref a, rfl, a, _, rfl, .inl hS, _, 5, rfl, 1, _, rfl, _, rfl, ?_, ?_, ?_⟩
    · show -(2 ^ 62) ≤ (if (if 5 < ((ns.map V.int).length : Int) then 5 else ((ns.map V.int).length : Int)) > 1 then (if 5 < ((ns.map V.int).length : Int) then 5 else ((ns.map V.int).length : Int)) else 1)
      omega
    · show (if (if 5 < ((ns.map V.int).length : Int) then 5 else ((ns.map V.int).length : Int)) > 1 then (if 5 < ((ns.map V.int).length : Int) then 5 else ((ns.map V.int).length : Int)) else 1) < 2 ^ 62
      omega
    have t2 : (if (if 5 < ((ns.map V.int).length : Int) then 5 else ((ns.map V.int).length : Int)) > 1 then (if 5 < ((ns.map V.int).length : Int) then 5 else ((ns.map V.int).length : Int)) else 1) ≤ 5 := by omega
    generalize (if (if 5 < ((ns.map V.int).length : Int) then 5 else ((ns.map V.int).length : Int)) > 1 then (if 5 < ((ns.map V.int).length : Int) then 5 else ((ns.map V.int).length : Int)) else 1) = J at t2
    refine for_range (lo := 0) (n := J.toNat) (fun i σ H' => (∃ y1 y2 y3 y4 y5 y6 y7 y8 y9 y10 y11, σ = [some (.ref a), y1, y2, y3, y4, y5, y6, y7, y8, y9, y10, y11]) ∧ Ex H H') ⟨⟨none, none, none, none, none, none, none, none, none, none, none, rfl⟩, Ex.refl H⟩ (fun i σ H1 hi hP => ?_) (fun σ H1 hP => ?_)
    · obtain ⟨⟨y1, y2, y3, y4, y5, y6, y7, y8, y9, y10, y11, rfl⟩, e1⟩ := hP
      have hk : (0 : Int) ≤ 0 + (i : Int) := by omega
      generalize (0 : Int) + (i : Int) = k at hk ⊢
      refine ⟨.ref a, rfl, .int k, rfl, a, ns, k, rfl, ex_l e1 hS, hk, fun c => ⟨c, 60, rfl, by decide, by decide, fun da H2 hda e2 hD2 => ?_⟩⟩
      have hda0 : H da = none := fresh_back e1 hda
      have g2 := e1.trans e2
      -- odd
      dsimp only [gName_app]
      refine go_asg (lc_in ?_)
      refine ⟨.ref da, rfl, .ref da, rfl, da, rfl, hD2, fun x3 H3 _ _ hD3 e3 => ⟨_, _, rfl, rfl, (show (0 : Int) < 5 by decide), ?_⟩⟩
      have u0 := Int.emod_nonneg x3 (show (5 : Int) ≠ 0 by decide)
      have u1 := Int.emod_lt_of_pos x3 (show (0 : Int) < 5 by decide)
      refine ⟨da, x3 % 5, 100, rfl, u0, by omega, .inr (.inl rfl), hD3, fun pl ps H4 hnd hpr hpn hpl hplf hD4 e4 => ?_⟩
      have z4 : ExB da H2 H4 := e3.trans e4
      have plne : pl ≠ da := hD3.ne hplf
      have hps : ∀ x ∈ ps, primeB x = true := fun x hx => primesL_prime x (hpr x hx)
      obtain ⟨od, hod⟩ : ∃ od, od = ps.filter fun p => !decide (p = 2) := ⟨_, rfl⟩
      have hodl : od.length ≤ 4 := by
        rw [hod]
        exact Nat.le_trans (List.length_filter_le _ _) (by omega)
      have hodn : od.Nodup := by
        rw [hod]
        exact hnd.sublist List.filter_sublist
      have hodp : ∀ x ∈ od, primeB x = true := fun x hx => by
        rw [hod] at hx
        exact hps x (List.mem_filter.mp hx).1
      have hod2 : (2 : Int) ∉ od := fun hx => by
        rw [hod] at hx
        have := (List.mem_filter.mp hx).2
        cases this
      have hN : ∀ {σ : L2.St}, σ.length = 12 → EvN (tLc (iList K (tC (.ref pl))) (gName 10) (tTest (tOp rNe (tVar 10) (tC (V.int 2)))) (tVar 10) [10]) σ H4 (od.map PyData.int) := @fun σ hσ => by
        rw [hod, ← flt_ints (fun p => !decide (p = 2)) (fun d => !decide (dI0 d = 2)) (fun _ => rfl) (fun d => d) (fun _ => rfl)]
        match σ, hσ with
        | [s0, s1, s2, s3, s4, s5, s6, s7, s8, s9, s10, s11], _ =>
        refine en_lcD _ _ (ed_of ev_c (.lst hpl (DtAll.ints ps))) (by rw [List.length_map]; omega) (fun _ => rfl) (fun H7 w d e7 hm hv => ?_) (fun H7 w d e7 hm hv _ => ed_var rfl hv) (fun d hm _ => ?_)
        · obtain ⟨x, hx, rfl⟩ := List.mem_map.mp hm
          cases hv
          have h := rv_ne (H := H7) (x := .int x) (y := .int 2) rfl
          rw [dI] at h
          exact et_test (ev_op (ev_var rfl) ev_c h)
        · obtain ⟨x, hx, rfl⟩ := List.mem_map.mp hm
          rfl
      refine hN rfl H4 (Ex.refl _) _ fun ol H5 hol e5 aO => ?_
      obtain ⟨oacc, o1, o2, o3⟩ := aO
      have eo := DtAll.ints_eq _ o2
      subst eo
      have z5 := z4.trans (ExB.of e5)
      have hD5 := hD4.up e5
      have olne : ol ≠ da := hD4.ne hol
      -- readings
      refine go_asg (lc_in ?_)
      refine ⟨sz_of (Nat.le_of_ble_eq_true rfl), fun l1 hl1 => ⟨.ref ol, rfl, l1, ol, [.int 2], od.map V.int, rfl, rfl, upd_same, (Ex.new hl1) _ _ o1, sz_of (by rw [List.length_map]; show 1 + od.length ≤ 100000; omega), fun cl hcl => ?_⟩⟩
      have x6 := (Ex.new (o := .lst [.int 2]) hl1).trans (Ex.new (o := .lst ([.int 2] ++ od.map V.int)) hcl)
      have hcl6 : (upd (upd H5 l1 (.lst [.int 2])) cl (.lst ([.int 2] ++ od.map V.int))) cl = some (.lst ((2 :: od).map V.int)) := upd_same
      have clne : cl ≠ da := (hD5.up (Ex.new hl1)).ne hcl
      revert x6 hcl6
      generalize upd (upd H5 l1 (.lst [.int 2])) cl (.lst ([.int 2] ++ od.map V.int)) = H6
      intro x6 hcl6
      have hD6 := hD5.up x6
      have z6 := z5.trans (ExB.of x6)
      have hol6 := x6 _ _ o1
      have hcn : ((2 : Int) :: od).Nodup := List.nodup_cons.mpr ⟨hod2, hodn⟩
      have hcp : ∀ x ∈ (2 : Int) :: od, primeB x = true := fun x hx => by
        rcases List.mem_cons.mp hx with rfl | hx
        · decide +kernel
        · exact hodp x hx
      have hclen : ((2 : Int) :: od).length ≤ 5 := by rw [List.length_cons]; omega
      generalize hcs : (2 : Int) :: od = cs at hcl6 hcn hcp hclen
      refine ⟨cl, rfl, ⟨_, sq_of hcl6⟩, fun D hDn => lc_list (xs := cs.map V.int) (fun i H' => ∃ l : List (Int × Option Int), RdN l ∧ l.map (·.1) = cs.take i ∧ AccL H' D (rdN l) ∧ DeckB H' da ∧ ExB da H6 H') ?_ (fun i H' _ hP => ?_) (fun i x H' hi hP => ?_) (fun H' hP => ?_)⟩
      · exact ⟨[], rdN_nil, rfl, AccL.new, hD6.up (Ex.new hDn), ExB.of (Ex.new hDn)⟩
      · obtain ⟨l, _, _, _, _, e⟩ := hP
        exact sq_of (e _ _ clne hcl6)
      · obtain ⟨l, hR, hlc, aL, hD', e⟩ := hP
        have Dne : D ≠ da := hD6.ne hDn
        obtain ⟨p, hpi, rfl⟩ := int_get hi
        have hlen : l.length = (cs.take i).length := by rw [← hlc, List.length_map]
        have hil : i < cs.length := (List.getElem?_eq_some_iff.mp hpi).1
        rw [List.length_take] at hlen
        have hpp := hcp p (List.mem_of_getElem? hpi)
        have lo := primeB_lo hpp
        refine ⟨rfl, .int p, rfl, sz_of (Nat.le_of_ble_eq_true rfl), fun l2 hl2 => ⟨.ref da, rfl, da, rfl, hD'.up (Ex.new hl2), fun x H8 x0 x1 hD8 e8 => ?_⟩⟩
        obtain ⟨o, hat, ho⟩ : ∃ o : Option Int, atI [V.non, V.int 0, V.int 1] (x % 3) = some (oV o) ∧ ∀ r, o = some r → 0 ≤ r ∧ r < 2 := by
          have u0 := Int.emod_nonneg x (show (3 : Int) ≠ 0 by decide)
          have u1 := Int.emod_lt_of_pos x (show (0 : Int) < 3 by decide)
          generalize x % 3 = y at u0 u1
          rcases (show y = 0 ∨ y = 1 ∨ y = 2 by omega) with rfl | rfl | rfl
          · exact ⟨none, rfl, fun r h => nomatch h⟩
          · exact ⟨some 0, rfl, fun r h => by cases h; decide⟩
          · exact ⟨some 1, rfl, fun r h => by cases h; decide⟩
        refine ⟨_, _, rfl, rfl, (show (0 : Int) < 3 by decide), l2, _, x % 3, oV o, rfl, rfl, sq_of (e8 _ _ (hD'.ne hl2) upd_same), hat, sz_of (Nat.le_of_ble_eq_true rfl), fun tp htp => ?_⟩
        have aL8 := (aL.up (Ex.new hl2)).dr (hD'.up (Ex.new hl2)).isL Dne e8
        obtain ⟨acc, h1, h2, h3⟩ := aL8.app (v := .ref tp) (d := .tuple [.int p, oD o]) (Ex.new (o := .tup [.int p, oV o]) htp) (.tup upd_same (.cons (.int _) (.cons (.o o) .nil))) (by cases o <;> rfl)
        have hacc : acc.length = l.length := by
          rw [h2]
          exact List.length_map ..
        refine ⟨acc, h1, sz_lt (by omega), l ++ [(p, o)], hR.snoc (by omega) hpp (fun r hr => ?_) (fun hm => ?_), ?_, ?_, ?_, ?_⟩
        · have := ho r hr
          omega
        · rw [hlc] at hm
          obtain ⟨j, hj, hjp⟩ := List.getElem_of_mem hm
          rw [List.length_take] at hj
          rw [List.getElem_take] at hjp
          have := List.pairwise_iff_getElem.mp hcn j i (by omega) hil (by omega)
          rw [hjp, (List.getElem?_eq_some_iff.mp hpi).2] at this
          exact this rfl
        · rw [List.map_append, hlc, take_snoc hpi]
          rfl
        · rw [rdN_snoc]
          exact h3
        · exact (hD8.up (Ex.new htp)).mut Dne
        · exact exB_mutN ((e.trans (ExB.of (Ex.new hl2))).trans (e8.trans (ExB.of (Ex.new htp)))) hDn
      obtain ⟨l, hR, hlc, aL, hD7, e7⟩ := hP
      rw [List.length_map, List.take_length] at hlc
      have Dne : D ≠ da := hD6.ne hDn
      have hol7 := e7 _ _ olne hol6
      have z7 := z6.trans e7
      -- n, d
      refine go_asg2 ⟨.ref da, rfl, .ref ol, rfl, da, ol, od, rfl, hD7, hol7, olne, hodp, by omega, fun n d tt H8 n1 d1 hnd nz dz ht0 ht hD8 e8 => ⟨tt, _, rfl, st_of ht, rfl, _, _, rfl, _, _, rfl, rfl, ?_⟩⟩
      have z8 := z7.trans e8
      have g8 : Ex H H8 := g2.keepB hda0 z8
      have hT8 := hT.up g8
      have aL8 := aL.dr hD7.isL Dne e8
      have hpd : prodI (l.map (·.1)) = 2 * n * d := by rw [hlc, ← hcs, prodI_cons, ← hnd, ← Int.mul_assoc]
      have hpo : n * d ≤ 1000000000000 := by
        rw [hnd]
        refine Int.le_trans (prodI_facts hodp).2.1 ?_
        match od.length, hodl with
        | 0, _ => decide
        | 1, _ => decide
        | 2, _ => decide
        | 3, _ => decide
        | 4, _ => decide
      have hn9 : n ≤ n * d := by
        have := Int.mul_le_mul_of_nonneg_left d1 (show 0 ≤ n by omega)
        omega
      have hd9 : d ≤ n * d := by
        have := Int.mul_le_mul_of_nonneg_right n1 (show 0 ≤ d by omega)
        omega
      refine ⟨.ref D, rfl, .int n, rfl, .int d, rfl, .ref D, n, d, l, rfl, aL8.dt, hR, n1, by omega, d1, by omega, hpd, hT8, fun H9 e9 => ⟨true, rfl, itF rfl ?_⟩⟩
      refine ⟨sz_of (Nat.le_of_ble_eq_true rfl), fun l9 hl9 => ⟨sz_of (Nat.le_of_ble_eq_true rfl), fun t9 ht9 => ?_⟩⟩
      have x9 := e9.trans ((Ex.new (o := .lst []) hl9).trans (Ex.new (o := .tup [.int 1, .int 1]) ht9))
      refine go_nil ?_
      dsimp only
      refine ask_few (l := []) (n := 1) (d := 1) (.lst ((Ex.new ht9) _ _ upd_same) .nil) rdN_nil (.tup upd_same (.cons (.int _) (.cons (.int _) .nil))) (by decide) (by decide) (by decide) (by decide) (hT8.up x9) fun H10 e10 => ?_
      refine ⟨rfl, _, rfl, itF (congrArg Bool.not (decide_eq_true rfl)) ?_⟩
      have x10 := x9.trans e10
      have hD10 := hD8.up x10
      have aL10 := aL8.up x10
      have hT10 := hT8.up x10
      have g10 := g8.trans x10
      have shr := shb_rd hR
      -- no readings
      refine go_next ?_
      dsimp only
      refine go_forI ?_
      refine ⟨.ref da, rfl, .ref D, rfl, da, .ref D, hid [da] H10, l, rfl, hD10, aL10.hidD ⟨rfl, hD10⟩ (fun w => Dne (List.mem_singleton.mp w)), hid_xD _ _, if_pos (List.mem_singleton.mpr rfl), hR, ?_, fun v11 ds11 W11 H11 hv11 w11 c11 n11 hl11 hb11 hD11 e11 => ?_⟩
      · rw [← List.length_map (f := (·.1)) (as := l), hlc]
        exact hclen
      obtain ⟨al, acc11, rfl, hal, hax⟩ := hv11.lst_get
      have hrW : Dt W11 (.ref D) (.list (rdN l)) := (aL10.hidD ⟨rfl, hD10⟩ (fun w => Dne (List.mem_singleton.mp w))).up w11
      refine ⟨al, rfl, ⟨_, sq_of (c11 _ _ hal)⟩, for_list (xs := acc11) (fun i σ H' => (∃ u7 u8 u9 u10 u11, σ = [some (.ref a), some (.int k), some (.ref da), some (.ref ol), some (.ref D), some (.int n), some (.int d), u7, u8, u9, u10, u11]) ∧ Ex W11 H' ∧ DeckB H' da ∧ Ex H H') ⟨⟨_, _, _, _, _, rfl⟩, c11, hD11, g10.keepB hda0 e11⟩ (fun i σ H' _ hP => sq_of (hP.2.1 _ _ hal)) (fun i x σ H' hi hP => ?_) (fun σ H' hP => ?_)⟩
      · obtain ⟨⟨u7, u8, u9, u10, u11, rfl⟩, cW, hD', g'⟩ := hP
        obtain ⟨bd, hbd, hxb⟩ := hax.get i hi
        have hB := hb11 bd (List.mem_of_getElem? hbd)
        have hT' := hT.up g'
        dsimp only [gName_app]
        refine go_forIS ?_
        refine evp_catn (da := da) (S := [da]) (G := fun d => ShB 5 49000 d) (a := 3) (b := 2) (W0 := W11) (evp_lstn (m := 3) (evpl_one (ef_tup (efa_cons ef_ci (efa_cons ef_ci efa_nil)) (Nat.le_of_ble_eq_true rfl)) (shb_bd (by decide) (by decide)) (evpl_one (ef_tup (efa_cons ef_ci (efa_cons ef_ci efa_nil)) (Nat.le_of_ble_eq_true rfl)) (shb_bd (by decide) (by decide)) (evpl_one (ef_tup (efa_cons ef_ci (efa_cons ef_ci efa_nil)) (Nat.le_of_ble_eq_true rfl)) (shb_bd (by decide) (by decide)) evpl_nil))) (Nat.le_of_ble_eq_true rfl)) (evp_call fun H1 x1 hD1 Q1 q1 => ⟨.ref da, rfl, da, rfl, hD1.2, fun v2 ds2 W2 H2 hv2 c2 n2 hl2 hb2 hD2 e2 => q1 v2 (.list ds2) W2 H2 hv2 c2 (fun s hs => by rw [List.mem_singleton.mp hs]; exact n2) ⟨ds2, rfl, hl2, fun d hd => (hb2 d hd).2⟩ ⟨rfl, hD2⟩ (exS_ofB e2)⟩) (Nat.le_of_ble_eq_true rfl) W11 H' (Ex.refl _) cW (fun s hs => by rw [List.mem_singleton.mp hs]; exact n11) ⟨rfl, hD'⟩ _ fun v12 d12 W12 H12 a12 c12 n12 hD12 e12 hv12 gd12 => ?_
        obtain ⟨ds12, rfl, _, gs12⟩ := gd12
        obtain ⟨bl, acc12, rfl, hbl, hbx⟩ := hv12.lst_get
        have y12 := exB_ofS e12
        have g12 : Ex H H12 := g'.keepB hda0 y12
        refine ⟨bl, rfl, ⟨_, sq_of (c12 _ _ hbl)⟩, for_list (xs := acc12) (fun i σ H2 => (∃ u8 u9 u10 u11, σ = [some (.ref a), some (.int k), some (.ref da), some (.ref ol), some (.ref D), some (.int n), some (.int d), some x, u8, u9, u10, u11]) ∧ Ex H12 H2) ⟨⟨_, _, _, _, rfl⟩, Ex.refl _⟩ (fun i σ H2 _ hP => sq_of (hP.2 _ _ (c12 _ _ hbl))) (fun i y σ H2 hi hP => ?_) (fun σ H2 hP => ?_)⟩
        · obtain ⟨⟨u8, u9, u10, u11, rfl⟩, e2⟩ := hP
          obtain ⟨bb, hbb, hyb⟩ := hbx.get i hi
          have hsb := gs12 bb (List.mem_of_getElem? hbb)
          dsimp only [gName_app]
          have hN := en_ways (K := K) (w := wordK 0) (te := tCall (sp__law_asked z) [] E0 (tCons (tVar 11) (tCons (tVar 7) (tCons (tVar 8) tNil)))) (σ := [some (.ref a), some (.int k), some (.ref da), some (.ref ol), some (.ref D), some (.int n), some (.int d), some x, some y, u9, u10, u11]) (H := H2) rfl fun way H3 hw e3 Q k => ⟨.int way, rfl, x, rfl, y, rfl, ask_bad (E := E0) (((hxb.up a12).up (c12.trans e2)).up e3) hB ((hyb.up (c12.trans e2)).up e3) hsb hw (((hT.up g12).up e2).up e3) k⟩
          exact go_iftA (ev_neNil (K := K) hN rfl H2 (Ex.refl _) _ fun H3 e3 => ⟨_, rfl, itF rfl (go_next ⟨⟨_, _, _, _, rfl⟩, e2.trans e3⟩)⟩)
        · obtain ⟨⟨u8, u9, u10, u11, rfl⟩, e2⟩ := hP
          exact ⟨⟨_, _, _, _, _, rfl⟩, (a12.trans c12).trans e2, hD12.2.up e2, g12.trans e2⟩
      obtain ⟨⟨u7, u8, u9, u10, u11, rfl⟩, cW, hD', g'⟩ := hP
      -- no bounds
      dsimp only
      refine go_forI ?_
      refine ⟨.ref da, rfl, da, rfl, hD', fun v13 ds13 W13 H13 hv13 c13 n13 hl13 hb13 hD13 e13 => ?_⟩
      obtain ⟨bl, acc13, rfl, hbl, hbx⟩ := hv13.lst_get
      have g13 : Ex H H13 := g'.keepB hda0 e13
      have cW13 : Ex W11 H13 := cW.keepB n11 e13
      refine ⟨bl, rfl, ⟨_, sq_of (c13 _ _ hbl)⟩, for_list (xs := acc13) (fun i σ H2 => (∃ u7 u8 u9 u10 u11, σ = [some (.ref a), some (.int k), some (.ref da), some (.ref ol), some (.ref D), some (.int n), some (.int d), u7, u8, u9, u10, u11]) ∧ Ex H13 H2) ⟨⟨_, _, _, _, _, rfl⟩, Ex.refl _⟩ (fun i σ H2 _ hP => sq_of (hP.2 _ _ (c13 _ _ hbl))) (fun i y σ H2 hi hP => ?_) (fun σ H14 hP => ?_)⟩
      · obtain ⟨⟨u7, u8, u9, u10, u11, rfl⟩, e2⟩ := hP
        obtain ⟨bb, hbb, hyb⟩ := hbx.get i hi
        obtain ⟨hsb1, hsb2⟩ := hb13 bb (List.mem_of_getElem? hbb)
        dsimp only [gName_app]
        have hN := en_ways (K := K) (w := wordK 1) (te := tCall (sp__law_asked z) [] E0 (tCons (tVar 11) (tCons (tVar 4) (tCons (tVar 7) tNil)))) (σ := [some (.ref a), some (.int k), some (.ref da), some (.ref ol), some (.ref D), some (.int n), some (.int d), some y, u8, u9, u10, u11]) (H := H2) rfl fun way H3 hw e3 Q k => ⟨.int way, rfl, .ref D, rfl, y, rfl, ask_nob (E := E0) (((hrW.up cW13).up e2).up e3) hR ((hyb.up (c13.trans e2)).up e3) (by
            rcases hw with h | h
            · exact .inl ⟨h, hsb1⟩
            · exact .inr ⟨h, dBoundsTo_no hsb1⟩) hsb2 (((hT.up g13).up e2).up e3) k⟩
        exact go_iftA (ev_neNil (K := K) hN rfl H2 (Ex.refl _) _ fun H3 e3 => ⟨_, rfl, itF rfl (go_next ⟨⟨_, _, _, _, _, rfl⟩, e2.trans e3⟩)⟩)
      obtain ⟨⟨u7, u8, u9, u10, u11, rfl⟩, e14⟩ := hP
      -- far
      dsimp only
      refine go_asg (go_op (go_c ?_))
      refine ⟨.ref da, rfl, da, rfl, hD13.up e14, fun x15 H15 _ _ hD15 e15 => ⟨_, _, rfl, rfl, (show (0 : Int) < 40 by decide), _, _, rfl, rfl, ?_⟩⟩
      have u0 := Int.emod_nonneg x15 (show (40 : Int) ≠ 0 by decide)
      have u1 := Int.emod_lt_of_pos x15 (show (0 : Int) < 40 by decide)
      obtain ⟨far, hfar⟩ : ∃ far, 61 + x15 % 40 = far := ⟨_, rfl⟩
      dsimp only
      rw [hfar]
      have hr15 : Dt H15 (.ref D) (.list (rdN l)) := hrW.up ((cW13.trans e14).keepB n11 e15)
      have g15 : Ex H H15 := (g13.trans e14).keepB hda0 e15
      have hT15 := hT.up g15
      have bp : (10 : Int) ^ (25 : Int).toNat = 10000000000000000000000000 := by decide
      have bz : (100000000000000000000000000 : Nat) < 2 ^ 200 := by decide
      obtain ⟨L1, hL1⟩ : ∃ L1 : List (Int × Int), L1 = [(far, 1), (0, far), (61, 61), (60, 10 ^ (25 : Int).toNat)] := ⟨_, rfl⟩
      have hF1 : ∀ f ∈ L1, dBoundsTo 60 (.tuple [.int f.1, .int f.2]) = false ∧ ShB 5 49000 (.tuple [.int f.1, .int f.2]) := fun f hf => by
        rw [hL1, bp] at hf
        have key : ∀ n d : Int, (60 < n ∨ 60 < d) → dBoundsTo 60 (.tuple [.int n, .int d]) = false := fun n d h => by
          show (decide (0 ≤ n) && decide (1 ≤ d) && decide (n ≤ 60) && decide (d ≤ 60)) = false
          rcases h with h | h
          · rw [decide_eq_false (show ¬ n ≤ 60 by omega), Bool.and_false, Bool.false_and]
          · rw [decide_eq_false (show ¬ d ≤ 60 by omega), Bool.and_false]
        simp only [List.mem_cons, List.not_mem_nil, or_false] at hf
        rcases hf with rfl | rfl | rfl | rfl <;> dsimp only
        · exact ⟨key _ _ (.inl (by omega)), shb_bd (by omega) (by omega)⟩
        · exact ⟨key _ _ (.inr (by omega)), shb_bd (by omega) (by omega)⟩
        · exact ⟨key _ _ (.inr (by omega)), shb_bd (by omega) (by omega)⟩
        · exact ⟨key _ _ (.inr (by omega)), shb_bd (by omega) (by omega)⟩
      have two : ∀ {σ : L2.St} {H : Hp} {ta tb : TE} {i j : Int}, Ev ta σ H (.int i) → Ev tb σ H (.int j) → EvD (tTup (tCons ta (tCons tb tNil))) σ H (.tuple [.int i, .int j]) := @fun σ H ta tb i j h1 h2 => ed_tup (eda_cons (ed_int h1) (eda_cons (ed_int h2) eda_nil)) (Nat.le_of_ble_eq_true rfl)
      have hD1 : ∀ {σ : L2.St}, σ[9]? = some (some (.int far)) → EvD (tLst (tCons (tTup (tCons (tVar 9) (tCons (tC (V.int 1)) tNil))) (tCons (tTup (tCons (tC (V.int 0)) (tCons (tVar 9) tNil))) (tCons (tTup (tCons (tC (V.int 61)) (tCons (tC (V.int 61)) tNil))) (tCons (tTup (tCons (tC (V.int 60)) (tCons (tOp (rI CPow fun i j => V.int (i ^ j.toNat)) (tC (V.int 10)) (tC (V.int 25))) tNil))) tNil))))) σ H15 (.list (L1.map fun f => .tuple [.int f.1, .int f.2])) := @fun σ h9 => by
        rw [hL1]
        exact ed_lst (eda_cons (two (ev_var h9) ev_c) (eda_cons (two ev_c (ev_var h9)) (eda_cons (two ev_c ev_c) (eda_cons (two ev_c (fun H1 e Q k => ⟨10, 25, rfl, rfl, ⟨by decide, by decide, by decide⟩, k H1 (Ex.refl _)⟩)) eda_nil)))) (Nat.le_of_ble_eq_true rfl)
      refine q_forE (hD1 rfl) (fun i σ H' => (∃ u8 u10 u11, σ = [some (.ref a), some (.int k), some (.ref da), some (.ref ol), some (.ref D), some (.int n), some (.int d), u7, u8, some (.int far), u10, u11]) ∧ Ex H15 H') (fun H1 e1 => ⟨⟨_, _, _, rfl⟩, e1⟩) (fun i x dd σ H' hi hx hP => ?_) (fun σ H16 hP => ?_)
      · obtain ⟨⟨u8, u10, u11, rfl⟩, e⟩ := hP
        rw [List.getElem?_map] at hi
        obtain ⟨f, hf, rfl⟩ := Option.map_eq_some_iff.mp hi
        obtain ⟨f1, f2⟩ := hF1 f (List.mem_of_getElem? hf)
        refine go_iftA (go_op (go_call1 (go_c ?_)))
        refine ⟨.ref D, rfl, x, rfl, ?_⟩
        refine go_nil ?_
        dsimp only
        refine ask_nob (hr15.up e) hR hx (.inr ⟨rfl, f1⟩) f2 (hT15.up e) fun H2 e2 => ?_
        exact ⟨rfl, _, rfl, itF (congrArg Bool.not (decide_eq_true rfl)) (go_next ⟨⟨⟨_, _, _, rfl⟩, e.trans e2⟩, e2⟩)⟩
      obtain ⟨⟨u8, u10, u11, rfl⟩, e16⟩ := hP
      have w0 := Int.emod_nonneg n (show (61 : Int) ≠ 0 by decide)
      have w1 := Int.emod_lt_of_pos n (show (0 : Int) < 61 by decide)
      have v0 := Int.emod_nonneg d (show (60 : Int) ≠ 0 by decide)
      have v1 := Int.emod_lt_of_pos d (show (0 : Int) < 60 by decide)
      have g16 := g15.trans e16
      refine go_iftO (go_op (go_call1 (go_c ?_)))
      refine ⟨.ref D, rfl, .int n, rfl, _, _, rfl, rfl, (show (0 : Int) < 61 by decide), .int d, rfl, _, _, rfl, rfl, (show (0 : Int) < 60 by decide), _, _, rfl, rfl, sz_of (Nat.le_of_ble_eq_true rfl), fun t9 ht9 => ?_⟩
      have x16 := Ex.new (o := .tup [.int (n % 61), .int (1 + d % 60)]) ht9
      refine go_nil ?_
      dsimp only
      refine ask_all ((hr15.up e16).up x16) hR (.tup upd_same (.cons (.int _) (.cons (.int _) .nil))) w0 (by omega) (by omega) (by omega) (hT.up (g16.trans x16)) fun H17 e17 => ⟨rfl, _, rfl, itF (congrArg Bool.not (decide_eq_true rfl)) ?_⟩
      have g17 := (g16.trans x16).trans e17
      refine go_tst (go_op (go_call1 (go_c ?_)))
      refine ⟨sz_of (Nat.le_of_ble_eq_true rfl), fun l18 hl18 => ⟨.int d, rfl, _, _, rfl, rfl, sz_of (Nat.le_of_ble_eq_true rfl), fun t18 ht18 => ?_⟩⟩
      have x18 := (Ex.new (o := .lst []) hl18).trans (Ex.new (o := .tup [.int 0, .int (1 + d)]) ht18)
      refine go_nil ?_
      dsimp only
      refine ask_few (l := []) (n := 0) (d := 1 + d) (.lst ((Ex.new ht18) _ _ upd_same) .nil) rdN_nil (.tup upd_same (.cons (.int _) (.cons (.int _) .nil))) (by decide) (by omega) (by decide) (by omega) (hT.up (g17.trans x18)) fun H19 e19 => ?_
      have hz : 2 * 0 * (1 + d) < prodI (([] : List (Int × Option Int)).map (·.1)) := by
        rw [Int.mul_zero, Int.zero_mul]
        decide
      rw [if_pos hz]
      refine ⟨rfl, _, rfl, itF (congrArg Bool.not (decide_eq_true rfl)) (go_next ?_)⟩
      exact ⟨⟨_, _, _, _, _, _, _, _, _, _, _, rfl⟩, (g17.trans x18).trans e19⟩
    · obtain ⟨⟨y1, y2, y3, y4, y5, y6, y7, y8, y9, y10, y11, rfl⟩, e1⟩ := hP
      exact q H1 e1
end
set_option maxHeartbeats 0
theorem facts {P : Program} {w : World} {K : PySem.W.Frag} {h : Heap} {mg : Str → Option Value} {f : Addr} (X : K.In h) (G : h.Ns mainGlobals mg) (hfa : mg ("law" : Str) = some (.ref f)) (ct : SaysT xfL faL fnL gnL K h) :
    ∃ (z : Ad) (fd : FuncData), (∀ (s : Shared) (v : Value), BindsTo s fd ⟨[v], []⟩ [("script", v)]) ∧ (z.p_is_readings = tabA K (("is_readings", none) : Str × Option Str) ∧ z.p_keeps_all = tabA K (("keeps_all", none) : Str × Option Str) ∧ z.p_put_together = tabA K (("put_together", none) : Str × Option Str)) ∧ ∀ base : Heap, K.In base → base.Ns mainGlobals mg → (∃ o, base.get? sysModules = some o) → FnG P w K mg base CX0 18 f fd ["script"] (sp_law K z) := by
  have c0 := ct.y.2
  have c : He.SaysD faL fnL K := c0.2
  obtain ⟨fd_is_whole, F_is_whole⟩ := c.def_ 0 (d := dd_is_whole) rfl
  obtain ⟨fd_is_whole_below, F_is_whole_below⟩ := c.def_ 1 (d := dd_is_whole_below) rfl
  obtain ⟨fd_common_divisor, F_common_divisor⟩ := c.def_ 2 (d := dd_common_divisor) rfl
  obtain ⟨fd_product_of, F_product_of⟩ := c.def_ 3 (d := dd_product_of) rfl
  obtain ⟨fd_short_row, F_short_row⟩ := c.def_ 4 (d := dd_short_row) rfl
  obtain ⟨fd_inverse, F_inverse⟩ := c.def_ 5 (d := dd_inverse) rfl
  obtain ⟨fd_is_pair, F_is_pair⟩ := c.def_ 6 (d := dd_is_pair) rfl
  obtain ⟨fd_is_fraction, F_is_fraction⟩ := c.def_ 7 (d := dd_is_fraction) rfl
  obtain ⟨fd_is_prime, F_is_prime⟩ := c.def_ 8 (d := dd_is_prime) rfl
  obtain ⟨fd_is_rest, F_is_rest⟩ := c.def_ 9 (d := dd_is_rest) rfl
  obtain ⟨fd_is_reading, F_is_reading⟩ := c.def_ 10 (d := dd_is_reading) rfl
  obtain ⟨fd_is_readings, F_is_readings⟩ := c.def_ 11 (d := dd_is_readings) rfl
  obtain ⟨fd_need_readings, F_need_readings⟩ := c.def_ 12 (d := dd_need_readings) rfl
  obtain ⟨fd_keeps, F_keeps⟩ := c.def_ 13 (d := dd_keeps) rfl
  obtain ⟨fd_keeps_all, F_keeps_all⟩ := c.def_ 14 (d := dd_keeps_all) rfl
  obtain ⟨fd_is_bounds, F_is_bounds⟩ := c.def_ 15 (d := dd_is_bounds) rfl
  obtain ⟨fd_is_bounds_up_to, F_is_bounds_up_to⟩ := c.def_ 16 (d := dd_is_bounds_up_to) rfl
  obtain ⟨fd_need_bounds, F_need_bounds⟩ := c.def_ 17 (d := dd_need_bounds) rfl
  obtain ⟨fd_need_bounds_up_to, F_need_bounds_up_to⟩ := c.def_ 18 (d := dd_need_bounds_up_to) rfl
  obtain ⟨fd_is_within, F_is_within⟩ := c.def_ 19 (d := dd_is_within) rfl
  obtain ⟨fd_all_within, F_all_within⟩ := c.def_ 20 (d := dd_all_within) rfl
  obtain ⟨fd_put_together, F_put_together⟩ := c.def_ 21 (d := dd_put_together) rfl
  obtain ⟨fd_only_candidate, F_only_candidate⟩ := c.def_ 22 (d := dd_only_candidate) rfl
  obtain ⟨fd_one_back, F_one_back⟩ := c.def_ 23 (d := dd_one_back) rfl
  obtain ⟨fd_all_back, F_all_back⟩ := c.def_ 24 (d := dd_all_back) rfl
  obtain ⟨fd__law_cell_at, F__law_cell_at⟩ := c.def_ 25 (d := dd__law_cell_at) rfl
  obtain ⟨fd__law_stir, F__law_stir⟩ := c.def_ 26 (d := dd__law_stir) rfl
  obtain ⟨fd__law_deck, F__law_deck⟩ := c.def_ 27 (d := dd__law_deck) rfl
  obtain ⟨fd__law_next, F__law_next⟩ := c.def_ 28 (d := dd__law_next) rfl
  obtain ⟨fd__law_primes, F__law_primes⟩ := c.def_ 29 (d := dd__law_primes) rfl
  obtain ⟨fd__law_no_readings, F__law_no_readings⟩ := c.def_ 30 (d := dd__law_no_readings) rfl
  obtain ⟨fd__law_no_bounds, F__law_no_bounds⟩ := c.def_ 31 (d := dd__law_no_bounds) rfl
  obtain ⟨fd__law_word, F__law_word⟩ := c.def_ 32 (d := dd__law_word) rfl
  obtain ⟨fd__law_asked, F__law_asked⟩ := c.def_ 33 (d := dd__law_asked) rfl
  obtain ⟨fd__law_split, F__law_split⟩ := c.def_ 34 (d := dd__law_split) rfl
  obtain ⟨fd__law_enough_right, F__law_enough_right⟩ := c.def_ 35 (d := dd__law_enough_right) rfl
  obtain ⟨fd_law, F_law⟩ := c.def_ 36 (d := dd_law) rfl
  obtain ⟨t_PRIME_LIMIT, c_PRIME_LIMIT⟩ := He.int_ok X G (c.fact 50 (f := .int "PRIME_LIMIT" 1000) rfl)
  obtain ⟨t_MOST_READINGS, c_MOST_READINGS⟩ := He.int_ok X G (c.fact 51 (f := .int "MOST_READINGS" 10) rfl)
  obtain ⟨t_SMALL_BOUND, c_SMALL_BOUND⟩ := He.int_ok X G (c.fact 52 (f := .int "SMALL_BOUND" 60) rfl)
  have e := hfa.symm.trans (He.glo_ok X G (c.fact 36 (f := .glo "law") rfl))
  cases e
  have b := FunD.bindsA (ps := ["script"]) F_law fun _ _ _ _ _ _ us hl => match us, hl with | [_], _ => rfl
  refine ⟨⟨He.ga K "is_whole", fd_is_whole, He.ga K "is_whole_below", fd_is_whole_below, He.ga K "common_divisor", fd_common_divisor, He.ga K "product_of", fd_product_of, He.ga K "short_row", fd_short_row, He.ga K "inverse", fd_inverse, He.ga K "is_pair", fd_is_pair, He.ga K "is_fraction", fd_is_fraction, He.ga K "is_prime", fd_is_prime, He.ga K "is_rest", fd_is_rest, He.ga K "is_reading", fd_is_reading, He.ga K "is_readings", fd_is_readings, He.ga K "need_readings", fd_need_readings, He.ga K "keeps", fd_keeps, He.ga K "keeps_all", fd_keeps_all, He.ga K "is_bounds", fd_is_bounds, He.ga K "is_bounds_up_to", fd_is_bounds_up_to, He.ga K "need_bounds", fd_need_bounds, He.ga K "need_bounds_up_to", fd_need_bounds_up_to, He.ga K "is_within", fd_is_within, He.ga K "all_within", fd_all_within, He.ga K "put_together", fd_put_together, He.ga K "only_candidate", fd_only_candidate, He.ga K "one_back", fd_one_back, He.ga K "all_back", fd_all_back, He.ga K "_law_cell_at", fd__law_cell_at, He.ga K "_law_stir", fd__law_stir, He.ga K "_law_deck", fd__law_deck, He.ga K "_law_next", fd__law_next, He.ga K "_law_primes", fd__law_primes, He.ga K "_law_no_readings", fd__law_no_readings, He.ga K "_law_no_bounds", fd__law_no_bounds, He.ga K "_law_word", fd__law_word, He.ga K "_law_asked", fd__law_asked, He.ga K "_law_split", fd__law_split, He.ga K "_law_enough_right", fd__law_enough_right, He.ga K "law", fd_law, t_PRIME_LIMIT, t_MOST_READINGS, t_SMALL_BOUND, He.ga K "BackError", He.ga K "NoFraction", He.ga K "NoPrime", He.ga K "NoReadings", He.ga K "NoBounds", He.ga K "NoNumber", He.ga K "TooFew", He.ga K "TooMany", He.ga K "NoText", He.ga K "NoName", He.ga K "NoRow", He.ga K "NoPoly", He.ga K "NoQuotient", He.ga K "NoWorths", He.ga K "NoDegrees", codeA K (("is_readings", none) : Str × Option Str), tabA K (("is_readings", none) : Str × Option Str), codeA K (("keeps_all", none) : Str × Option Str), tabA K (("keeps_all", none) : Str × Option Str), codeA K (("put_together", none) : Str × Option Str), tabA K (("put_together", none) : Str × Option Str)⟩, fd_law, fun s v => b s [v] rfl, ⟨rfl, rfl, rfl⟩, fun base KB _ sy => ?_⟩
  have T : Txt K mg base ⟨He.ga K "is_whole", fd_is_whole, He.ga K "is_whole_below", fd_is_whole_below, He.ga K "common_divisor", fd_common_divisor, He.ga K "product_of", fd_product_of, He.ga K "short_row", fd_short_row, He.ga K "inverse", fd_inverse, He.ga K "is_pair", fd_is_pair, He.ga K "is_fraction", fd_is_fraction, He.ga K "is_prime", fd_is_prime, He.ga K "is_rest", fd_is_rest, He.ga K "is_reading", fd_is_reading, He.ga K "is_readings", fd_is_readings, He.ga K "need_readings", fd_need_readings, He.ga K "keeps", fd_keeps, He.ga K "keeps_all", fd_keeps_all, He.ga K "is_bounds", fd_is_bounds, He.ga K "is_bounds_up_to", fd_is_bounds_up_to, He.ga K "need_bounds", fd_need_bounds, He.ga K "need_bounds_up_to", fd_need_bounds_up_to, He.ga K "is_within", fd_is_within, He.ga K "all_within", fd_all_within, He.ga K "put_together", fd_put_together, He.ga K "only_candidate", fd_only_candidate, He.ga K "one_back", fd_one_back, He.ga K "all_back", fd_all_back, He.ga K "_law_cell_at", fd__law_cell_at, He.ga K "_law_stir", fd__law_stir, He.ga K "_law_deck", fd__law_deck, He.ga K "_law_next", fd__law_next, He.ga K "_law_primes", fd__law_primes, He.ga K "_law_no_readings", fd__law_no_readings, He.ga K "_law_no_bounds", fd__law_no_bounds, He.ga K "_law_word", fd__law_word, He.ga K "_law_asked", fd__law_asked, He.ga K "_law_split", fd__law_split, He.ga K "_law_enough_right", fd__law_enough_right, He.ga K "law", fd_law, t_PRIME_LIMIT, t_MOST_READINGS, t_SMALL_BOUND, He.ga K "BackError", He.ga K "NoFraction", He.ga K "NoPrime", He.ga K "NoReadings", He.ga K "NoBounds", He.ga K "NoNumber", He.ga K "TooFew", He.ga K "TooMany", He.ga K "NoText", He.ga K "NoName", He.ga K "NoRow", He.ga K "NoPoly", He.ga K "NoQuotient", He.ga K "NoWorths", He.ga K "NoDegrees", codeA K (("is_readings", none) : Str × Option Str), tabA K (("is_readings", none) : Str × Option Str), codeA K (("keeps_all", none) : Str × Option Str), tabA K (("keeps_all", none) : Str × Option Str), codeA K (("put_together", none) : Str × Option Str), tabA K (("put_together", none) : Str × Option Str)⟩ :=
    { F_is_whole := F_is_whole,
      g_is_whole := He.glo_ok X G (c.fact 0 (f := .glo "is_whole") rfl),
      b_is_whole := F_is_whole.bindsN fun _ _ _ _ _ _ us hl => match us, hl with | [_], _ => rfl,
      F_is_whole_below := F_is_whole_below,
      g_is_whole_below := He.glo_ok X G (c.fact 1 (f := .glo "is_whole_below") rfl),
      b_is_whole_below := F_is_whole_below.bindsN fun _ _ _ _ _ _ us hl => match us, hl with | [_, _], _ => rfl,
      F_common_divisor := F_common_divisor,
      g_common_divisor := He.glo_ok X G (c.fact 2 (f := .glo "common_divisor") rfl),
      b_common_divisor := F_common_divisor.bindsN fun _ _ _ _ _ _ us hl => match us, hl with | [_, _], _ => rfl,
      F_product_of := F_product_of,
      g_product_of := He.glo_ok X G (c.fact 3 (f := .glo "product_of") rfl),
      b_product_of := F_product_of.bindsN fun _ _ _ _ _ _ us hl => match us, hl with | [_], _ => rfl,
      F_short_row := F_short_row,
      g_short_row := He.glo_ok X G (c.fact 4 (f := .glo "short_row") rfl),
      b_short_row := F_short_row.bindsN fun _ _ _ _ _ _ us hl => match us, hl with | [_, _, _], _ => rfl,
      F_inverse := F_inverse,
      g_inverse := He.glo_ok X G (c.fact 5 (f := .glo "inverse") rfl),
      b_inverse := F_inverse.bindsN fun _ _ _ _ _ _ us hl => match us, hl with | [_, _], _ => rfl,
      F_is_pair := F_is_pair,
      g_is_pair := He.glo_ok X G (c.fact 6 (f := .glo "is_pair") rfl),
      b_is_pair := F_is_pair.bindsN fun _ _ _ _ _ _ us hl => match us, hl with | [_], _ => rfl,
      F_is_fraction := F_is_fraction,
      g_is_fraction := He.glo_ok X G (c.fact 7 (f := .glo "is_fraction") rfl),
      b_is_fraction := F_is_fraction.bindsN fun _ _ _ _ _ _ us hl => match us, hl with | [_], _ => rfl,
      F_is_prime := F_is_prime,
      g_is_prime := He.glo_ok X G (c.fact 8 (f := .glo "is_prime") rfl),
      b_is_prime := F_is_prime.bindsN fun _ _ _ _ _ _ us hl => match us, hl with | [_], _ => rfl,
      F_is_rest := F_is_rest,
      g_is_rest := He.glo_ok X G (c.fact 9 (f := .glo "is_rest") rfl),
      b_is_rest := F_is_rest.bindsN fun _ _ _ _ _ _ us hl => match us, hl with | [_, _], _ => rfl,
      F_is_reading := F_is_reading,
      g_is_reading := He.glo_ok X G (c.fact 10 (f := .glo "is_reading") rfl),
      b_is_reading := F_is_reading.bindsN fun _ _ _ _ _ _ us hl => match us, hl with | [_], _ => rfl,
      F_is_readings := F_is_readings,
      g_is_readings := He.glo_ok X G (c.fact 11 (f := .glo "is_readings") rfl),
      b_is_readings := F_is_readings.bindsN fun _ _ _ _ _ _ us hl => match us, hl with | [_], _ => rfl,
      F_need_readings := F_need_readings,
      g_need_readings := He.glo_ok X G (c.fact 12 (f := .glo "need_readings") rfl),
      b_need_readings := F_need_readings.bindsN fun _ _ _ _ _ _ us hl => match us, hl with | [_], _ => rfl,
      F_keeps := F_keeps,
      g_keeps := He.glo_ok X G (c.fact 13 (f := .glo "keeps") rfl),
      b_keeps := F_keeps.bindsN fun _ _ _ _ _ _ us hl => match us, hl with | [_, _], _ => rfl,
      F_keeps_all := F_keeps_all,
      g_keeps_all := He.glo_ok X G (c.fact 14 (f := .glo "keeps_all") rfl),
      b_keeps_all := F_keeps_all.bindsN fun _ _ _ _ _ _ us hl => match us, hl with | [_, _], _ => rfl,
      F_is_bounds := F_is_bounds,
      g_is_bounds := He.glo_ok X G (c.fact 15 (f := .glo "is_bounds") rfl),
      b_is_bounds := F_is_bounds.bindsN fun _ _ _ _ _ _ us hl => match us, hl with | [_], _ => rfl,
      F_is_bounds_up_to := F_is_bounds_up_to,
      g_is_bounds_up_to := He.glo_ok X G (c.fact 16 (f := .glo "is_bounds_up_to") rfl),
      b_is_bounds_up_to := F_is_bounds_up_to.bindsN fun _ _ _ _ _ _ us hl => match us, hl with | [_, _], _ => rfl,
      F_need_bounds := F_need_bounds,
      g_need_bounds := He.glo_ok X G (c.fact 17 (f := .glo "need_bounds") rfl),
      b_need_bounds := F_need_bounds.bindsN fun _ _ _ _ _ _ us hl => match us, hl with | [_], _ => rfl,
      F_need_bounds_up_to := F_need_bounds_up_to,
      g_need_bounds_up_to := He.glo_ok X G (c.fact 18 (f := .glo "need_bounds_up_to") rfl),
      b_need_bounds_up_to := F_need_bounds_up_to.bindsN fun _ _ _ _ _ _ us hl => match us, hl with | [_, _], _ => rfl,
      F_is_within := F_is_within,
      g_is_within := He.glo_ok X G (c.fact 19 (f := .glo "is_within") rfl),
      b_is_within := F_is_within.bindsN fun _ _ _ _ _ _ us hl => match us, hl with | [_, _], _ => rfl,
      F_all_within := F_all_within,
      g_all_within := He.glo_ok X G (c.fact 20 (f := .glo "all_within") rfl),
      b_all_within := F_all_within.bindsN fun _ _ _ _ _ _ us hl => match us, hl with | [_], _ => rfl,
      F_put_together := F_put_together,
      g_put_together := He.glo_ok X G (c.fact 21 (f := .glo "put_together") rfl),
      b_put_together := F_put_together.bindsN fun _ _ _ _ _ _ us hl => match us, hl with | [_], _ => rfl,
      F_only_candidate := F_only_candidate,
      g_only_candidate := He.glo_ok X G (c.fact 22 (f := .glo "only_candidate") rfl),
      b_only_candidate := F_only_candidate.bindsN fun _ _ _ _ _ _ us hl => match us, hl with | [_, _], _ => rfl,
      F_one_back := F_one_back,
      g_one_back := He.glo_ok X G (c.fact 23 (f := .glo "one_back") rfl),
      b_one_back := F_one_back.bindsN fun _ _ _ _ _ _ us hl => match us, hl with | [_, _], _ => rfl,
      F_all_back := F_all_back,
      g_all_back := He.glo_ok X G (c.fact 24 (f := .glo "all_back") rfl),
      b_all_back := F_all_back.bindsN fun _ _ _ _ _ _ us hl => match us, hl with | [_, _], _ => rfl,
      F__law_cell_at := F__law_cell_at,
      g__law_cell_at := He.glo_ok X G (c.fact 25 (f := .glo "_law_cell_at") rfl),
      b__law_cell_at := F__law_cell_at.bindsN fun _ _ _ _ _ _ us hl => match us, hl with | [_, _], _ => rfl,
      F__law_stir := F__law_stir,
      g__law_stir := He.glo_ok X G (c.fact 26 (f := .glo "_law_stir") rfl),
      b__law_stir := F__law_stir.bindsN fun _ _ _ _ _ _ us hl => match us, hl with | [_, _], _ => rfl,
      F__law_deck := F__law_deck,
      g__law_deck := He.glo_ok X G (c.fact 27 (f := .glo "_law_deck") rfl),
      b__law_deck := F__law_deck.bindsN fun _ _ _ _ _ _ us hl => match us, hl with | [_, _], _ => rfl,
      F__law_next := F__law_next,
      g__law_next := He.glo_ok X G (c.fact 28 (f := .glo "_law_next") rfl),
      b__law_next := F__law_next.bindsN fun _ _ _ _ _ _ us hl => match us, hl with | [_], _ => rfl,
      F__law_primes := F__law_primes,
      g__law_primes := He.glo_ok X G (c.fact 29 (f := .glo "_law_primes") rfl),
      b__law_primes := F__law_primes.bindsN fun _ _ _ _ _ _ us hl => match us, hl with | [_, _, _], _ => rfl,
      F__law_no_readings := F__law_no_readings,
      g__law_no_readings := He.glo_ok X G (c.fact 30 (f := .glo "_law_no_readings") rfl),
      b__law_no_readings := F__law_no_readings.bindsN fun _ _ _ _ _ _ us hl => match us, hl with | [_, _], _ => rfl,
      F__law_no_bounds := F__law_no_bounds,
      g__law_no_bounds := He.glo_ok X G (c.fact 31 (f := .glo "_law_no_bounds") rfl),
      b__law_no_bounds := F__law_no_bounds.bindsN fun _ _ _ _ _ _ us hl => match us, hl with | [_], _ => rfl,
      F__law_word := F__law_word,
      g__law_word := He.glo_ok X G (c.fact 32 (f := .glo "_law_word") rfl),
      b__law_word := F__law_word.bindsN fun _ _ _ _ _ _ us hl => match us, hl with | [_], _ => rfl,
      F__law_asked := F__law_asked,
      g__law_asked := He.glo_ok X G (c.fact 33 (f := .glo "_law_asked") rfl),
      b__law_asked := F__law_asked.bindsN fun _ _ _ _ _ _ us hl => match us, hl with | [_, _, _], _ => rfl,
      F__law_split := F__law_split,
      g__law_split := He.glo_ok X G (c.fact 34 (f := .glo "_law_split") rfl),
      b__law_split := F__law_split.bindsN fun _ _ _ _ _ _ us hl => match us, hl with | [_, _], _ => rfl,
      F__law_enough_right := F__law_enough_right,
      g__law_enough_right := He.glo_ok X G (c.fact 35 (f := .glo "_law_enough_right") rfl),
      b__law_enough_right := F__law_enough_right.bindsN fun _ _ _ _ _ _ us hl => match us, hl with | [_, _, _], _ => rfl,
      F_law := F_law,
      g_law := He.glo_ok X G (c.fact 36 (f := .glo "law") rfl),
      b_law := F_law.bindsN fun _ _ _ _ _ _ us hl => match us, hl with | [_], _ => rfl,
      m_isinstance := He.free_ok X G (c.fact 37 (f := .free "isinstance") rfl),
      m_bool := He.free_ok X G (c.fact 38 (f := .free "bool") rfl),
      m_int := He.free_ok X G (c.fact 39 (f := .free "int") rfl),
      m_len := He.free_ok X G (c.fact 40 (f := .free "len") rfl),
      m_tuple := He.free_ok X G (c.fact 41 (f := .free "tuple") rfl),
      m_list := He.free_ok X G (c.fact 42 (f := .free "list") rfl),
      m_all := He.free_ok X G (c.fact 43 (f := .free "all") rfl),
      m_range := He.free_ok X G (c.fact 44 (f := .free "range") rfl),
      m_any := He.free_ok X G (c.fact 45 (f := .free "any") rfl),
      m_ValueError := He.free_ok X G (c.fact 46 (f := .free "ValueError") rfl),
      m_repr := He.free_ok X G (c.fact 47 (f := .free "repr") rfl),
      m_max := He.free_ok X G (c.fact 48 (f := .free "max") rfl),
      m_min := He.free_ok X G (c.fact 49 (f := .free "min") rfl),
      c_PRIME_LIMIT := c_PRIME_LIMIT,
      c_MOST_READINGS := c_MOST_READINGS,
      c_SMALL_BOUND := c_SMALL_BOUND,
      k_BackError := He.glo_ok X G (c.fact 53 (f := .glo "BackError") rfl),
      x_BackError := excFacts_of (c.fact 54 (f := .exc "BackError") rfl),
      k_NoFraction := He.glo_ok X G (c.fact 55 (f := .glo "NoFraction") rfl),
      x_NoFraction := excFacts_of (c.fact 56 (f := .exc "NoFraction") rfl),
      k_NoPrime := He.glo_ok X G (c.fact 57 (f := .glo "NoPrime") rfl),
      x_NoPrime := excFacts_of (c.fact 58 (f := .exc "NoPrime") rfl),
      k_NoReadings := He.glo_ok X G (c.fact 59 (f := .glo "NoReadings") rfl),
      x_NoReadings := excFacts_of (c.fact 60 (f := .exc "NoReadings") rfl),
      k_NoBounds := He.glo_ok X G (c.fact 61 (f := .glo "NoBounds") rfl),
      x_NoBounds := excFacts_of (c.fact 62 (f := .exc "NoBounds") rfl),
      k_NoNumber := He.glo_ok X G (c.fact 63 (f := .glo "NoNumber") rfl),
      x_NoNumber := excFacts_of (c.fact 64 (f := .exc "NoNumber") rfl),
      k_TooFew := He.glo_ok X G (c.fact 65 (f := .glo "TooFew") rfl),
      x_TooFew := excFacts_of (c.fact 66 (f := .exc "TooFew") rfl),
      k_TooMany := He.glo_ok X G (c.fact 67 (f := .glo "TooMany") rfl),
      x_TooMany := excFacts_of (c.fact 68 (f := .exc "TooMany") rfl),
      k_NoText := He.glo_ok X G (c.fact 69 (f := .glo "NoText") rfl),
      x_NoText := excFacts_of (c.fact 70 (f := .exc "NoText") rfl),
      k_NoName := He.glo_ok X G (c.fact 71 (f := .glo "NoName") rfl),
      x_NoName := excFacts_of (c.fact 72 (f := .exc "NoName") rfl),
      k_NoRow := He.glo_ok X G (c.fact 73 (f := .glo "NoRow") rfl),
      x_NoRow := excFacts_of (c.fact 74 (f := .exc "NoRow") rfl),
      k_NoPoly := He.glo_ok X G (c.fact 75 (f := .glo "NoPoly") rfl),
      x_NoPoly := excFacts_of (c.fact 76 (f := .exc "NoPoly") rfl),
      k_NoQuotient := He.glo_ok X G (c.fact 77 (f := .glo "NoQuotient") rfl),
      x_NoQuotient := excFacts_of (c.fact 78 (f := .exc "NoQuotient") rfl),
      k_NoWorths := He.glo_ok X G (c.fact 79 (f := .glo "NoWorths") rfl),
      x_NoWorths := excFacts_of (c.fact 80 (f := .exc "NoWorths") rfl),
      k_NoDegrees := He.glo_ok X G (c.fact 81 (f := .glo "NoDegrees") rfl),
      x_NoDegrees := excFacts_of (c.fact 82 (f := .exc "NoDegrees") rfl),
      xc_NoReadings := xf_exc (c0.x 0 (f := .exc "NoReadings") rfl),
      xs_NoReadings := xf_str (c0.x 1 (f := .str "NoReadings") rfl),
      kv_NoReadings := xf_kitT (c0.x 2 (f := .kitT "NoReadings" "ValueError" true) rfl),
      xm_NoReadings := xf_exm (c0.x 3 (f := .exm "NoReadings" "BackError" true) rfl),
      ki_NoReadings_BackError := xf_kit (c0.x 4 (f := .kit "NoReadings" "BackError" true) rfl),
      ki_NoReadings_NoFraction := xf_kit (c0.x 5 (f := .kit "NoReadings" "NoFraction" false) rfl),
      ki_NoReadings_NoPrime := xf_kit (c0.x 6 (f := .kit "NoReadings" "NoPrime" false) rfl),
      ki_NoReadings_NoReadings := xf_kit (c0.x 7 (f := .kit "NoReadings" "NoReadings" true) rfl),
      ki_NoReadings_NoBounds := xf_kit (c0.x 8 (f := .kit "NoReadings" "NoBounds" false) rfl),
      ki_NoReadings_NoNumber := xf_kit (c0.x 9 (f := .kit "NoReadings" "NoNumber" false) rfl),
      ki_NoReadings_TooFew := xf_kit (c0.x 10 (f := .kit "NoReadings" "TooFew" false) rfl),
      ki_NoReadings_TooMany := xf_kit (c0.x 11 (f := .kit "NoReadings" "TooMany" false) rfl),
      ki_NoReadings_NoText := xf_kit (c0.x 12 (f := .kit "NoReadings" "NoText" false) rfl),
      ki_NoReadings_NoName := xf_kit (c0.x 13 (f := .kit "NoReadings" "NoName" false) rfl),
      ki_NoReadings_NoRow := xf_kit (c0.x 14 (f := .kit "NoReadings" "NoRow" false) rfl),
      ki_NoReadings_NoPoly := xf_kit (c0.x 15 (f := .kit "NoReadings" "NoPoly" false) rfl),
      ki_NoReadings_NoQuotient := xf_kit (c0.x 16 (f := .kit "NoReadings" "NoQuotient" false) rfl),
      ki_NoReadings_NoWorths := xf_kit (c0.x 17 (f := .kit "NoReadings" "NoWorths" false) rfl),
      ki_NoReadings_NoDegrees := xf_kit (c0.x 18 (f := .kit "NoReadings" "NoDegrees" false) rfl),
      xc_NoBounds := xf_exc (c0.x 19 (f := .exc "NoBounds") rfl),
      xs_NoBounds := xf_str (c0.x 20 (f := .str "NoBounds") rfl),
      kv_NoBounds := xf_kitT (c0.x 21 (f := .kitT "NoBounds" "ValueError" true) rfl),
      xm_NoBounds := xf_exm (c0.x 22 (f := .exm "NoBounds" "BackError" true) rfl),
      ki_NoBounds_BackError := xf_kit (c0.x 23 (f := .kit "NoBounds" "BackError" true) rfl),
      ki_NoBounds_NoFraction := xf_kit (c0.x 24 (f := .kit "NoBounds" "NoFraction" false) rfl),
      ki_NoBounds_NoPrime := xf_kit (c0.x 25 (f := .kit "NoBounds" "NoPrime" false) rfl),
      ki_NoBounds_NoReadings := xf_kit (c0.x 26 (f := .kit "NoBounds" "NoReadings" false) rfl),
      ki_NoBounds_NoBounds := xf_kit (c0.x 27 (f := .kit "NoBounds" "NoBounds" true) rfl),
      ki_NoBounds_NoNumber := xf_kit (c0.x 28 (f := .kit "NoBounds" "NoNumber" false) rfl),
      ki_NoBounds_TooFew := xf_kit (c0.x 29 (f := .kit "NoBounds" "TooFew" false) rfl),
      ki_NoBounds_TooMany := xf_kit (c0.x 30 (f := .kit "NoBounds" "TooMany" false) rfl),
      ki_NoBounds_NoText := xf_kit (c0.x 31 (f := .kit "NoBounds" "NoText" false) rfl),
      ki_NoBounds_NoName := xf_kit (c0.x 32 (f := .kit "NoBounds" "NoName" false) rfl),
      ki_NoBounds_NoRow := xf_kit (c0.x 33 (f := .kit "NoBounds" "NoRow" false) rfl),
      ki_NoBounds_NoPoly := xf_kit (c0.x 34 (f := .kit "NoBounds" "NoPoly" false) rfl),
      ki_NoBounds_NoQuotient := xf_kit (c0.x 35 (f := .kit "NoBounds" "NoQuotient" false) rfl),
      ki_NoBounds_NoWorths := xf_kit (c0.x 36 (f := .kit "NoBounds" "NoWorths" false) rfl),
      ki_NoBounds_NoDegrees := xf_kit (c0.x 37 (f := .kit "NoBounds" "NoDegrees" false) rfl),
      xc_TooFew := xf_exc (c0.x 38 (f := .exc "TooFew") rfl),
      xs_TooFew := xf_str (c0.x 39 (f := .str "TooFew") rfl),
      kv_TooFew := xf_kitT (c0.x 40 (f := .kitT "TooFew" "ValueError" true) rfl),
      xm_TooFew := xf_exm (c0.x 41 (f := .exm "TooFew" "BackError" true) rfl),
      ki_TooFew_BackError := xf_kit (c0.x 42 (f := .kit "TooFew" "BackError" true) rfl),
      ki_TooFew_NoFraction := xf_kit (c0.x 43 (f := .kit "TooFew" "NoFraction" false) rfl),
      ki_TooFew_NoPrime := xf_kit (c0.x 44 (f := .kit "TooFew" "NoPrime" false) rfl),
      ki_TooFew_NoReadings := xf_kit (c0.x 45 (f := .kit "TooFew" "NoReadings" false) rfl),
      ki_TooFew_NoBounds := xf_kit (c0.x 46 (f := .kit "TooFew" "NoBounds" false) rfl),
      ki_TooFew_NoNumber := xf_kit (c0.x 47 (f := .kit "TooFew" "NoNumber" false) rfl),
      ki_TooFew_TooFew := xf_kit (c0.x 48 (f := .kit "TooFew" "TooFew" true) rfl),
      ki_TooFew_TooMany := xf_kit (c0.x 49 (f := .kit "TooFew" "TooMany" false) rfl),
      ki_TooFew_NoText := xf_kit (c0.x 50 (f := .kit "TooFew" "NoText" false) rfl),
      ki_TooFew_NoName := xf_kit (c0.x 51 (f := .kit "TooFew" "NoName" false) rfl),
      ki_TooFew_NoRow := xf_kit (c0.x 52 (f := .kit "TooFew" "NoRow" false) rfl),
      ki_TooFew_NoPoly := xf_kit (c0.x 53 (f := .kit "TooFew" "NoPoly" false) rfl),
      ki_TooFew_NoQuotient := xf_kit (c0.x 54 (f := .kit "TooFew" "NoQuotient" false) rfl),
      ki_TooFew_NoWorths := xf_kit (c0.x 55 (f := .kit "TooFew" "NoWorths" false) rfl),
      ki_TooFew_NoDegrees := xf_kit (c0.x 56 (f := .kit "TooFew" "NoDegrees" false) rfl),
      sm := smB_ok ct.y.1,
      sys := sy,
      cd_is_readings := ct.code F_is_readings (.head _),
      tb_is_readings := ct.tab X G KB (He.glo_ok X G (c.fact 83 (f := .glo "__builtins__") rfl)) (.head _),
      cd_keeps_all := ct.code F_keeps_all (.tail _ (.head _)),
      tb_keeps_all := ct.tab X G KB (He.glo_ok X G (c.fact 83 (f := .glo "__builtins__") rfl)) (.tail _ (.head _)),
      cd_put_together := ct.code F_put_together (.tail _ (.tail _ (.head _))),
      tb_put_together := ct.tab X G KB (He.glo_ok X G (c.fact 83 (f := .glo "__builtins__") rfl)) (.tail _ (.tail _ (.head _))) }
  exact ok_law T
end TB
open PySem PySem.W PySem.Calls PyProof.Rows
set_option maxHeartbeats 0 in
theorem PySem.Challenge.cw_toldback_k17_refused_all_right_holds : PySem.Challenge.rw_toldback_k17_refused_all_right.Holds := by
  w_on; o_law
  refine HandSHeadRun.head_any (r := OpenLaw.row PySem.Challenge.rw_toldback_k17_refused_all_right) (q := view (OpenLaw.row PySem.Challenge.rw_toldback_k17_refused_all_right).prog [60]) (H := TB.hk) (ob := TB.ob) (M := 12000) (loose := TB.looseL) (d := HandSHeadRun.topDef (OpenLaw.row PySem.Challenge.rw_toldback_k17_refused_all_right).prog 60) (kwd := []) TB.ob_eq
    (by kernel_rfl) (fun s => by kernel_rfl) TB.run (by kernel_rfl) (by kernel_rfl) (by kernel_rfl) (by rfl) (by first | assumption | decide +kernel) (by decide +kernel) ⟨rfl, rfl, rfl, rfl, rfl, by decide +kernel⟩ ?hw ?hc
  case hw => w_witness2
  case hc =>
    refine TB.walkT (l := PySem.Challenge.rw_toldback_k17_refused_all_right) (n := 63) (k := 18) (x := "script") rfl (by decide) (by kernel_rfl) ⟨rfl, by decide, by decide⟩ (by kernel_rfl) ?F
    intro w mg fa h Y G hmg0
    obtain ⟨K, KX, c⟩ := Y
    have hmg : mg ("law" : PySem.Str) = some (.ref fa) := by
      have e : (HandSHeadRun.topDef (OpenLaw.row PySem.Challenge.rw_toldback_k17_refused_all_right).prog 60).name = ("law" : PySem.Str) := by kernel_rfl
      rw [← e]
      exact hmg0
    obtain ⟨z, fd, hb, hz, hF⟩ := TB.facts (P := (PySem.Challenge.rw_toldback_k17_refused_all_right).prog) (w := w) KX G hmg c
    refine ⟨K, fd, TB.gnL.map fun x => (TB.codeA K x, TB.tabA K x), TB.sp_law K z, KX, fun p hp => ?_, fun p hp => ?_, fun p hp => ?_, hb, fun H a ns hl hH hS => TB.law_start hl ⟨by rw [hz.1]; exact hH _ (List.mem_map.mpr ⟨(("is_readings", none) : PySem.Str × Option PySem.Str), (.head _), rfl⟩), by rw [hz.2.1]; exact hH _ (List.mem_map.mpr ⟨(("keeps_all", none) : PySem.Str × Option PySem.Str), (.tail _ (.head _)), rfl⟩), by rw [hz.2.2]; exact hH _ (List.mem_map.mpr ⟨(("put_together", none) : PySem.Str × Option PySem.Str), (.tail _ (.tail _ (.head _))), rfl⟩)⟩ hS, hF⟩
    · obtain ⟨x, hx, rfl⟩ := List.mem_map.mp hp
      exact c.em x hx
    · obtain ⟨x, hx, rfl⟩ := List.mem_map.mp hp
      exact c.no KX hx
    · obtain ⟨x, hx, rfl⟩ := List.mem_map.mp hp
      exact (TB.codeB_ok (c.cd x hx)).hd _ KX
