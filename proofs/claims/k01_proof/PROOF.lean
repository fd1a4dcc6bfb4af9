import PyProof.Rows.All
import Wide.All
import OpenK.AllK
import Wide.FinOn
import KE.KStateDown
import KE.KExcInit
import KE.KTryMore
import HandS.Base
import HandS.Call
import HandS.Words
import HandS.ExcInit
import HandS.ExcIs
import HandS.ExcField
import HandS.Head0
import HandS.Head1
import HandS.Head2
import HandS.HeadEnd
import HandS.HeadHook1
import HandS.HeadHook2
import HandS.HeadHook4
import HandS.HeadWalk
import PySem.Challenge.RW_drawnrings_k01_errors_and_limits
import HandS.List
import HandS.Comp
import HandS.Text
import HandS.Iter
import HandS.Lambda
import HandS.TupAny
import HandS.WideBits
import HandS.Star
import HandS.Codes
import HandS.Property
import HandS.Zip
import HandS.IsInst
import HandS.StrMore
import HandS.WordsList
import HandS.More
import HandS.Deep
import PyProof.ReprRoads
import KE.GoesMore
import HandS.ClsMeth
import HandS.IterVal
import HandS.NamedTupGet
import KE.GoesEnum
import KE.GoesEnumKw
import HandS.Style
import HandS.NoneIn
import HandS.OwnEq
import HandS.SlotsOwn
import HandS.FStr
import HandS.Ends
import HandS.WordsExc
import KE.KExcIs
import HandS.TryMany
import HandS.HotCalls
import HandS.EndTab
import HandS.MakeKwOnly
import PyProof.StrLawsRepr
import PyProof.P3Eq
import HandS.RaiseMore
import HandS.ExcOwn
import PyProof.FitsInt
import PyProof.ReprLen
import HandS.Dict
import HandS.ExcValue
set_option Elab.async false
set_option linter.all false
set_option autoImplicit false
set_option maxRecDepth 100000
set_option maxHeartbeats 4000000
namespace DL
open PySem L2 PySem.Spec PyProof.Rows
/-! ### the top by one run: what is looked at behind it -/
/-- where a function stands -/
inductive At where
  | glo (x : Str) | met (C m : Str) | prp (C m : Str) | clm (C m : Str)
def At.adr (K : PySem.W.Frag) : At → Addr
  | .glo x => He.ga K x
  | .met C m => He.ma K (He.ga K C) m
  | .prp C m => match PySem.W.recIn K (He.ma K (He.ga K C) m) "property" with
    | some (.ref f :: _) => f
    | _ => 0
  | .clm C m => match PySem.W.recIn K (He.ma K (He.ga K C) m) "classmethod" with
    | some (.ref f :: _) => f
    | _ => 0
structure FD where
  at_ : At
  x : Str
  q : Str
  st : Stmt
def FD.val (d : FD) : He.FnW := some (d.x, d.q, defArgs d.st, .stmts (defBody d.st), defScope d.st, mainGlobals, [], builtinsNs)
def fnA (K : PySem.W.Frag) (a : Addr) : He.FnW := match K.lookup a with
  | some ⟨_, _, .func fd, _⟩ => some (fd.name, fd.qualname, fd.params, fd.body, fd.scope, fd.globals, fd.closure, fd.builtins)
  | _ => none
def noDef : Value → Bool
  | .none => true
  | _ => false
theorem noDef_ok {v : Value} (h : noDef v = true) : v = .none := by
  cases v <;> first | rfl | cases h
def FD.ok (K : PySem.W.Frag) (d : FD) : Bool := PySem.W.keepIn K (.ref (d.at_.adr K)) && (match K.lookup (d.at_.adr K) with
  | some ⟨_, _, .func fd, _⟩ => PySem.W.codeIn K fd.code d.q && noDef fd.defaults
  | _ => false)
/-- at f stands the def st -/
structure StandsL (K : PySem.W.Frag) (x qual : Str) (st : Stmt) (f : Addr) : Prop where
  at_ : ∃ (oc : Value) (od : Option Addr) (kV dc pm : Value) (an : Option Addr) (cd ct : Value) (sl : Array (Option Value)), K.lookup f = some ⟨oc, od, .func (PySem.W.fnOf x qual (defArgs st) (defBody st) (defScope st) .none kV dc pm an cd ct), sl⟩ ∧ PySem.W.codeIn K cd qual = true
  kp : PySem.W.keepIn K (.ref f) = true
theorem FD.stands {K : PySem.W.Frag} {d : FD} (e : fnA K (d.at_.adr K) = d.val) (c : d.ok K = true) : StandsL K d.x d.q d.st (d.at_.adr K) := by
  obtain ⟨kp, c2⟩ := Bool.and_eq_true_iff.mp c
  refine ⟨?_, kp⟩
  unfold fnA at e
  cases q : K.lookup (d.at_.adr K) with
  | none => rw [q] at c2; cases c2
  | some o =>
    obtain ⟨oc, od, dt, osl⟩ := o
    rw [q] at c2 e
    cases dt with
    | func fd =>
      obtain ⟨n1, n2, n3, n4, n5, n6, n7, n8, n9, n10, n11, n12, n13, n14, n15⟩ := fd
      have e2 : (some (n1, n2, n3, n4, n5, n6, n7, n15) : He.FnW) = some (d.x, d.q, defArgs d.st, .stmts (defBody d.st), defScope d.st, mainGlobals, [], builtinsNs) := e
      simp only [Option.some.injEq, Prod.mk.injEq] at e2
      obtain ⟨h1, h2, h3, h4, h5, h6, h7, h8⟩ := e2
      obtain ⟨k1, k2⟩ := Bool.and_eq_true_iff.mp (show (PySem.W.codeIn K n13 d.q && noDef n8) = true from c2)
      obtain rfl := noDef_ok k2
      subst h1 h2 h3 h4 h5 h6 h7 h8
      exact ⟨oc, od, n9, n10, n11, n12, n13, n14, osl, rfl, k1⟩
    | _ => cases c2
/-- the code object of the def at a, its table -/
def codeA (K : PySem.W.Frag) (a : Addr) : Addr := match K.lookup a with
  | some ⟨_, _, .func fd, _⟩ => (match fd.code with
    | .ref c => c
    | _ => 0)
  | _ => 0
theorem codeA_eq {K : PySem.W.Frag} {a : Addr} {oc : Value} {od : Option Addr} {osl : Array (Option Value)} {fd : FuncData} {c : Addr} (lk : K.lookup a = some ⟨oc, od, .func fd, osl⟩) (e : fd.code = .ref c) : codeA K a = c := by
  unfold codeA
  rw [lk]
  show (match fd.code with | .ref c => c | _ => 0) = c
  rw [e]
/-- the class at C is one of errors, over these -/
def clsB (K : PySem.W.Frag) (C : Addr) (newId : String) (bmB : List Value) : Bool := match K.lookup C with
  | some ⟨.type t, dd, .cls cd, sl⟩ => decide (t = "type") && (match cd.mro, sl.toList with
    | .ref C' :: bm, [k0, k1, k2, k3, some (.builtin n), k5] => decide (C' = C) && (decide (n = newId) && (cd.hasDict && (!cd.hasDel && PySem.W.excTail bmB bm)))
    | _, _ => false)
  | _ => false
/-! ### the Hook -/
/-- the tables that are looked at: at most one def makes a lambda -/
def tabB (g : Addr → Option Obj) (K : PySem.W.Frag) : Option At → Bool
  | none => true
  | some a => PySem.W.codeHdIn K (codeA K (a.adr K)) (He.tabOf K (codeA K (a.adr K))) && (match g (He.tabOf K (codeA K (a.adr K))) with
    | some o => He.emptyTab o
    | none => false)
/-- what the module's names reach in n steps, and the interpreter's own names -/
def asY (g : Addr → Option Obj) (n : Nat) : List Addr := List.range n
abbrev AlY : Type := List He.FnW × Bool
def obsY (n : Nat) (fs : List FD) (ex : PySem.W.Frag → Bool) (lam : Option At) (g : Addr → Option Obj) : AlY := (fs.map (fun d => fnA (He.frT g (asY g n)) (d.at_.adr (He.frT g (asY g n)))), (fs.all fun d => d.ok (He.frT g (asY g n))) && (ex (He.frT g (asY g n)) && tabB g (He.frT g (asY g n)) lam))
/-- what is told -/
structure SaysY (fs : List FD) (ex : PySem.W.Frag → Bool) (lam : Option At) (h : Heap) (K : PySem.W.Frag) : Prop where
  fn : ∀ d, d ∈ fs → StandsL K d.x d.q d.st (d.at_.adr K)
  ex : ex K = true
  tab : ∀ a, lam = some a → PySem.W.codeHdIn K (codeA K (a.adr K)) (He.tabOf K (codeA K (a.adr K))) = true ∧ K.lookup (He.tabOf K (codeA K (a.adr K))) = none ∧ h.get? (He.tabOf K (codeA K (a.adr K))) = some { cls := .none, data := .fields #[] }
theorem saysY_of {n : Nat} {fs : List FD} {ex : PySem.W.Frag → Bool} {lam : Option At} {h : Heap} (e : obsY n fs ex lam h.get? = (fs.map FD.val, true)) : SaysY fs ex lam h (He.frT h.get? (asY h.get? n)) := by
  have e1 : fs.map (fun d => fnA (He.frT h.get? (asY h.get? n)) (d.at_.adr (He.frT h.get? (asY h.get? n)))) = fs.map FD.val := congrArg (fun z : AlY => z.1) e
  have e2 : ((fs.all fun d => d.ok (He.frT h.get? (asY h.get? n))) && (ex (He.frT h.get? (asY h.get? n)) && tabB h.get? (He.frT h.get? (asY h.get? n)) lam)) = true := congrArg (fun z : AlY => z.2) e
  generalize hK : He.frT h.get? (asY h.get? n) = K at e1 e2 ⊢
  obtain ⟨a1, a2⟩ := Bool.and_eq_true_iff.mp e2
  obtain ⟨a3, a4⟩ := Bool.and_eq_true_iff.mp a2
  refine ⟨fun d hd => ?_, a3, fun a ha => ?_⟩
  · exact d.stands ((List.map_inj_left.mp e1) d hd) (List.all_eq_true.mp a1 d hd)
  · subst ha
    obtain ⟨b1, b2⟩ := Bool.and_eq_true_iff.mp (show (PySem.W.codeHdIn K (codeA K (a.adr K)) (He.tabOf K (codeA K (a.adr K))) && (match h.get? (He.tabOf K (codeA K (a.adr K))) with
      | some o => He.emptyTab o
      | none => false)) = true from a4)
    refine ⟨b1, ?_⟩
    cases q : h.get? (He.tabOf K (codeA K (a.adr K))) with
    | none => rw [q] at b2; cases b2
    | some o =>
      rw [q] at b2
      refine ⟨?_, by rw [He.emptyTab_eq b2]⟩
      subst hK
      exact He.frT_none q b2
def hookY (n : Nat) (fs : List FD) (ex : PySem.W.Frag → Bool) (lam : Option At) : PySem.W.Hook where
  α := AlY
  obs := fun s => obsY n fs ex lam s.heap.get?
  val := fun _ => (fs.map FD.val, true)
  says := fun _ h => ∃ K : PySem.W.Frag, K.In h ∧ SaysY fs ex lam h K
  of := fun _ _ e => ⟨_, He.frT_in, saysY_of e⟩
  keeps := fun _ _ _ ⟨K, hK, c⟩ k => ⟨K, PySem.W.Frag.In.keeps hK k, ⟨c.fn, c.ex, fun a ha => let ⟨x, y, z⟩ := c.tab a ha; ⟨x, y, k _ _ z⟩⟩⟩
theorem obsY_eq {n : Nat} {fs : List FD} {ex : PySem.W.Frag → Bool} {lam : Option At} {g : Addr → Option Obj} {s : Shared} (h : ∀ a, g a = s.heap.get? a) : obsY n fs ex lam g = (hookY n fs ex lam).obs s := by
  have e : g = s.heap.get? := funext h
  rw [e] <;> rfl
/-- the facts as one list -/
theorem fact_at {l : List Bool} (h : l.all id = true) (i : Nat) {b : Bool} (e : l[i]? = some b) : b = true := List.all_eq_true.mp h b (List.mem_of_getElem? e)
/-- an error class, from its look -/
theorem clsB_ok {K : PySem.W.Frag} {C : Addr} {newId : String} {bmB : List Value} (h : clsB K C newId bmB = true) : ∃ nm q N bs bm sn sub ab col dd k0 k1 k2 k3 k5, K.lookup C = some (excClassObj nm q C N bs bm true sn sub ab col dd k0 k1 k2 k3 k5 newId) ∧ PySem.W.excTail bmB bm = true := by
  unfold clsB at h
  split at h
  · rename_i t dd cd sl lk
    obtain ⟨h1, h2⟩ := Bool.and_eq_true_iff.mp h
    have ht := of_decide_eq_true h1
    subst ht
    split at h2
    · rename_i C' bm k0 k1 k2 k3 n k5 em es
      simp only [Bool.and_eq_true, decide_eq_true_eq, Bool.not_eq_true'] at h2
      obtain ⟨rfl, rfl, hd, hx, tl⟩ := h2
      obtain ⟨c1, c2, c3, c4, c5, c6, c7, c8, c9, c10, c11⟩ := cd
      have e3 : c3 = .ref C' :: bm := em
      have e6 : c6 = true := hd
      have e11 : c11 = false := hx
      have esl : sl = #[k0, k1, k2, k3, some (.builtin n), k5] := by
        apply Array.ext'
        simpa using es
      refine ⟨c1, c5, c4, c2, bm, c7, c8, c9, c10, dd, k0, k1, k2, k3, k5, ?_, tl⟩
      rw [lk, e3, e6, e11, esl]
    · cases h2
  · cases h
/-- the getter of a property -/
def prpB (K : PySem.W.Frag) (C m : Str) : Bool := match PySem.W.recIn K (He.ma K (He.ga K C) m) "property" with
  | some (.ref _ :: _) => true
  | _ => false
theorem prpB_ok {K : PySem.W.Frag} {C m : Str} (h : prpB K C m = true) : ∃ rest, PySem.W.recIn K (He.ma K (He.ga K C) m) "property" = some (.ref ((At.prp C m).adr K) :: rest) := by
  unfold prpB at h
  split at h
  · rename_i f rest e
    refine ⟨rest, ?_⟩
    have ea : (At.prp C m).adr K = f := by
      show (match PySem.W.recIn K (He.ma K (He.ga K C) m) "property" with
        | some (.ref f :: _) => f
        | _ => 0) = f
      rw [e]
    rw [ea, e]
  · cases h
/-- a classmethod and its function -/
def cmB (K : PySem.W.Frag) (C m : Str) : Bool := match PySem.W.findCls K (.ref (He.ga K C)) (.type "type") m with
  | some (.get (.builtin b) (.ref p) .none (.ref c)) => decide (b = "classmethod.__get__") && (decide (p = He.ma K (He.ga K C) m) && decide (c = He.ga K C))
  | _ => false
theorem cmB_ok {K : PySem.W.Frag} {C m : Str} (h : cmB K C m = true) : PySem.W.findCls K (.ref (He.ga K C)) (.type "type") m = some (.get (.builtin "classmethod.__get__") (.ref (He.ma K (He.ga K C) m)) .none (.ref (He.ga K C))) := by
  unfold cmB at h
  split at h
  · rename_i b p c e
    simp only [Bool.and_eq_true, decide_eq_true_eq] at h
    obtain ⟨h1, h2, h3⟩ := h
    rw [e, h1, h2, h3]
  · cases h
def cfB (K : PySem.W.Frag) (C m : Str) : Bool := match PySem.W.recIn K (He.ma K (He.ga K C) m) "classmethod" with
  | some (.ref f :: _) => PySem.W.fnIn K f
  | _ => false
theorem cfB_ok {K : PySem.W.Frag} {C m : Str} (h : cfB K C m = true) : ∃ rest, PySem.W.recIn K (He.ma K (He.ga K C) m) "classmethod" = some (.ref ((At.clm C m).adr K) :: rest) ∧ PySem.W.fnIn K ((At.clm C m).adr K) = true := by
  unfold cfB at h
  split at h
  · rename_i f rest e
    refine ⟨rest, ?_⟩
    have ea : (At.clm C m).adr K = f := by
      show (match PySem.W.recIn K (He.ma K (He.ga K C) m) "classmethod" with
        | some (.ref f :: _) => f
        | _ => 0) = f
      rw [e]
    rw [ea]
    exact ⟨e, h⟩
  · cases h
def noTup (K : PySem.W.Frag) (C : Addr) : Bool := match K.lookup C with
  | some o => (match o.cls with
    | .type t => decide (t ≠ "tuple")
    | _ => true)
  | _ => false
theorem noTup_ok {K : PySem.W.Frag} {C : Addr} (h : noTup K C = true) : ∃ o, K.lookup C = some o ∧ o.cls ≠ .type "tuple" := by
  unfold noTup at h
  split at h
  · rename_i o e
    refine ⟨o, e, fun z => ?_⟩
    rw [z] at h
    exact absurd rfl (of_decide_eq_true h)
  · cases h
/-- an error class among those of the document: its place, its bases -/
def ecK (i : Nat) : Nat := if i < 13 then 0 else if i < 15 then 1 else 2
def ecIs (K : PySem.W.Frag) (C : Addr) (v : Value) (b : Bool) : Bool := match PySem.W.kitOne K (.ref C) v with
  | some d => d == b
  | none => false
def ecEx (K : PySem.W.Frag) (C : Addr) (vs : List Value) : Bool := match PySem.W.exmAny K (.ref C) vs with
  | some d => d
  | none => false
def ecChk (K : PySem.W.Frag) (as : List Addr) (b0 b1 b2 : Addr) (C : Addr) (i : Nat) : Bool :=
  (List.range 20).all (fun j => ecIs K C (.ref (as.getD j 0)) (decide (j = i))) && ((List.range 3).all (fun j => ecIs K C (.ref ([b0, b1, b2].getD j 0)) (decide (j = ecK i))) &&
    (ecIs K C (.type "ValueError") (decide (0 = ecK i)) && (ecIs K C (.type "LookupError") (decide (1 = ecK i)) && (ecIs K C (.type "ArithmeticError") (decide (2 = ecK i)) && (ecEx K C [.ref b0, .ref b1, .ref b2] && xfB K C)))))
end DL

set_option Elab.async false
set_option linter.all false
set_option autoImplicit false
set_option maxRecDepth 100000
set_option maxHeartbeats 4000000
namespace DL
open PySem L2 PySem.Spec PyProof.Rows
/-! ### several defs that make lambdas: their tables -/
def tabBs (g : Addr → Option Obj) (K : PySem.W.Frag) (l : List At) : Bool := l.all fun a => tabB g K (some a)
def obsZ (n : Nat) (fs : List FD) (ex : PySem.W.Frag → Bool) (lam : List At) (g : Addr → Option Obj) : AlY := (fs.map (fun d => fnA (He.frT g (asY g n)) (d.at_.adr (He.frT g (asY g n)))), (fs.all fun d => d.ok (He.frT g (asY g n))) && (ex (He.frT g (asY g n)) && tabBs g (He.frT g (asY g n)) lam))
structure SaysZ (fs : List FD) (ex : PySem.W.Frag → Bool) (lam : List At) (h : Heap) (K : PySem.W.Frag) : Prop where
  fn : ∀ d, d ∈ fs → StandsL K d.x d.q d.st (d.at_.adr K)
  ex : ex K = true
  tab : ∀ a, a ∈ lam → PySem.W.codeHdIn K (codeA K (a.adr K)) (He.tabOf K (codeA K (a.adr K))) = true ∧ K.lookup (He.tabOf K (codeA K (a.adr K))) = none ∧ h.get? (He.tabOf K (codeA K (a.adr K))) = some { cls := .none, data := .fields #[] }
theorem saysZ_of {n : Nat} {fs : List FD} {ex : PySem.W.Frag → Bool} {lam : List At} {h : Heap} (e : obsZ n fs ex lam h.get? = (fs.map FD.val, true)) : SaysZ fs ex lam h (He.frT h.get? (asY h.get? n)) := by
  have e1 := congrArg (fun z : AlY => z.1) e
  have e2 := congrArg (fun z : AlY => z.2) e
  have one : ∀ a, a ∈ lam → SaysY fs ex (some a) h (He.frT h.get? (asY h.get? n)) := fun a ha => by
    refine saysY_of (lam := some a) ?_
    have e2' : ((fs.all fun d => d.ok (He.frT h.get? (asY h.get? n))) && (ex (He.frT h.get? (asY h.get? n)) && tabBs h.get? (He.frT h.get? (asY h.get? n)) lam)) = true := e2
    obtain ⟨a1, a2⟩ := Bool.and_eq_true_iff.mp e2'
    obtain ⟨a3, a4⟩ := Bool.and_eq_true_iff.mp a2
    have a5 : tabB h.get? (He.frT h.get? (asY h.get? n)) (some a) = true := List.all_eq_true.mp a4 a ha
    refine Prod.ext e1 ?_
    show ((fs.all fun d => d.ok (He.frT h.get? (asY h.get? n))) && (ex (He.frT h.get? (asY h.get? n)) && tabB h.get? (He.frT h.get? (asY h.get? n)) (some a))) = true
    rw [a1, a3, a5]
    rfl
  have none_ : SaysY fs ex none h (He.frT h.get? (asY h.get? n)) := by
    refine saysY_of (lam := none) ?_
    have e2' : ((fs.all fun d => d.ok (He.frT h.get? (asY h.get? n))) && (ex (He.frT h.get? (asY h.get? n)) && tabBs h.get? (He.frT h.get? (asY h.get? n)) lam)) = true := e2
    obtain ⟨a1, a2⟩ := Bool.and_eq_true_iff.mp e2'
    obtain ⟨a3, _⟩ := Bool.and_eq_true_iff.mp a2
    refine Prod.ext e1 ?_
    show ((fs.all fun d => d.ok (He.frT h.get? (asY h.get? n))) && (ex (He.frT h.get? (asY h.get? n)) && true)) = true
    rw [a1, a3]
    rfl
  exact ⟨none_.fn, none_.ex, fun a ha => (one a ha).tab a rfl⟩
def hookZ (n : Nat) (fs : List FD) (ex : PySem.W.Frag → Bool) (lam : List At) : PySem.W.Hook where
  α := AlY
  obs := fun s => obsZ n fs ex lam s.heap.get?
  val := fun _ => (fs.map FD.val, true)
  says := fun _ h => ∃ K : PySem.W.Frag, K.In h ∧ SaysZ fs ex lam h K
  of := fun _ _ e => ⟨_, He.frT_in, saysZ_of e⟩
  keeps := fun _ _ _ ⟨K, hK, c⟩ k => ⟨K, PySem.W.Frag.In.keeps hK k, ⟨c.fn, c.ex, fun a ha => let ⟨x, y, z⟩ := c.tab a ha; ⟨x, y, k _ _ z⟩⟩⟩
theorem obsZ_eq {n : Nat} {fs : List FD} {ex : PySem.W.Frag → Bool} {lam : List At} {g : Addr → Option Obj} {s : Shared} (h : ∀ a, g a = s.heap.get? a) : obsZ n fs ex lam g = (hookZ n fs ex lam).obs s := by
  obtain rfl : g = s.heap.get? := funext h
  rfl
end DL

set_option Elab.async false
set_option linter.all false
set_option autoImplicit false
set_option maxRecDepth 100000
set_option maxHeartbeats 4000000
namespace DL
open PySem L2 PySem.Spec PyProof.Rows
/-! ### likewise, with the addresses as they are given: those that are wanted most stand first -/
def obsW (as : List Addr) (fs : List FD) (ex : PySem.W.Frag → Bool) (lam : List At) (g : Addr → Option Obj) : AlY := (fs.map (fun d => fnA (He.frT g as) (d.at_.adr (He.frT g as))), (fs.all fun d => d.ok (He.frT g as)) && (ex (He.frT g as) && tabBs g (He.frT g as) lam))
theorem saysW_of {as : List Addr} {fs : List FD} {ex : PySem.W.Frag → Bool} {lam : List At} {h : Heap} (e : obsW as fs ex lam h.get? = (fs.map FD.val, true)) : SaysZ fs ex lam h (He.frT h.get? as) := by
  have e1 : fs.map (fun d => fnA (He.frT h.get? as) (d.at_.adr (He.frT h.get? as))) = fs.map FD.val := congrArg (fun z : AlY => z.1) e
  have e2 : ((fs.all fun d => d.ok (He.frT h.get? as)) && (ex (He.frT h.get? as) && tabBs h.get? (He.frT h.get? as) lam)) = true := congrArg (fun z : AlY => z.2) e
  generalize hK : He.frT h.get? as = K at e1 e2 ⊢
  obtain ⟨a1, a2⟩ := Bool.and_eq_true_iff.mp e2
  obtain ⟨a3, a4⟩ := Bool.and_eq_true_iff.mp a2
  refine ⟨fun d hd => d.stands ((List.map_inj_left.mp e1) d hd) (List.all_eq_true.mp a1 d hd), a3, fun a ha => ?_⟩
  have a5 : tabB h.get? K (some a) = true := List.all_eq_true.mp a4 a ha
  obtain ⟨b1, b2⟩ := Bool.and_eq_true_iff.mp (show (PySem.W.codeHdIn K (codeA K (a.adr K)) (He.tabOf K (codeA K (a.adr K))) && (match h.get? (He.tabOf K (codeA K (a.adr K))) with
    | some o => He.emptyTab o
    | none => false)) = true from a5)
  refine ⟨b1, ?_⟩
  cases q : h.get? (He.tabOf K (codeA K (a.adr K))) with
  | none => rw [q] at b2; cases b2
  | some o =>
    rw [q] at b2
    refine ⟨?_, by rw [He.emptyTab_eq b2]⟩
    subst hK
    exact He.frT_none q b2
def hookW (as : List Addr) (fs : List FD) (ex : PySem.W.Frag → Bool) (lam : List At) : PySem.W.Hook where
  α := AlY
  obs := fun s => obsW as fs ex lam s.heap.get?
  val := fun _ => (fs.map FD.val, true)
  says := fun _ h => ∃ K : PySem.W.Frag, K.In h ∧ SaysZ fs ex lam h K
  of := fun _ _ e => ⟨_, He.frT_in, saysW_of e⟩
  keeps := fun _ _ _ ⟨K, hK, c⟩ k => ⟨K, PySem.W.Frag.In.keeps hK k, ⟨c.fn, c.ex, fun a ha => let ⟨x, y, z⟩ := c.tab a ha; ⟨x, y, k _ _ z⟩⟩⟩
theorem obsW_eq {as : List Addr} {fs : List FD} {ex : PySem.W.Frag → Bool} {lam : List At} {g : Addr → Option Obj} {s : Shared} (h : ∀ a, g a = s.heap.get? a) : obsW as fs ex lam g = (hookW as fs ex lam).obs s := by
  obtain rfl : g = s.heap.get? := funext h
  rfl
end DL

set_option Elab.async false
set_option linter.all false
set_option autoImplicit false
set_option maxRecDepth 100000
set_option maxHeartbeats 4000000
namespace DL
open PySem L2 PySem.Spec PyProof.Rows
/-! ### eight error classes that single clauses name -/
def ecOne (K : PySem.W.Frag) (C a : Addr) (b : Bool) : Bool := match PySem.W.exmAny K (.ref C) [.ref a] with
  | some d => d == b
  | none => false
def cauChk (K : PySem.W.Frag) (as : List Addr) (C : Addr) (i : Nat) : Bool := (List.range 8).all (fun j => ecOne K C (as.getD j 0) (decide (j = i))) && xfB K C
end DL

set_option Elab.async false
set_option linter.all false
set_option autoImplicit false
set_option maxRecDepth 100000
set_option maxHeartbeats 2000000
namespace T01
open PySem L2 DL
def top (i : Nat) : Stmt := PySem.Challenge.pw_drawnrings_k01_errors_and_limits.main.body.getD i (.Pass ⟨0, 0, 0, 0⟩)
theorem sc_InvalidCloth_init : FnScope ["self", "given"] ["self", "given"] (defScope (inClass (top 2) 0)) := ⟨rfl, rfl, rfl, by decide +kernel, rfl, by decide +kernel, by decide +kernel⟩
theorem sc_InvalidMove_init : FnScope ["self", "given"] ["self", "given"] (defScope (inClass (top 3) 0)) := ⟨rfl, rfl, rfl, by decide +kernel, rfl, by decide +kernel, by decide +kernel⟩
theorem sc_InvalidText_init : FnScope ["self", "given"] ["self", "given"] (defScope (inClass (top 4) 0)) := ⟨rfl, rfl, rfl, by decide +kernel, rfl, by decide +kernel, by decide +kernel⟩
theorem sc_InvalidName_init : FnScope ["self", "given"] ["self", "given"] (defScope (inClass (top 5) 0)) := ⟨rfl, rfl, rfl, by decide +kernel, rfl, by decide +kernel, by decide +kernel⟩
theorem sc_InvalidNumber_init : FnScope ["self", "given"] ["self", "given"] (defScope (inClass (top 6) 0)) := ⟨rfl, rfl, rfl, by decide +kernel, rfl, by decide +kernel, by decide +kernel⟩
theorem sc_InvalidPlace_init : FnScope ["self", "given"] ["self", "given"] (defScope (inClass (top 7) 0)) := ⟨rfl, rfl, rfl, by decide +kernel, rfl, by decide +kernel, by decide +kernel⟩
theorem sc_InvalidWish_init : FnScope ["self", "given"] ["self", "given"] (defScope (inClass (top 8) 0)) := ⟨rfl, rfl, rfl, by decide +kernel, rfl, by decide +kernel, by decide +kernel⟩
theorem sc_NotAScript_init : FnScope ["self", "given"] ["self", "given"] (defScope (inClass (top 9) 0)) := ⟨rfl, rfl, rfl, by decide +kernel, rfl, by decide +kernel, by decide +kernel⟩
theorem sc_InvalidRows_init : FnScope ["self", "index"] ["self", "index"] (defScope (inClass (top 10) 0)) := ⟨rfl, rfl, rfl, by decide +kernel, rfl, by decide +kernel, by decide +kernel⟩
theorem sc_InvalidStanding_init : FnScope ["self", "index"] ["self", "index"] (defScope (inClass (top 11) 0)) := ⟨rfl, rfl, rfl, by decide +kernel, rfl, by decide +kernel, by decide +kernel⟩
theorem sc_InvalidSeen_init : FnScope ["self", "index"] ["self", "index"] (defScope (inClass (top 12) 0)) := ⟨rfl, rfl, rfl, by decide +kernel, rfl, by decide +kernel, by decide +kernel⟩
theorem sc_InvalidExchanges_init : FnScope ["self", "index"] ["self", "index"] (defScope (inClass (top 13) 0)) := ⟨rfl, rfl, rfl, by decide +kernel, rfl, by decide +kernel, by decide +kernel⟩
theorem sc_InvalidWishes_init : FnScope ["self", "index"] ["self", "index"] (defScope (inClass (top 14) 0)) := ⟨rfl, rfl, rfl, by decide +kernel, rfl, by decide +kernel, by decide +kernel⟩
theorem sc_UnknownName_init : FnScope ["self", "given"] ["self", "given"] (defScope (inClass (top 16) 0)) := ⟨rfl, rfl, rfl, by decide +kernel, rfl, by decide +kernel, by decide +kernel⟩
theorem sc_InUse_init : FnScope ["self", "index"] ["self", "index"] (defScope (inClass (top 17) 0)) := ⟨rfl, rfl, rfl, by decide +kernel, rfl, by decide +kernel, by decide +kernel⟩
theorem sc_Unknown_init : FnScope ["self", "index"] ["self", "index"] (defScope (inClass (top 19) 0)) := ⟨rfl, rfl, rfl, by decide +kernel, rfl, by decide +kernel, by decide +kernel⟩
theorem sc_TooFew_init : FnScope ["self", "given"] ["self", "given"] (defScope (inClass (top 20) 0)) := ⟨rfl, rfl, rfl, by decide +kernel, rfl, by decide +kernel, by decide +kernel⟩
theorem sc_TooMany_init : FnScope ["self", "given"] ["self", "given"] (defScope (inClass (top 21) 0)) := ⟨rfl, rfl, rfl, by decide +kernel, rfl, by decide +kernel, by decide +kernel⟩
theorem sc_Broken_init : FnScope ["self", "index", "shown"] ["self", "index", "shown"] (defScope (inClass (top 22) 0)) := ⟨rfl, rfl, rfl, by decide +kernel, rfl, by decide +kernel, by decide +kernel⟩
theorem sc__law_spring : FnScope ["cells", "k", "cell", "mixed", "number"] ["cells", "k"] (defScope (top 31)) := ⟨rfl, rfl, rfl, by decide +kernel, rfl, by decide +kernel, by decide +kernel⟩
theorem sc__law_draw : FnScope ["spring", "size", "digit", "far", "mixed"] ["spring", "size"] (defScope (top 32)) := ⟨rfl, rfl, rfl, by decide +kernel, rfl, by decide +kernel, by decide +kernel⟩
theorem sc__law_of : FnScope ["spring", "menu"] ["spring", "menu"] (defScope (top 33)) := ⟨rfl, rfl, rfl, by decide +kernel, rfl, by decide +kernel, by decide +kernel⟩
theorem sc__law_error : FnScope ["e", "fits_here", "words", "bases", "plain_ones", "at"] ["e"] (defScope (top 34)) := ⟨rfl, rfl, rfl, by decide +kernel, rfl, by decide +kernel, by decide +kernel⟩
theorem sc__law_field : FnScope ["e", "word_now"] ["e", "word_now"] (defScope (top 35)) := ⟨rfl, rfl, rfl, by decide +kernel, rfl, by decide +kernel, by decide +kernel⟩
theorem sc__law_odd : FnScope ["spring", "some"] ["spring"] (defScope (top 36)) := ⟨rfl, rfl, rfl, by decide +kernel, rfl, by decide +kernel, by decide +kernel⟩
theorem sc__law_errors : FnScope ["thing", "some"] ["thing"] (defScope (top 37)) := ⟨rfl, rfl, rfl, by decide +kernel, rfl, by decide +kernel, by decide +kernel⟩
theorem sc__law_right : FnScope ["spring", "thing", "mate", "words", "some", "k", "word_now", "pairs", "each"] ["spring"] (defScope (top 38)) := ⟨rfl, rfl, rfl, by decide +kernel, rfl, by decide +kernel, by decide +kernel⟩
theorem sc_law : FnScope ["script", "told", "bases", "k"] ["script"] (defScope (top 39)) := ⟨rfl, rfl, rfl, by decide +kernel, rfl, by decide +kernel, by decide +kernel⟩

end T01

set_option Elab.async false
set_option linter.all false
set_option autoImplicit false
set_option maxRecDepth 100000
set_option maxHeartbeats 0
namespace T01
open PySem L2 DL PySem.Spec PyProof.Rows

def fds : List FD := [⟨.glo "_law_spring", "_law_spring", "_law_spring", (top 31)⟩,
  ⟨.met "Broken" "__init__", "__init__", "Broken.__init__", (inClass (top 22) 0)⟩,
  ⟨.glo "_law_right", "_law_right", "_law_right", (top 38)⟩,
  ⟨.glo "_law_odd", "_law_odd", "_law_odd", (top 36)⟩,
  ⟨.glo "_law_of", "_law_of", "_law_of", (top 33)⟩,
  ⟨.glo "_law_draw", "_law_draw", "_law_draw", (top 32)⟩,
  ⟨.met "InvalidCloth" "__init__", "__init__", "InvalidCloth.__init__", (inClass (top 2) 0)⟩,
  ⟨.met "InvalidMove" "__init__", "__init__", "InvalidMove.__init__", (inClass (top 3) 0)⟩,
  ⟨.met "InvalidText" "__init__", "__init__", "InvalidText.__init__", (inClass (top 4) 0)⟩,
  ⟨.met "InvalidName" "__init__", "__init__", "InvalidName.__init__", (inClass (top 5) 0)⟩,
  ⟨.met "InvalidNumber" "__init__", "__init__", "InvalidNumber.__init__", (inClass (top 6) 0)⟩,
  ⟨.met "InvalidPlace" "__init__", "__init__", "InvalidPlace.__init__", (inClass (top 7) 0)⟩,
  ⟨.met "InvalidWish" "__init__", "__init__", "InvalidWish.__init__", (inClass (top 8) 0)⟩,
  ⟨.met "NotAScript" "__init__", "__init__", "NotAScript.__init__", (inClass (top 9) 0)⟩,
  ⟨.met "InvalidRows" "__init__", "__init__", "InvalidRows.__init__", (inClass (top 10) 0)⟩,
  ⟨.met "InvalidStanding" "__init__", "__init__", "InvalidStanding.__init__", (inClass (top 11) 0)⟩,
  ⟨.met "InvalidSeen" "__init__", "__init__", "InvalidSeen.__init__", (inClass (top 12) 0)⟩,
  ⟨.met "InvalidExchanges" "__init__", "__init__", "InvalidExchanges.__init__", (inClass (top 13) 0)⟩,
  ⟨.met "InvalidWishes" "__init__", "__init__", "InvalidWishes.__init__", (inClass (top 14) 0)⟩,
  ⟨.met "UnknownName" "__init__", "__init__", "UnknownName.__init__", (inClass (top 16) 0)⟩,
  ⟨.met "InUse" "__init__", "__init__", "InUse.__init__", (inClass (top 17) 0)⟩,
  ⟨.met "Unknown" "__init__", "__init__", "Unknown.__init__", (inClass (top 19) 0)⟩,
  ⟨.met "TooFew" "__init__", "__init__", "TooFew.__init__", (inClass (top 20) 0)⟩,
  ⟨.met "TooMany" "__init__", "__init__", "TooMany.__init__", (inClass (top 21) 0)⟩,
  ⟨.glo "_law_errors", "_law_errors", "_law_errors", (top 37)⟩,
  ⟨.glo "_law_error", "_law_error", "_law_error", (top 34)⟩,
  ⟨.glo "_law_field", "_law_field", "_law_field", (top 35)⟩,
  ⟨.glo "law", "law", "law", (top 39)⟩]
def exL (K : PySem.W.Frag) : List Bool := [decide (PySem.W.nsIn K mainGlobals "len" = some none),
  decide (PySem.W.nsIn K mainGlobals "max" = some none),
  decide (PySem.W.nsIn K mainGlobals "min" = some none),
  decide (PySem.W.nsIn K mainGlobals "abs" = some none),
  decide (PySem.W.nsIn K mainGlobals "int" = some none),
  decide (PySem.W.nsIn K mainGlobals "str" = some none),
  decide (PySem.W.nsIn K mainGlobals "tuple" = some none),
  decide (PySem.W.nsIn K mainGlobals "list" = some none),
  decide (PySem.W.nsIn K mainGlobals "divmod" = some none),
  decide (PySem.W.nsIn K mainGlobals "range" = some none),
  decide (PySem.W.nsIn K mainGlobals "type" = some none),
  decide (PySem.W.nsIn K mainGlobals "enumerate" = some none),
  decide (PySem.W.nsIn K mainGlobals "zip" = some none),
  decide (PySem.W.nsIn K mainGlobals "isinstance" = some none),
  decide (PySem.W.nsIn K mainGlobals "sum" = some none),
  decide (PySem.W.nsIn K mainGlobals "all" = some none),
  decide (PySem.W.nsIn K mainGlobals "any" = some none),
  decide (PySem.W.nsIn K mainGlobals "bool" = some none),
  decide (PySem.W.nsIn K mainGlobals "repr" = some none),
  (K.lookup sysModules).isSome,
  (He.Fa.int "MOST_CLOTH" 9).ok K,
  (He.Fa.int "MOST_MOVES" 10).ok K,
  (He.Fa.int "MOST_NAMED" 5).ok K,
  (He.Fa.int "MOST_PLACE" 99).ok K,
  (He.Fa.int "MOST_LOOKED" 3000).ok K,
  (He.Fa.int "MOST_EXCHANGES" 5).ok K,
  decide (PySem.W.findIn K (.ref (He.ga K "WrongValue")) "__getattribute__" = some (some (.builtin "BaseException.__getattribute__"))),
  decide (PySem.W.findIn K (.ref (He.ga K "WrongValue")) "__getattr__" = some none),
  decide (PySem.W.subIn K (.ref (He.ga K "WrongValue")) (.type "BaseException") = some true),
  PySem.W.hasDictIn K (He.ga K "WrongValue"),
  decide (PySem.W.findIn K (.ref (He.ga K "WrongValue")) "__class__" = some (some (.builtin "object.__class__"))),
  decide (PySem.W.specialIn K (.builtin "object.__class__") "__get__" = some (some (.builtin "getset_descriptor.__get__"))),
  decide (PySem.W.takesIn K (.builtin "object.__class__") = some true),
  decide (PySem.W.mroIn K (He.ga K "WrongValue") (.type "object") = some true),
  decide (PySem.W.findIn K (.ref (He.ga K "WrongName")) "__getattribute__" = some (some (.builtin "BaseException.__getattribute__"))),
  decide (PySem.W.findIn K (.ref (He.ga K "WrongName")) "__getattr__" = some none),
  decide (PySem.W.subIn K (.ref (He.ga K "WrongName")) (.type "BaseException") = some true),
  PySem.W.hasDictIn K (He.ga K "WrongName"),
  decide (PySem.W.findIn K (.ref (He.ga K "WrongName")) "__class__" = some (some (.builtin "object.__class__"))),
  decide (PySem.W.mroIn K (He.ga K "WrongName") (.type "object") = some true),
  decide (PySem.W.findIn K (.ref (He.ga K "NoAnswer")) "__getattribute__" = some (some (.builtin "BaseException.__getattribute__"))),
  decide (PySem.W.findIn K (.ref (He.ga K "NoAnswer")) "__getattr__" = some none),
  decide (PySem.W.subIn K (.ref (He.ga K "NoAnswer")) (.type "BaseException") = some true),
  PySem.W.hasDictIn K (He.ga K "NoAnswer"),
  decide (PySem.W.findIn K (.ref (He.ga K "NoAnswer")) "__class__" = some (some (.builtin "object.__class__"))),
  decide (PySem.W.mroIn K (He.ga K "NoAnswer") (.type "object") = some true),
  decide (PySem.W.nsIn K mainGlobals "WrongValue" = some (some (.ref (He.ga K "WrongValue")))),
  decide (PySem.W.nsIn K mainGlobals "ValueError" = some none),
  decide (PySem.W.nsIn K mainGlobals "LookupError" = some none),
  decide (PySem.W.nsIn K mainGlobals "ArithmeticError" = some none),
  decide (PySem.W.kitOne K (.ref (He.ga K "WrongValue")) (.type "ValueError") = some true),
  decide (PySem.W.kitOne K (.ref (He.ga K "WrongName")) (.type "LookupError") = some true),
  decide (PySem.W.kitOne K (.ref (He.ga K "NoAnswer")) (.type "ArithmeticError") = some true),
  decide (PySem.W.kitOne K (.ref (He.ga K "NoAnswer")) (.ref (He.ga K "WrongValue")) = some false),
  PySem.W.excIn K (He.ga K "WrongValue") [.type "ValueError", .type "Exception", .type "BaseException", .type "object"] "ValueError.__new__",
  PySem.W.keepIn K (.ref (He.ga K "WrongValue")),
  decide (PySem.W.typeIn K (.ref (He.ga K "WrongValue")) = some (.type "type")),
  PySem.W.excIn K (He.ga K "WrongName") [.type "LookupError", .type "Exception", .type "BaseException", .type "object"] "LookupError.__new__",
  decide (PySem.W.nsIn K mainGlobals "WrongName" = some (some (.ref (He.ga K "WrongName")))),
  PySem.W.keepIn K (.ref (He.ga K "WrongName")),
  decide (PySem.W.typeIn K (.ref (He.ga K "WrongName")) = some (.type "type")),
  PySem.W.excIn K (He.ga K "NoAnswer") [.type "ArithmeticError", .type "Exception", .type "BaseException", .type "object"] "ArithmeticError.__new__",
  decide (PySem.W.nsIn K mainGlobals "NoAnswer" = some (some (.ref (He.ga K "NoAnswer")))),
  PySem.W.keepIn K (.ref (He.ga K "NoAnswer")),
  decide (PySem.W.typeIn K (.ref (He.ga K "NoAnswer")) = some (.type "type")),
  decide (PySem.W.nsIn K mainGlobals "_law_spring" = some (some (.ref (He.ga K "_law_spring")))),
  ecChk K [He.ga K "InvalidCloth", He.ga K "InvalidMove", He.ga K "InvalidText", He.ga K "InvalidName", He.ga K "InvalidNumber", He.ga K "InvalidPlace", He.ga K "InvalidWish", He.ga K "NotAScript", He.ga K "InvalidRows", He.ga K "InvalidStanding", He.ga K "InvalidSeen", He.ga K "InvalidExchanges", He.ga K "InvalidWishes", He.ga K "UnknownName", He.ga K "InUse", He.ga K "Unknown", He.ga K "TooFew", He.ga K "TooMany", He.ga K "Broken", He.ga K "NothingToUndo"] (He.ga K "WrongValue") (He.ga K "WrongName") (He.ga K "NoAnswer") (He.ga K "InvalidCloth") 0,
  decide (PySem.W.findIn K (.ref (He.ga K "InvalidCloth")) "__getattribute__" = some (some (.builtin "BaseException.__getattribute__"))),
  decide (PySem.W.findIn K (.ref (He.ga K "InvalidCloth")) "__getattr__" = some none),
  decide (PySem.W.subIn K (.ref (He.ga K "InvalidCloth")) (.type "BaseException") = some true),
  PySem.W.hasDictIn K (He.ga K "InvalidCloth"),
  decide (PySem.W.findIn K (.ref (He.ga K "InvalidCloth")) "__class__" = some (some (.builtin "object.__class__"))),
  decide (PySem.W.mroIn K (He.ga K "InvalidCloth") (.type "object") = some true),
  decide (PySem.W.nsIn K mainGlobals "InvalidCloth" = some (some (.ref (He.ga K "InvalidCloth")))),
  decide (PySem.W.nsIn K mainGlobals "InvalidMove" = some (some (.ref (He.ga K "InvalidMove")))),
  decide (PySem.W.nsIn K mainGlobals "InvalidText" = some (some (.ref (He.ga K "InvalidText")))),
  decide (PySem.W.nsIn K mainGlobals "InvalidName" = some (some (.ref (He.ga K "InvalidName")))),
  decide (PySem.W.nsIn K mainGlobals "InvalidNumber" = some (some (.ref (He.ga K "InvalidNumber")))),
  decide (PySem.W.nsIn K mainGlobals "InvalidPlace" = some (some (.ref (He.ga K "InvalidPlace")))),
  decide (PySem.W.nsIn K mainGlobals "InvalidWish" = some (some (.ref (He.ga K "InvalidWish")))),
  decide (PySem.W.nsIn K mainGlobals "NotAScript" = some (some (.ref (He.ga K "NotAScript")))),
  decide (PySem.W.nsIn K mainGlobals "InvalidRows" = some (some (.ref (He.ga K "InvalidRows")))),
  decide (PySem.W.nsIn K mainGlobals "InvalidStanding" = some (some (.ref (He.ga K "InvalidStanding")))),
  decide (PySem.W.nsIn K mainGlobals "InvalidSeen" = some (some (.ref (He.ga K "InvalidSeen")))),
  decide (PySem.W.nsIn K mainGlobals "InvalidExchanges" = some (some (.ref (He.ga K "InvalidExchanges")))),
  decide (PySem.W.nsIn K mainGlobals "InvalidWishes" = some (some (.ref (He.ga K "InvalidWishes")))),
  decide (PySem.W.nsIn K mainGlobals "UnknownName" = some (some (.ref (He.ga K "UnknownName")))),
  decide (PySem.W.nsIn K mainGlobals "InUse" = some (some (.ref (He.ga K "InUse")))),
  decide (PySem.W.nsIn K mainGlobals "Unknown" = some (some (.ref (He.ga K "Unknown")))),
  decide (PySem.W.nsIn K mainGlobals "TooFew" = some (some (.ref (He.ga K "TooFew")))),
  decide (PySem.W.nsIn K mainGlobals "TooMany" = some (some (.ref (He.ga K "TooMany")))),
  decide (PySem.W.nsIn K mainGlobals "Broken" = some (some (.ref (He.ga K "Broken")))),
  decide (PySem.W.nsIn K mainGlobals "NothingToUndo" = some (some (.ref (He.ga K "NothingToUndo")))),
  decide (PySem.W.findIn K (.ref (He.ga K "InvalidCloth")) "given" = some none),
  decide (PySem.W.findIn K (.ref (He.ga K "InvalidCloth")) "index" = some none),
  ecChk K [He.ga K "InvalidCloth", He.ga K "InvalidMove", He.ga K "InvalidText", He.ga K "InvalidName", He.ga K "InvalidNumber", He.ga K "InvalidPlace", He.ga K "InvalidWish", He.ga K "NotAScript", He.ga K "InvalidRows", He.ga K "InvalidStanding", He.ga K "InvalidSeen", He.ga K "InvalidExchanges", He.ga K "InvalidWishes", He.ga K "UnknownName", He.ga K "InUse", He.ga K "Unknown", He.ga K "TooFew", He.ga K "TooMany", He.ga K "Broken", He.ga K "NothingToUndo"] (He.ga K "WrongValue") (He.ga K "WrongName") (He.ga K "NoAnswer") (He.ga K "InvalidMove") 1,
  decide (PySem.W.findIn K (.ref (He.ga K "InvalidMove")) "__getattribute__" = some (some (.builtin "BaseException.__getattribute__"))),
  decide (PySem.W.findIn K (.ref (He.ga K "InvalidMove")) "__getattr__" = some none),
  decide (PySem.W.subIn K (.ref (He.ga K "InvalidMove")) (.type "BaseException") = some true),
  PySem.W.hasDictIn K (He.ga K "InvalidMove"),
  decide (PySem.W.findIn K (.ref (He.ga K "InvalidMove")) "__class__" = some (some (.builtin "object.__class__"))),
  decide (PySem.W.mroIn K (He.ga K "InvalidMove") (.type "object") = some true),
  decide (PySem.W.findIn K (.ref (He.ga K "InvalidMove")) "given" = some none),
  decide (PySem.W.findIn K (.ref (He.ga K "InvalidMove")) "index" = some none),
  ecChk K [He.ga K "InvalidCloth", He.ga K "InvalidMove", He.ga K "InvalidText", He.ga K "InvalidName", He.ga K "InvalidNumber", He.ga K "InvalidPlace", He.ga K "InvalidWish", He.ga K "NotAScript", He.ga K "InvalidRows", He.ga K "InvalidStanding", He.ga K "InvalidSeen", He.ga K "InvalidExchanges", He.ga K "InvalidWishes", He.ga K "UnknownName", He.ga K "InUse", He.ga K "Unknown", He.ga K "TooFew", He.ga K "TooMany", He.ga K "Broken", He.ga K "NothingToUndo"] (He.ga K "WrongValue") (He.ga K "WrongName") (He.ga K "NoAnswer") (He.ga K "InvalidText") 2,
  decide (PySem.W.findIn K (.ref (He.ga K "InvalidText")) "__getattribute__" = some (some (.builtin "BaseException.__getattribute__"))),
  decide (PySem.W.findIn K (.ref (He.ga K "InvalidText")) "__getattr__" = some none),
  decide (PySem.W.subIn K (.ref (He.ga K "InvalidText")) (.type "BaseException") = some true),
  PySem.W.hasDictIn K (He.ga K "InvalidText"),
  decide (PySem.W.findIn K (.ref (He.ga K "InvalidText")) "__class__" = some (some (.builtin "object.__class__"))),
  decide (PySem.W.mroIn K (He.ga K "InvalidText") (.type "object") = some true),
  decide (PySem.W.findIn K (.ref (He.ga K "InvalidText")) "given" = some none),
  decide (PySem.W.findIn K (.ref (He.ga K "InvalidText")) "index" = some none),
  ecChk K [He.ga K "InvalidCloth", He.ga K "InvalidMove", He.ga K "InvalidText", He.ga K "InvalidName", He.ga K "InvalidNumber", He.ga K "InvalidPlace", He.ga K "InvalidWish", He.ga K "NotAScript", He.ga K "InvalidRows", He.ga K "InvalidStanding", He.ga K "InvalidSeen", He.ga K "InvalidExchanges", He.ga K "InvalidWishes", He.ga K "UnknownName", He.ga K "InUse", He.ga K "Unknown", He.ga K "TooFew", He.ga K "TooMany", He.ga K "Broken", He.ga K "NothingToUndo"] (He.ga K "WrongValue") (He.ga K "WrongName") (He.ga K "NoAnswer") (He.ga K "InvalidName") 3,
  decide (PySem.W.findIn K (.ref (He.ga K "InvalidName")) "__getattribute__" = some (some (.builtin "BaseException.__getattribute__"))),
  decide (PySem.W.findIn K (.ref (He.ga K "InvalidName")) "__getattr__" = some none),
  decide (PySem.W.subIn K (.ref (He.ga K "InvalidName")) (.type "BaseException") = some true),
  PySem.W.hasDictIn K (He.ga K "InvalidName"),
  decide (PySem.W.findIn K (.ref (He.ga K "InvalidName")) "__class__" = some (some (.builtin "object.__class__"))),
  decide (PySem.W.mroIn K (He.ga K "InvalidName") (.type "object") = some true),
  decide (PySem.W.findIn K (.ref (He.ga K "InvalidName")) "given" = some none),
  decide (PySem.W.findIn K (.ref (He.ga K "InvalidName")) "index" = some none),
  ecChk K [He.ga K "InvalidCloth", He.ga K "InvalidMove", He.ga K "InvalidText", He.ga K "InvalidName", He.ga K "InvalidNumber", He.ga K "InvalidPlace", He.ga K "InvalidWish", He.ga K "NotAScript", He.ga K "InvalidRows", He.ga K "InvalidStanding", He.ga K "InvalidSeen", He.ga K "InvalidExchanges", He.ga K "InvalidWishes", He.ga K "UnknownName", He.ga K "InUse", He.ga K "Unknown", He.ga K "TooFew", He.ga K "TooMany", He.ga K "Broken", He.ga K "NothingToUndo"] (He.ga K "WrongValue") (He.ga K "WrongName") (He.ga K "NoAnswer") (He.ga K "InvalidNumber") 4,
  decide (PySem.W.findIn K (.ref (He.ga K "InvalidNumber")) "__getattribute__" = some (some (.builtin "BaseException.__getattribute__"))),
  decide (PySem.W.findIn K (.ref (He.ga K "InvalidNumber")) "__getattr__" = some none),
  decide (PySem.W.subIn K (.ref (He.ga K "InvalidNumber")) (.type "BaseException") = some true),
  PySem.W.hasDictIn K (He.ga K "InvalidNumber"),
  decide (PySem.W.findIn K (.ref (He.ga K "InvalidNumber")) "__class__" = some (some (.builtin "object.__class__"))),
  decide (PySem.W.mroIn K (He.ga K "InvalidNumber") (.type "object") = some true),
  decide (PySem.W.findIn K (.ref (He.ga K "InvalidNumber")) "given" = some none),
  decide (PySem.W.findIn K (.ref (He.ga K "InvalidNumber")) "index" = some none),
  ecChk K [He.ga K "InvalidCloth", He.ga K "InvalidMove", He.ga K "InvalidText", He.ga K "InvalidName", He.ga K "InvalidNumber", He.ga K "InvalidPlace", He.ga K "InvalidWish", He.ga K "NotAScript", He.ga K "InvalidRows", He.ga K "InvalidStanding", He.ga K "InvalidSeen", He.ga K "InvalidExchanges", He.ga K "InvalidWishes", He.ga K "UnknownName", He.ga K "InUse", He.ga K "Unknown", He.ga K "TooFew", He.ga K "TooMany", He.ga K "Broken", He.ga K "NothingToUndo"] (He.ga K "WrongValue") (He.ga K "WrongName") (He.ga K "NoAnswer") (He.ga K "InvalidPlace") 5,
  decide (PySem.W.findIn K (.ref (He.ga K "InvalidPlace")) "__getattribute__" = some (some (.builtin "BaseException.__getattribute__"))),
  decide (PySem.W.findIn K (.ref (He.ga K "InvalidPlace")) "__getattr__" = some none),
  decide (PySem.W.subIn K (.ref (He.ga K "InvalidPlace")) (.type "BaseException") = some true),
  PySem.W.hasDictIn K (He.ga K "InvalidPlace"),
  decide (PySem.W.findIn K (.ref (He.ga K "InvalidPlace")) "__class__" = some (some (.builtin "object.__class__"))),
  decide (PySem.W.mroIn K (He.ga K "InvalidPlace") (.type "object") = some true),
  decide (PySem.W.findIn K (.ref (He.ga K "InvalidPlace")) "given" = some none),
  decide (PySem.W.findIn K (.ref (He.ga K "InvalidPlace")) "index" = some none),
  ecChk K [He.ga K "InvalidCloth", He.ga K "InvalidMove", He.ga K "InvalidText", He.ga K "InvalidName", He.ga K "InvalidNumber", He.ga K "InvalidPlace", He.ga K "InvalidWish", He.ga K "NotAScript", He.ga K "InvalidRows", He.ga K "InvalidStanding", He.ga K "InvalidSeen", He.ga K "InvalidExchanges", He.ga K "InvalidWishes", He.ga K "UnknownName", He.ga K "InUse", He.ga K "Unknown", He.ga K "TooFew", He.ga K "TooMany", He.ga K "Broken", He.ga K "NothingToUndo"] (He.ga K "WrongValue") (He.ga K "WrongName") (He.ga K "NoAnswer") (He.ga K "InvalidWish") 6,
  decide (PySem.W.findIn K (.ref (He.ga K "InvalidWish")) "__getattribute__" = some (some (.builtin "BaseException.__getattribute__"))),
  decide (PySem.W.findIn K (.ref (He.ga K "InvalidWish")) "__getattr__" = some none),
  decide (PySem.W.subIn K (.ref (He.ga K "InvalidWish")) (.type "BaseException") = some true),
  PySem.W.hasDictIn K (He.ga K "InvalidWish"),
  decide (PySem.W.findIn K (.ref (He.ga K "InvalidWish")) "__class__" = some (some (.builtin "object.__class__"))),
  decide (PySem.W.mroIn K (He.ga K "InvalidWish") (.type "object") = some true),
  decide (PySem.W.findIn K (.ref (He.ga K "InvalidWish")) "given" = some none),
  decide (PySem.W.findIn K (.ref (He.ga K "InvalidWish")) "index" = some none),
  ecChk K [He.ga K "InvalidCloth", He.ga K "InvalidMove", He.ga K "InvalidText", He.ga K "InvalidName", He.ga K "InvalidNumber", He.ga K "InvalidPlace", He.ga K "InvalidWish", He.ga K "NotAScript", He.ga K "InvalidRows", He.ga K "InvalidStanding", He.ga K "InvalidSeen", He.ga K "InvalidExchanges", He.ga K "InvalidWishes", He.ga K "UnknownName", He.ga K "InUse", He.ga K "Unknown", He.ga K "TooFew", He.ga K "TooMany", He.ga K "Broken", He.ga K "NothingToUndo"] (He.ga K "WrongValue") (He.ga K "WrongName") (He.ga K "NoAnswer") (He.ga K "NotAScript") 7,
  decide (PySem.W.findIn K (.ref (He.ga K "NotAScript")) "__getattribute__" = some (some (.builtin "BaseException.__getattribute__"))),
  decide (PySem.W.findIn K (.ref (He.ga K "NotAScript")) "__getattr__" = some none),
  decide (PySem.W.subIn K (.ref (He.ga K "NotAScript")) (.type "BaseException") = some true),
  PySem.W.hasDictIn K (He.ga K "NotAScript"),
  decide (PySem.W.findIn K (.ref (He.ga K "NotAScript")) "__class__" = some (some (.builtin "object.__class__"))),
  decide (PySem.W.mroIn K (He.ga K "NotAScript") (.type "object") = some true),
  decide (PySem.W.findIn K (.ref (He.ga K "NotAScript")) "given" = some none),
  decide (PySem.W.findIn K (.ref (He.ga K "NotAScript")) "index" = some none),
  ecChk K [He.ga K "InvalidCloth", He.ga K "InvalidMove", He.ga K "InvalidText", He.ga K "InvalidName", He.ga K "InvalidNumber", He.ga K "InvalidPlace", He.ga K "InvalidWish", He.ga K "NotAScript", He.ga K "InvalidRows", He.ga K "InvalidStanding", He.ga K "InvalidSeen", He.ga K "InvalidExchanges", He.ga K "InvalidWishes", He.ga K "UnknownName", He.ga K "InUse", He.ga K "Unknown", He.ga K "TooFew", He.ga K "TooMany", He.ga K "Broken", He.ga K "NothingToUndo"] (He.ga K "WrongValue") (He.ga K "WrongName") (He.ga K "NoAnswer") (He.ga K "InvalidRows") 8,
  decide (PySem.W.findIn K (.ref (He.ga K "InvalidRows")) "__getattribute__" = some (some (.builtin "BaseException.__getattribute__"))),
  decide (PySem.W.findIn K (.ref (He.ga K "InvalidRows")) "__getattr__" = some none),
  decide (PySem.W.subIn K (.ref (He.ga K "InvalidRows")) (.type "BaseException") = some true),
  PySem.W.hasDictIn K (He.ga K "InvalidRows"),
  decide (PySem.W.findIn K (.ref (He.ga K "InvalidRows")) "__class__" = some (some (.builtin "object.__class__"))),
  decide (PySem.W.mroIn K (He.ga K "InvalidRows") (.type "object") = some true),
  decide (PySem.W.findIn K (.ref (He.ga K "InvalidRows")) "given" = some none),
  decide (PySem.W.findIn K (.ref (He.ga K "InvalidRows")) "index" = some none),
  ecChk K [He.ga K "InvalidCloth", He.ga K "InvalidMove", He.ga K "InvalidText", He.ga K "InvalidName", He.ga K "InvalidNumber", He.ga K "InvalidPlace", He.ga K "InvalidWish", He.ga K "NotAScript", He.ga K "InvalidRows", He.ga K "InvalidStanding", He.ga K "InvalidSeen", He.ga K "InvalidExchanges", He.ga K "InvalidWishes", He.ga K "UnknownName", He.ga K "InUse", He.ga K "Unknown", He.ga K "TooFew", He.ga K "TooMany", He.ga K "Broken", He.ga K "NothingToUndo"] (He.ga K "WrongValue") (He.ga K "WrongName") (He.ga K "NoAnswer") (He.ga K "InvalidStanding") 9,
  decide (PySem.W.findIn K (.ref (He.ga K "InvalidStanding")) "__getattribute__" = some (some (.builtin "BaseException.__getattribute__"))),
  decide (PySem.W.findIn K (.ref (He.ga K "InvalidStanding")) "__getattr__" = some none),
  decide (PySem.W.subIn K (.ref (He.ga K "InvalidStanding")) (.type "BaseException") = some true),
  PySem.W.hasDictIn K (He.ga K "InvalidStanding"),
  decide (PySem.W.findIn K (.ref (He.ga K "InvalidStanding")) "__class__" = some (some (.builtin "object.__class__"))),
  decide (PySem.W.mroIn K (He.ga K "InvalidStanding") (.type "object") = some true),
  decide (PySem.W.findIn K (.ref (He.ga K "InvalidStanding")) "given" = some none),
  decide (PySem.W.findIn K (.ref (He.ga K "InvalidStanding")) "index" = some none),
  ecChk K [He.ga K "InvalidCloth", He.ga K "InvalidMove", He.ga K "InvalidText", He.ga K "InvalidName", He.ga K "InvalidNumber", He.ga K "InvalidPlace", He.ga K "InvalidWish", He.ga K "NotAScript", He.ga K "InvalidRows", He.ga K "InvalidStanding", He.ga K "InvalidSeen", He.ga K "InvalidExchanges", He.ga K "InvalidWishes", He.ga K "UnknownName", He.ga K "InUse", He.ga K "Unknown", He.ga K "TooFew", He.ga K "TooMany", He.ga K "Broken", He.ga K "NothingToUndo"] (He.ga K "WrongValue") (He.ga K "WrongName") (He.ga K "NoAnswer") (He.ga K "InvalidSeen") 10,
  decide (PySem.W.findIn K (.ref (He.ga K "InvalidSeen")) "__getattribute__" = some (some (.builtin "BaseException.__getattribute__"))),
  decide (PySem.W.findIn K (.ref (He.ga K "InvalidSeen")) "__getattr__" = some none),
  decide (PySem.W.subIn K (.ref (He.ga K "InvalidSeen")) (.type "BaseException") = some true),
  PySem.W.hasDictIn K (He.ga K "InvalidSeen"),
  decide (PySem.W.findIn K (.ref (He.ga K "InvalidSeen")) "__class__" = some (some (.builtin "object.__class__"))),
  decide (PySem.W.mroIn K (He.ga K "InvalidSeen") (.type "object") = some true),
  decide (PySem.W.findIn K (.ref (He.ga K "InvalidSeen")) "given" = some none),
  decide (PySem.W.findIn K (.ref (He.ga K "InvalidSeen")) "index" = some none),
  ecChk K [He.ga K "InvalidCloth", He.ga K "InvalidMove", He.ga K "InvalidText", He.ga K "InvalidName", He.ga K "InvalidNumber", He.ga K "InvalidPlace", He.ga K "InvalidWish", He.ga K "NotAScript", He.ga K "InvalidRows", He.ga K "InvalidStanding", He.ga K "InvalidSeen", He.ga K "InvalidExchanges", He.ga K "InvalidWishes", He.ga K "UnknownName", He.ga K "InUse", He.ga K "Unknown", He.ga K "TooFew", He.ga K "TooMany", He.ga K "Broken", He.ga K "NothingToUndo"] (He.ga K "WrongValue") (He.ga K "WrongName") (He.ga K "NoAnswer") (He.ga K "InvalidExchanges") 11,
  decide (PySem.W.findIn K (.ref (He.ga K "InvalidExchanges")) "__getattribute__" = some (some (.builtin "BaseException.__getattribute__"))),
  decide (PySem.W.findIn K (.ref (He.ga K "InvalidExchanges")) "__getattr__" = some none),
  decide (PySem.W.subIn K (.ref (He.ga K "InvalidExchanges")) (.type "BaseException") = some true),
  PySem.W.hasDictIn K (He.ga K "InvalidExchanges"),
  decide (PySem.W.findIn K (.ref (He.ga K "InvalidExchanges")) "__class__" = some (some (.builtin "object.__class__"))),
  decide (PySem.W.mroIn K (He.ga K "InvalidExchanges") (.type "object") = some true),
  decide (PySem.W.findIn K (.ref (He.ga K "InvalidExchanges")) "given" = some none),
  decide (PySem.W.findIn K (.ref (He.ga K "InvalidExchanges")) "index" = some none),
  ecChk K [He.ga K "InvalidCloth", He.ga K "InvalidMove", He.ga K "InvalidText", He.ga K "InvalidName", He.ga K "InvalidNumber", He.ga K "InvalidPlace", He.ga K "InvalidWish", He.ga K "NotAScript", He.ga K "InvalidRows", He.ga K "InvalidStanding", He.ga K "InvalidSeen", He.ga K "InvalidExchanges", He.ga K "InvalidWishes", He.ga K "UnknownName", He.ga K "InUse", He.ga K "Unknown", He.ga K "TooFew", He.ga K "TooMany", He.ga K "Broken", He.ga K "NothingToUndo"] (He.ga K "WrongValue") (He.ga K "WrongName") (He.ga K "NoAnswer") (He.ga K "InvalidWishes") 12,
  decide (PySem.W.findIn K (.ref (He.ga K "InvalidWishes")) "__getattribute__" = some (some (.builtin "BaseException.__getattribute__"))),
  decide (PySem.W.findIn K (.ref (He.ga K "InvalidWishes")) "__getattr__" = some none),
  decide (PySem.W.subIn K (.ref (He.ga K "InvalidWishes")) (.type "BaseException") = some true),
  PySem.W.hasDictIn K (He.ga K "InvalidWishes"),
  decide (PySem.W.findIn K (.ref (He.ga K "InvalidWishes")) "__class__" = some (some (.builtin "object.__class__"))),
  decide (PySem.W.mroIn K (He.ga K "InvalidWishes") (.type "object") = some true),
  decide (PySem.W.findIn K (.ref (He.ga K "InvalidWishes")) "given" = some none),
  decide (PySem.W.findIn K (.ref (He.ga K "InvalidWishes")) "index" = some none),
  ecChk K [He.ga K "InvalidCloth", He.ga K "InvalidMove", He.ga K "InvalidText", He.ga K "InvalidName", He.ga K "InvalidNumber", He.ga K "InvalidPlace", He.ga K "InvalidWish", He.ga K "NotAScript", He.ga K "InvalidRows", He.ga K "InvalidStanding", He.ga K "InvalidSeen", He.ga K "InvalidExchanges", He.ga K "InvalidWishes", He.ga K "UnknownName", He.ga K "InUse", He.ga K "Unknown", He.ga K "TooFew", He.ga K "TooMany", He.ga K "Broken", He.ga K "NothingToUndo"] (He.ga K "WrongValue") (He.ga K "WrongName") (He.ga K "NoAnswer") (He.ga K "UnknownName") 13,
  decide (PySem.W.findIn K (.ref (He.ga K "UnknownName")) "__getattribute__" = some (some (.builtin "BaseException.__getattribute__"))),
  decide (PySem.W.findIn K (.ref (He.ga K "UnknownName")) "__getattr__" = some none),
  decide (PySem.W.subIn K (.ref (He.ga K "UnknownName")) (.type "BaseException") = some true),
  PySem.W.hasDictIn K (He.ga K "UnknownName"),
  decide (PySem.W.findIn K (.ref (He.ga K "UnknownName")) "__class__" = some (some (.builtin "object.__class__"))),
  decide (PySem.W.mroIn K (He.ga K "UnknownName") (.type "object") = some true),
  decide (PySem.W.findIn K (.ref (He.ga K "UnknownName")) "given" = some none),
  decide (PySem.W.findIn K (.ref (He.ga K "UnknownName")) "index" = some none),
  ecChk K [He.ga K "InvalidCloth", He.ga K "InvalidMove", He.ga K "InvalidText", He.ga K "InvalidName", He.ga K "InvalidNumber", He.ga K "InvalidPlace", He.ga K "InvalidWish", He.ga K "NotAScript", He.ga K "InvalidRows", He.ga K "InvalidStanding", He.ga K "InvalidSeen", He.ga K "InvalidExchanges", He.ga K "InvalidWishes", He.ga K "UnknownName", He.ga K "InUse", He.ga K "Unknown", He.ga K "TooFew", He.ga K "TooMany", He.ga K "Broken", He.ga K "NothingToUndo"] (He.ga K "WrongValue") (He.ga K "WrongName") (He.ga K "NoAnswer") (He.ga K "InUse") 14,
  decide (PySem.W.findIn K (.ref (He.ga K "InUse")) "__getattribute__" = some (some (.builtin "BaseException.__getattribute__"))),
  decide (PySem.W.findIn K (.ref (He.ga K "InUse")) "__getattr__" = some none),
  decide (PySem.W.subIn K (.ref (He.ga K "InUse")) (.type "BaseException") = some true),
  PySem.W.hasDictIn K (He.ga K "InUse"),
  decide (PySem.W.findIn K (.ref (He.ga K "InUse")) "__class__" = some (some (.builtin "object.__class__"))),
  decide (PySem.W.mroIn K (He.ga K "InUse") (.type "object") = some true),
  decide (PySem.W.findIn K (.ref (He.ga K "InUse")) "given" = some none),
  decide (PySem.W.findIn K (.ref (He.ga K "InUse")) "index" = some none),
  ecChk K [He.ga K "InvalidCloth", He.ga K "InvalidMove", He.ga K "InvalidText", He.ga K "InvalidName", He.ga K "InvalidNumber", He.ga K "InvalidPlace", He.ga K "InvalidWish", He.ga K "NotAScript", He.ga K "InvalidRows", He.ga K "InvalidStanding", He.ga K "InvalidSeen", He.ga K "InvalidExchanges", He.ga K "InvalidWishes", He.ga K "UnknownName", He.ga K "InUse", He.ga K "Unknown", He.ga K "TooFew", He.ga K "TooMany", He.ga K "Broken", He.ga K "NothingToUndo"] (He.ga K "WrongValue") (He.ga K "WrongName") (He.ga K "NoAnswer") (He.ga K "Unknown") 15,
  decide (PySem.W.findIn K (.ref (He.ga K "Unknown")) "__getattribute__" = some (some (.builtin "BaseException.__getattribute__"))),
  decide (PySem.W.findIn K (.ref (He.ga K "Unknown")) "__getattr__" = some none),
  decide (PySem.W.subIn K (.ref (He.ga K "Unknown")) (.type "BaseException") = some true),
  PySem.W.hasDictIn K (He.ga K "Unknown"),
  decide (PySem.W.findIn K (.ref (He.ga K "Unknown")) "__class__" = some (some (.builtin "object.__class__"))),
  decide (PySem.W.mroIn K (He.ga K "Unknown") (.type "object") = some true),
  decide (PySem.W.findIn K (.ref (He.ga K "Unknown")) "given" = some none),
  decide (PySem.W.findIn K (.ref (He.ga K "Unknown")) "index" = some none),
  ecChk K [He.ga K "InvalidCloth", He.ga K "InvalidMove", He.ga K "InvalidText", He.ga K "InvalidName", He.ga K "InvalidNumber", He.ga K "InvalidPlace", He.ga K "InvalidWish", He.ga K "NotAScript", He.ga K "InvalidRows", He.ga K "InvalidStanding", He.ga K "InvalidSeen", He.ga K "InvalidExchanges", He.ga K "InvalidWishes", He.ga K "UnknownName", He.ga K "InUse", He.ga K "Unknown", He.ga K "TooFew", He.ga K "TooMany", He.ga K "Broken", He.ga K "NothingToUndo"] (He.ga K "WrongValue") (He.ga K "WrongName") (He.ga K "NoAnswer") (He.ga K "TooFew") 16,
  decide (PySem.W.findIn K (.ref (He.ga K "TooFew")) "__getattribute__" = some (some (.builtin "BaseException.__getattribute__"))),
  decide (PySem.W.findIn K (.ref (He.ga K "TooFew")) "__getattr__" = some none),
  decide (PySem.W.subIn K (.ref (He.ga K "TooFew")) (.type "BaseException") = some true),
  PySem.W.hasDictIn K (He.ga K "TooFew"),
  decide (PySem.W.findIn K (.ref (He.ga K "TooFew")) "__class__" = some (some (.builtin "object.__class__"))),
  decide (PySem.W.mroIn K (He.ga K "TooFew") (.type "object") = some true),
  decide (PySem.W.findIn K (.ref (He.ga K "TooFew")) "given" = some none),
  decide (PySem.W.findIn K (.ref (He.ga K "TooFew")) "index" = some none),
  ecChk K [He.ga K "InvalidCloth", He.ga K "InvalidMove", He.ga K "InvalidText", He.ga K "InvalidName", He.ga K "InvalidNumber", He.ga K "InvalidPlace", He.ga K "InvalidWish", He.ga K "NotAScript", He.ga K "InvalidRows", He.ga K "InvalidStanding", He.ga K "InvalidSeen", He.ga K "InvalidExchanges", He.ga K "InvalidWishes", He.ga K "UnknownName", He.ga K "InUse", He.ga K "Unknown", He.ga K "TooFew", He.ga K "TooMany", He.ga K "Broken", He.ga K "NothingToUndo"] (He.ga K "WrongValue") (He.ga K "WrongName") (He.ga K "NoAnswer") (He.ga K "TooMany") 17,
  decide (PySem.W.findIn K (.ref (He.ga K "TooMany")) "__getattribute__" = some (some (.builtin "BaseException.__getattribute__"))),
  decide (PySem.W.findIn K (.ref (He.ga K "TooMany")) "__getattr__" = some none),
  decide (PySem.W.subIn K (.ref (He.ga K "TooMany")) (.type "BaseException") = some true),
  PySem.W.hasDictIn K (He.ga K "TooMany"),
  decide (PySem.W.findIn K (.ref (He.ga K "TooMany")) "__class__" = some (some (.builtin "object.__class__"))),
  decide (PySem.W.mroIn K (He.ga K "TooMany") (.type "object") = some true),
  decide (PySem.W.findIn K (.ref (He.ga K "TooMany")) "given" = some none),
  decide (PySem.W.findIn K (.ref (He.ga K "TooMany")) "index" = some none),
  ecChk K [He.ga K "InvalidCloth", He.ga K "InvalidMove", He.ga K "InvalidText", He.ga K "InvalidName", He.ga K "InvalidNumber", He.ga K "InvalidPlace", He.ga K "InvalidWish", He.ga K "NotAScript", He.ga K "InvalidRows", He.ga K "InvalidStanding", He.ga K "InvalidSeen", He.ga K "InvalidExchanges", He.ga K "InvalidWishes", He.ga K "UnknownName", He.ga K "InUse", He.ga K "Unknown", He.ga K "TooFew", He.ga K "TooMany", He.ga K "Broken", He.ga K "NothingToUndo"] (He.ga K "WrongValue") (He.ga K "WrongName") (He.ga K "NoAnswer") (He.ga K "Broken") 18,
  decide (PySem.W.findIn K (.ref (He.ga K "Broken")) "__getattribute__" = some (some (.builtin "BaseException.__getattribute__"))),
  decide (PySem.W.findIn K (.ref (He.ga K "Broken")) "__getattr__" = some none),
  decide (PySem.W.subIn K (.ref (He.ga K "Broken")) (.type "BaseException") = some true),
  PySem.W.hasDictIn K (He.ga K "Broken"),
  decide (PySem.W.findIn K (.ref (He.ga K "Broken")) "__class__" = some (some (.builtin "object.__class__"))),
  decide (PySem.W.mroIn K (He.ga K "Broken") (.type "object") = some true),
  decide (PySem.W.findIn K (.ref (He.ga K "Broken")) "given" = some none),
  decide (PySem.W.findIn K (.ref (He.ga K "Broken")) "index" = some none),
  ecChk K [He.ga K "InvalidCloth", He.ga K "InvalidMove", He.ga K "InvalidText", He.ga K "InvalidName", He.ga K "InvalidNumber", He.ga K "InvalidPlace", He.ga K "InvalidWish", He.ga K "NotAScript", He.ga K "InvalidRows", He.ga K "InvalidStanding", He.ga K "InvalidSeen", He.ga K "InvalidExchanges", He.ga K "InvalidWishes", He.ga K "UnknownName", He.ga K "InUse", He.ga K "Unknown", He.ga K "TooFew", He.ga K "TooMany", He.ga K "Broken", He.ga K "NothingToUndo"] (He.ga K "WrongValue") (He.ga K "WrongName") (He.ga K "NoAnswer") (He.ga K "NothingToUndo") 19,
  decide (PySem.W.findIn K (.ref (He.ga K "NothingToUndo")) "__getattribute__" = some (some (.builtin "BaseException.__getattribute__"))),
  decide (PySem.W.findIn K (.ref (He.ga K "NothingToUndo")) "__getattr__" = some none),
  decide (PySem.W.subIn K (.ref (He.ga K "NothingToUndo")) (.type "BaseException") = some true),
  PySem.W.hasDictIn K (He.ga K "NothingToUndo"),
  decide (PySem.W.findIn K (.ref (He.ga K "NothingToUndo")) "__class__" = some (some (.builtin "object.__class__"))),
  decide (PySem.W.mroIn K (He.ga K "NothingToUndo") (.type "object") = some true),
  decide (PySem.W.findIn K (.ref (He.ga K "NothingToUndo")) "given" = some none),
  decide (PySem.W.findIn K (.ref (He.ga K "NothingToUndo")) "index" = some none),
  clsB K (He.ga K "Broken") "ArithmeticError.__new__" [.type "ArithmeticError", .type "Exception", .type "BaseException", .type "object"],
  PySem.W.excOver K (He.ga K "Broken") [.type "ArithmeticError", .type "Exception", .type "BaseException", .type "object"],
  decide (PySem.W.findIn K (.ref (He.ga K "Broken")) "__setattr__" = some (some (.builtin "object.__setattr__"))),
  decide (PySem.W.typeIn K (.ref (He.ga K "Broken")) = some (.type "type")),
  PySem.W.keepIn K (.ref (He.ga K "Broken")),
  decide (PySem.W.findIn K (.ref (He.ga K "Broken")) "shown" = some none),
  decide (PySem.W.findIn K (.ref (He.ga K "Broken")) "__init__" = some (some (.ref (He.ma K (He.ga K "Broken") "__init__")))),
  decide (PySem.W.typeIn K (.ref (He.ma K (He.ga K "Broken") "__init__")) = some (.type "function")),
  PySem.W.excIn K (He.ga K "NothingToUndo") [.type "ArithmeticError", .type "Exception", .type "BaseException", .type "object"] "ArithmeticError.__new__",
  PySem.W.keepIn K (.ref (He.ga K "NothingToUndo")),
  decide (PySem.W.typeIn K (.ref (He.ga K "NothingToUndo")) = some (.type "type")),
  decide (PySem.W.nsIn K mainGlobals "_law_right" = some (some (.ref (He.ga K "_law_right")))),
  decide (PySem.W.nsIn K mainGlobals "_law_odd" = some (some (.ref (He.ga K "_law_odd")))),
  decide (PySem.W.nsIn K mainGlobals "_law_of" = some (some (.ref (He.ga K "_law_of")))),
  decide (PySem.W.nsIn K mainGlobals "_law_draw" = some (some (.ref (He.ga K "_law_draw")))),
  clsB K (He.ga K "InvalidCloth") "ValueError.__new__" [.type "ValueError", .type "Exception", .type "BaseException", .type "object"],
  PySem.W.excOver K (He.ga K "InvalidCloth") [.type "ValueError", .type "Exception", .type "BaseException", .type "object"],
  decide (PySem.W.findIn K (.ref (He.ga K "InvalidCloth")) "__setattr__" = some (some (.builtin "object.__setattr__"))),
  decide (PySem.W.typeIn K (.ref (He.ga K "InvalidCloth")) = some (.type "type")),
  PySem.W.keepIn K (.ref (He.ga K "InvalidCloth")),
  decide (PySem.W.findIn K (.ref (He.ga K "InvalidCloth")) "__init__" = some (some (.ref (He.ma K (He.ga K "InvalidCloth") "__init__")))),
  decide (PySem.W.typeIn K (.ref (He.ma K (He.ga K "InvalidCloth") "__init__")) = some (.type "function")),
  clsB K (He.ga K "InvalidMove") "ValueError.__new__" [.type "ValueError", .type "Exception", .type "BaseException", .type "object"],
  PySem.W.excOver K (He.ga K "InvalidMove") [.type "ValueError", .type "Exception", .type "BaseException", .type "object"],
  decide (PySem.W.findIn K (.ref (He.ga K "InvalidMove")) "__setattr__" = some (some (.builtin "object.__setattr__"))),
  decide (PySem.W.typeIn K (.ref (He.ga K "InvalidMove")) = some (.type "type")),
  PySem.W.keepIn K (.ref (He.ga K "InvalidMove")),
  decide (PySem.W.findIn K (.ref (He.ga K "InvalidMove")) "__init__" = some (some (.ref (He.ma K (He.ga K "InvalidMove") "__init__")))),
  decide (PySem.W.typeIn K (.ref (He.ma K (He.ga K "InvalidMove") "__init__")) = some (.type "function")),
  clsB K (He.ga K "InvalidText") "ValueError.__new__" [.type "ValueError", .type "Exception", .type "BaseException", .type "object"],
  PySem.W.excOver K (He.ga K "InvalidText") [.type "ValueError", .type "Exception", .type "BaseException", .type "object"],
  decide (PySem.W.findIn K (.ref (He.ga K "InvalidText")) "__setattr__" = some (some (.builtin "object.__setattr__"))),
  decide (PySem.W.typeIn K (.ref (He.ga K "InvalidText")) = some (.type "type")),
  PySem.W.keepIn K (.ref (He.ga K "InvalidText")),
  decide (PySem.W.findIn K (.ref (He.ga K "InvalidText")) "__init__" = some (some (.ref (He.ma K (He.ga K "InvalidText") "__init__")))),
  decide (PySem.W.typeIn K (.ref (He.ma K (He.ga K "InvalidText") "__init__")) = some (.type "function")),
  clsB K (He.ga K "InvalidName") "ValueError.__new__" [.type "ValueError", .type "Exception", .type "BaseException", .type "object"],
  PySem.W.excOver K (He.ga K "InvalidName") [.type "ValueError", .type "Exception", .type "BaseException", .type "object"],
  decide (PySem.W.findIn K (.ref (He.ga K "InvalidName")) "__setattr__" = some (some (.builtin "object.__setattr__"))),
  decide (PySem.W.typeIn K (.ref (He.ga K "InvalidName")) = some (.type "type")),
  PySem.W.keepIn K (.ref (He.ga K "InvalidName")),
  decide (PySem.W.findIn K (.ref (He.ga K "InvalidName")) "__init__" = some (some (.ref (He.ma K (He.ga K "InvalidName") "__init__")))),
  decide (PySem.W.typeIn K (.ref (He.ma K (He.ga K "InvalidName") "__init__")) = some (.type "function")),
  clsB K (He.ga K "InvalidNumber") "ValueError.__new__" [.type "ValueError", .type "Exception", .type "BaseException", .type "object"],
  PySem.W.excOver K (He.ga K "InvalidNumber") [.type "ValueError", .type "Exception", .type "BaseException", .type "object"],
  decide (PySem.W.findIn K (.ref (He.ga K "InvalidNumber")) "__setattr__" = some (some (.builtin "object.__setattr__"))),
  decide (PySem.W.typeIn K (.ref (He.ga K "InvalidNumber")) = some (.type "type")),
  PySem.W.keepIn K (.ref (He.ga K "InvalidNumber")),
  decide (PySem.W.findIn K (.ref (He.ga K "InvalidNumber")) "__init__" = some (some (.ref (He.ma K (He.ga K "InvalidNumber") "__init__")))),
  decide (PySem.W.typeIn K (.ref (He.ma K (He.ga K "InvalidNumber") "__init__")) = some (.type "function")),
  clsB K (He.ga K "InvalidPlace") "ValueError.__new__" [.type "ValueError", .type "Exception", .type "BaseException", .type "object"],
  PySem.W.excOver K (He.ga K "InvalidPlace") [.type "ValueError", .type "Exception", .type "BaseException", .type "object"],
  decide (PySem.W.findIn K (.ref (He.ga K "InvalidPlace")) "__setattr__" = some (some (.builtin "object.__setattr__"))),
  decide (PySem.W.typeIn K (.ref (He.ga K "InvalidPlace")) = some (.type "type")),
  PySem.W.keepIn K (.ref (He.ga K "InvalidPlace")),
  decide (PySem.W.findIn K (.ref (He.ga K "InvalidPlace")) "__init__" = some (some (.ref (He.ma K (He.ga K "InvalidPlace") "__init__")))),
  decide (PySem.W.typeIn K (.ref (He.ma K (He.ga K "InvalidPlace") "__init__")) = some (.type "function")),
  clsB K (He.ga K "InvalidWish") "ValueError.__new__" [.type "ValueError", .type "Exception", .type "BaseException", .type "object"],
  PySem.W.excOver K (He.ga K "InvalidWish") [.type "ValueError", .type "Exception", .type "BaseException", .type "object"],
  decide (PySem.W.findIn K (.ref (He.ga K "InvalidWish")) "__setattr__" = some (some (.builtin "object.__setattr__"))),
  decide (PySem.W.typeIn K (.ref (He.ga K "InvalidWish")) = some (.type "type")),
  PySem.W.keepIn K (.ref (He.ga K "InvalidWish")),
  decide (PySem.W.findIn K (.ref (He.ga K "InvalidWish")) "__init__" = some (some (.ref (He.ma K (He.ga K "InvalidWish") "__init__")))),
  decide (PySem.W.typeIn K (.ref (He.ma K (He.ga K "InvalidWish") "__init__")) = some (.type "function")),
  clsB K (He.ga K "NotAScript") "ValueError.__new__" [.type "ValueError", .type "Exception", .type "BaseException", .type "object"],
  PySem.W.excOver K (He.ga K "NotAScript") [.type "ValueError", .type "Exception", .type "BaseException", .type "object"],
  decide (PySem.W.findIn K (.ref (He.ga K "NotAScript")) "__setattr__" = some (some (.builtin "object.__setattr__"))),
  decide (PySem.W.typeIn K (.ref (He.ga K "NotAScript")) = some (.type "type")),
  PySem.W.keepIn K (.ref (He.ga K "NotAScript")),
  decide (PySem.W.findIn K (.ref (He.ga K "NotAScript")) "__init__" = some (some (.ref (He.ma K (He.ga K "NotAScript") "__init__")))),
  decide (PySem.W.typeIn K (.ref (He.ma K (He.ga K "NotAScript") "__init__")) = some (.type "function")),
  clsB K (He.ga K "InvalidRows") "ValueError.__new__" [.type "ValueError", .type "Exception", .type "BaseException", .type "object"],
  PySem.W.excOver K (He.ga K "InvalidRows") [.type "ValueError", .type "Exception", .type "BaseException", .type "object"],
  decide (PySem.W.findIn K (.ref (He.ga K "InvalidRows")) "__setattr__" = some (some (.builtin "object.__setattr__"))),
  decide (PySem.W.typeIn K (.ref (He.ga K "InvalidRows")) = some (.type "type")),
  PySem.W.keepIn K (.ref (He.ga K "InvalidRows")),
  decide (PySem.W.findIn K (.ref (He.ga K "InvalidRows")) "__init__" = some (some (.ref (He.ma K (He.ga K "InvalidRows") "__init__")))),
  decide (PySem.W.typeIn K (.ref (He.ma K (He.ga K "InvalidRows") "__init__")) = some (.type "function")),
  clsB K (He.ga K "InvalidStanding") "ValueError.__new__" [.type "ValueError", .type "Exception", .type "BaseException", .type "object"],
  PySem.W.excOver K (He.ga K "InvalidStanding") [.type "ValueError", .type "Exception", .type "BaseException", .type "object"],
  decide (PySem.W.findIn K (.ref (He.ga K "InvalidStanding")) "__setattr__" = some (some (.builtin "object.__setattr__"))),
  decide (PySem.W.typeIn K (.ref (He.ga K "InvalidStanding")) = some (.type "type")),
  PySem.W.keepIn K (.ref (He.ga K "InvalidStanding")),
  decide (PySem.W.findIn K (.ref (He.ga K "InvalidStanding")) "__init__" = some (some (.ref (He.ma K (He.ga K "InvalidStanding") "__init__")))),
  decide (PySem.W.typeIn K (.ref (He.ma K (He.ga K "InvalidStanding") "__init__")) = some (.type "function")),
  clsB K (He.ga K "InvalidSeen") "ValueError.__new__" [.type "ValueError", .type "Exception", .type "BaseException", .type "object"],
  PySem.W.excOver K (He.ga K "InvalidSeen") [.type "ValueError", .type "Exception", .type "BaseException", .type "object"],
  decide (PySem.W.findIn K (.ref (He.ga K "InvalidSeen")) "__setattr__" = some (some (.builtin "object.__setattr__"))),
  decide (PySem.W.typeIn K (.ref (He.ga K "InvalidSeen")) = some (.type "type")),
  PySem.W.keepIn K (.ref (He.ga K "InvalidSeen")),
  decide (PySem.W.findIn K (.ref (He.ga K "InvalidSeen")) "__init__" = some (some (.ref (He.ma K (He.ga K "InvalidSeen") "__init__")))),
  decide (PySem.W.typeIn K (.ref (He.ma K (He.ga K "InvalidSeen") "__init__")) = some (.type "function")),
  clsB K (He.ga K "InvalidExchanges") "ValueError.__new__" [.type "ValueError", .type "Exception", .type "BaseException", .type "object"],
  PySem.W.excOver K (He.ga K "InvalidExchanges") [.type "ValueError", .type "Exception", .type "BaseException", .type "object"],
  decide (PySem.W.findIn K (.ref (He.ga K "InvalidExchanges")) "__setattr__" = some (some (.builtin "object.__setattr__"))),
  decide (PySem.W.typeIn K (.ref (He.ga K "InvalidExchanges")) = some (.type "type")),
  PySem.W.keepIn K (.ref (He.ga K "InvalidExchanges")),
  decide (PySem.W.findIn K (.ref (He.ga K "InvalidExchanges")) "__init__" = some (some (.ref (He.ma K (He.ga K "InvalidExchanges") "__init__")))),
  decide (PySem.W.typeIn K (.ref (He.ma K (He.ga K "InvalidExchanges") "__init__")) = some (.type "function")),
  clsB K (He.ga K "InvalidWishes") "ValueError.__new__" [.type "ValueError", .type "Exception", .type "BaseException", .type "object"],
  PySem.W.excOver K (He.ga K "InvalidWishes") [.type "ValueError", .type "Exception", .type "BaseException", .type "object"],
  decide (PySem.W.findIn K (.ref (He.ga K "InvalidWishes")) "__setattr__" = some (some (.builtin "object.__setattr__"))),
  decide (PySem.W.typeIn K (.ref (He.ga K "InvalidWishes")) = some (.type "type")),
  PySem.W.keepIn K (.ref (He.ga K "InvalidWishes")),
  decide (PySem.W.findIn K (.ref (He.ga K "InvalidWishes")) "__init__" = some (some (.ref (He.ma K (He.ga K "InvalidWishes") "__init__")))),
  decide (PySem.W.typeIn K (.ref (He.ma K (He.ga K "InvalidWishes") "__init__")) = some (.type "function")),
  clsB K (He.ga K "UnknownName") "LookupError.__new__" [.type "LookupError", .type "Exception", .type "BaseException", .type "object"],
  PySem.W.excOver K (He.ga K "UnknownName") [.type "LookupError", .type "Exception", .type "BaseException", .type "object"],
  decide (PySem.W.findIn K (.ref (He.ga K "UnknownName")) "__setattr__" = some (some (.builtin "object.__setattr__"))),
  decide (PySem.W.typeIn K (.ref (He.ga K "UnknownName")) = some (.type "type")),
  PySem.W.keepIn K (.ref (He.ga K "UnknownName")),
  decide (PySem.W.findIn K (.ref (He.ga K "UnknownName")) "__init__" = some (some (.ref (He.ma K (He.ga K "UnknownName") "__init__")))),
  decide (PySem.W.typeIn K (.ref (He.ma K (He.ga K "UnknownName") "__init__")) = some (.type "function")),
  clsB K (He.ga K "InUse") "LookupError.__new__" [.type "LookupError", .type "Exception", .type "BaseException", .type "object"],
  PySem.W.excOver K (He.ga K "InUse") [.type "LookupError", .type "Exception", .type "BaseException", .type "object"],
  decide (PySem.W.findIn K (.ref (He.ga K "InUse")) "__setattr__" = some (some (.builtin "object.__setattr__"))),
  decide (PySem.W.typeIn K (.ref (He.ga K "InUse")) = some (.type "type")),
  PySem.W.keepIn K (.ref (He.ga K "InUse")),
  decide (PySem.W.findIn K (.ref (He.ga K "InUse")) "__init__" = some (some (.ref (He.ma K (He.ga K "InUse") "__init__")))),
  decide (PySem.W.typeIn K (.ref (He.ma K (He.ga K "InUse") "__init__")) = some (.type "function")),
  clsB K (He.ga K "Unknown") "ArithmeticError.__new__" [.type "ArithmeticError", .type "Exception", .type "BaseException", .type "object"],
  PySem.W.excOver K (He.ga K "Unknown") [.type "ArithmeticError", .type "Exception", .type "BaseException", .type "object"],
  decide (PySem.W.findIn K (.ref (He.ga K "Unknown")) "__setattr__" = some (some (.builtin "object.__setattr__"))),
  decide (PySem.W.typeIn K (.ref (He.ga K "Unknown")) = some (.type "type")),
  PySem.W.keepIn K (.ref (He.ga K "Unknown")),
  decide (PySem.W.findIn K (.ref (He.ga K "Unknown")) "__init__" = some (some (.ref (He.ma K (He.ga K "Unknown") "__init__")))),
  decide (PySem.W.typeIn K (.ref (He.ma K (He.ga K "Unknown") "__init__")) = some (.type "function")),
  clsB K (He.ga K "TooFew") "ArithmeticError.__new__" [.type "ArithmeticError", .type "Exception", .type "BaseException", .type "object"],
  PySem.W.excOver K (He.ga K "TooFew") [.type "ArithmeticError", .type "Exception", .type "BaseException", .type "object"],
  decide (PySem.W.findIn K (.ref (He.ga K "TooFew")) "__setattr__" = some (some (.builtin "object.__setattr__"))),
  decide (PySem.W.typeIn K (.ref (He.ga K "TooFew")) = some (.type "type")),
  PySem.W.keepIn K (.ref (He.ga K "TooFew")),
  decide (PySem.W.findIn K (.ref (He.ga K "TooFew")) "__init__" = some (some (.ref (He.ma K (He.ga K "TooFew") "__init__")))),
  decide (PySem.W.typeIn K (.ref (He.ma K (He.ga K "TooFew") "__init__")) = some (.type "function")),
  clsB K (He.ga K "TooMany") "ArithmeticError.__new__" [.type "ArithmeticError", .type "Exception", .type "BaseException", .type "object"],
  PySem.W.excOver K (He.ga K "TooMany") [.type "ArithmeticError", .type "Exception", .type "BaseException", .type "object"],
  decide (PySem.W.findIn K (.ref (He.ga K "TooMany")) "__setattr__" = some (some (.builtin "object.__setattr__"))),
  decide (PySem.W.typeIn K (.ref (He.ga K "TooMany")) = some (.type "type")),
  PySem.W.keepIn K (.ref (He.ga K "TooMany")),
  decide (PySem.W.findIn K (.ref (He.ga K "TooMany")) "__init__" = some (some (.ref (He.ma K (He.ga K "TooMany") "__init__")))),
  decide (PySem.W.typeIn K (.ref (He.ma K (He.ga K "TooMany") "__init__")) = some (.type "function")),
  decide (PySem.W.nsIn K mainGlobals "_law_errors" = some (some (.ref (He.ga K "_law_errors")))),
  decide (PySem.W.nsIn K mainGlobals "_law_error" = some (some (.ref (He.ga K "_law_error")))),
  decide (PySem.W.nsIn K mainGlobals "_law_field" = some (some (.ref (He.ga K "_law_field")))),
  decide (PySem.W.nsIn K mainGlobals "law" = some (some (.ref (He.ga K "law"))))]
def exB (K : PySem.W.Frag) : Bool := (exL K).all id
def lamAt : Option At := none
abbrev hk : PySem.W.Hook := hookY 1000 fds exB lamAt
def ob (s : PySem.W.SharedT) : AlY := obsY 1000 fds exB lamAt (HandSHeadRun.getT s)
theorem ob_eq (s : PySem.W.SharedT) : ob s = hk.obs s.abs := obsY_eq (HandSHeadRun.getT_eq s)
abbrev Rr : PySem.W.OpenRow := PySem.W.OpenLaw.row PySem.Challenge.rw_drawnrings_k01_errors_and_limits
def loose0 : List Str := ["__name__", "WrongValue", "InvalidCloth", "InvalidMove", "InvalidText", "InvalidName", "InvalidNumber", "InvalidPlace", "InvalidWish", "NotAScript", "InvalidRows", "InvalidStanding", "InvalidSeen", "InvalidExchanges", "InvalidWishes", "WrongName", "UnknownName", "InUse", "NoAnswer", "Unknown", "TooFew", "TooMany", "Broken", "NothingToUndo", "MOST_CLOTH", "MOST_MOVES", "MOST_NAMED", "MOST_PLACE", "MOST_LOOKED", "MOST_EXCHANGES"]
def loose1 : List Str := ["_law_spring", "_law_draw", "_law_of", "_law_error", "_law_field", "_law_odd", "_law_errors", "_law_right"]
def looseN : List Str := loose0 ++ loose1
theorem topRuns (w : World) : HandSHeadRun.RunEq Rr (PySem.W.view Rr.prog [39]) hk ob 12000 looseN w := by
  intro os
  kernel_rfl
end T01

set_option Elab.async false
set_option linter.all false
set_option autoImplicit false
set_option maxRecDepth 100000
set_option maxHeartbeats 2000000
namespace DL
open PySem L2

/-- data: what a value denotes; raw: an object that may change, by its address; ins: an instance that stays as it is -/
inductive D where
  | non | bl (b : Bool) | int (i : Int) | str (s : Str) | lst (ds : List D) | tup (ds : List D) | frz (ds : List D) | raw (a : Addr)
  | ins (C : Addr) (ns : List Str) (ds : List D)
  | pin (F0 : Hp) (d : D)
  | exc (C : Addr) (ns : List Str) (ds : List D)
  | dct (ks : List Key) (ds : List D)
  | xcp (a : Addr) (dd : Option Addr) (ns : List Str) (ds : List D)
def noPin : D → Bool
  | .pin _ _ => false
  | _ => true

/-- the dict of an exception: none as yet, or one that stays -/
def ExcD (F : Hp) (od : Option Addr) (fs : List (Str × V)) : Prop := (od = none ∧ fs = []) ∨ ∃ dx, od = some dx ∧ F dx = some (exd dx fs)
/-- the dict of an exception that is raised: none, or one of its own -/
def ExX (H : Hp) (d : Option Addr) (fs : List (Str × V)) : Prop := (d = none ∧ fs = []) ∨ ∃ dx, d = some dx ∧ H dx = some (.xd fs)
mutual
inductive Dn (K : PySem.W.Frag) (F : Hp) : V → D → Prop
  | non : Dn K F .non .non
  | bl (b : Bool) : Dn K F (.bl b) (.bl b)
  | int (i : Int) : Dn K F (.int i) (.int i)
  | str (s : Str) : Dn K F (.str s) (.str s)
  | lst {a : Addr} {xs : List V} {ds : List D} : F a = some (.lst xs) → Dns K F xs ds → Dn K F (.ref a) (.lst ds)
  | frz {a : Addr} {xs : List V} {ds : List D} : SqL K F a xs → Dns K F xs ds → Dn K F (.ref a) (.frz ds)
  | tup {a : Addr} {xs : List V} {ds : List D} : SqT K F a xs → Dns K F xs ds → Dn K F (.ref a) (.tup ds)
  | raw (a : Addr) : Dn K F (.ref a) (.raw a)
  | ins {a C dx : Addr} {fs : List (Str × V)} {ns : List Str} {ds : List D} : F a = some (.ins C dx fs) → fs.map (·.1) = ns → Dns K F (fs.map (·.2)) ds → Dn K F (.ref a) (.ins C ns ds)
  | pin {F0 : Hp} {v : V} {d : D} : Same F0 F → noPin d = true → Dn K F v d → Dn K F v (.pin F0 d)
  | exc {a C : Addr} {od : Option Addr} {fs : List (Str × V)} {ns : List Str} {ds : List D} : F a = some (exo a C od) → ExcD F od fs → fs.map (·.1) = ns → Dns K F (fs.map (·.2)) ds → Dn K F (.ref a) (.exc C ns ds)
  | dct {a : Addr} {kvs : List (Key × V)} {ks : List Key} {ds : List D} : F a = some (.dK kvs) → kvs.map (·.1) = ks → Dns K F (kvs.map (·.2)) ds → Dn K F (.ref a) (.dct ks ds)
  | xcp {a : Addr} {dd : Option Addr} {fs : List (Str × V)} {ns : List Str} {ds : List D} : ExX F dd fs → fs.map (·.1) = ns → Dns K F (fs.map (·.2)) ds → Dn K F (.ref a) (.xcp a dd ns ds)
inductive Dns (K : PySem.W.Frag) (F : Hp) : List V → List D → Prop
  | nil : Dns K F [] []
  | cons {v : V} {vs : List V} {d : D} {ds : List D} : Dn K F v d → Dns K F vs ds → Dns K F (v :: vs) (d :: ds)
end

section
variable {K : PySem.W.Frag} {F F' F1 F2 H H' : Hp}
theorem sqL_mono (e : Same F F') {a : Addr} {xs : List V} (h : SqL K F a xs) : SqL K F' a xs := e.seq h
theorem sqT_mono (e : Same F F') {a : Addr} {xs : List V} (h : SqT K F a xs) : SqT K F' a xs := by
  rcases h with (h | ⟨o, h⟩) | h
  · exact .inl (.inl (e _ _ h))
  · exact .inl (.inr ⟨o, e _ _ h⟩)
  · exact .inr h
theorem ExcD.mono (e : Same F F') {od : Option Addr} {fs : List (Str × V)} (h : ExcD F od fs) : ExcD F' od fs := h.imp id fun ⟨dx, a, b⟩ => ⟨dx, a, e _ _ b⟩
theorem ExX.mono (e : Same F F') {od : Option Addr} {fs : List (Str × V)} (h : ExX F od fs) : ExX F' od fs := h.imp id fun ⟨dx, a, b⟩ => ⟨dx, a, e _ _ b⟩
mutual
theorem Dn.mono (e : Same F F') : ∀ {v : V} {d : D}, Dn K F v d → Dn K F' v d
  | _, _, .non => .non
  | _, _, .bl b => .bl b
  | _, _, .int i => .int i
  | _, _, .str s => .str s
  | _, _, .lst h r => .lst (e _ _ h) (Dns.mono e r)
  | _, _, .frz h r => .frz (sqL_mono e h) (Dns.mono e r)
  | _, _, .tup h r => .tup (sqT_mono e h) (Dns.mono e r)
  | _, _, .raw a => .raw a
  | _, _, .ins h n r => .ins (e _ _ h) n (Dns.mono e r)
  | _, _, .pin s n h => .pin (s.trans e) n (Dn.mono e h)
  | _, _, .exc h x n r => .exc (e _ _ h) (x.mono e) n (Dns.mono e r)
  | _, _, .dct h n r => .dct (e _ _ h) n (Dns.mono e r)
  | _, _, .xcp h n r => .xcp (h.mono e) n (Dns.mono e r)
theorem Dns.mono (e : Same F F') : ∀ {vs : List V} {ds : List D}, Dns K F vs ds → Dns K F' vs ds
  | _, _, .nil => .nil
  | _, _, .cons h r => .cons (Dn.mono e h) (Dns.mono e r)
end
theorem Dns.length : ∀ {vs : List V} {ds : List D}, Dns K F vs ds → vs.length = ds.length
  | _, _, .nil => rfl
  | _, _, .cons _ r => congrArg Nat.succ (Dns.length r)
theorem Dns.get : ∀ {vs : List V} {ds : List D} {i : Nat} {d : D}, Dns K F vs ds → ds[i]? = some d → ∃ v, vs[i]? = some v ∧ Dn K F v d
  | _, _, _, _, .nil, e => by simp at e
  | _, _, 0, _, .cons h _, e => by simp at e; subst e; exact ⟨_, rfl, h⟩
  | _, _, i + 1, d, .cons _ r, e => by
    obtain ⟨v, h1, h2⟩ := Dns.get (i := i) (d := d) r (by simpa using e)
    exact ⟨v, by simpa using h1, h2⟩
theorem Dns.getV : ∀ {vs : List V} {ds : List D} {i : Nat} {v : V}, Dns K F vs ds → vs[i]? = some v → ∃ d, ds[i]? = some d ∧ Dn K F v d
  | _, _, _, _, .nil, e => by simp at e
  | _, _, 0, _, .cons h _, e => by simp at e; subst e; exact ⟨_, rfl, h⟩
  | _, _, i + 1, v, .cons _ r, e => by
    obtain ⟨d, h1, h2⟩ := Dns.getV (i := i) (v := v) r (by simpa using e)
    exact ⟨d, by simpa using h1, h2⟩
theorem Dns.append : ∀ {xs ys : List V} {ds es : List D}, Dns K F xs ds → Dns K F ys es → Dns K F (xs ++ ys) (ds ++ es)
  | _, _, _, _, .nil, s => s
  | _, _, _, _, .cons h r, s => .cons h (Dns.append r s)
theorem Dns.take : ∀ {xs : List V} {ds : List D} (n : Nat), Dns K F xs ds → Dns K F (xs.take n) (ds.take n)
  | _, _, 0, _ => .nil
  | _, _, _ + 1, .nil => .nil
  | _, _, n + 1, .cons h r => .cons h (Dns.take n r)
theorem Dns.drop : ∀ {xs : List V} {ds : List D} (n : Nat), Dns K F xs ds → Dns K F (xs.drop n) (ds.drop n)
  | _, _, 0, r => r
  | _, _, _ + 1, .nil => .nil
  | _, _, n + 1, .cons _ r => Dns.drop n r
theorem Dns.set : ∀ {xs : List V} {ds : List D} (n : Nat) {v : V} {d : D}, Dns K F xs ds → Dn K F v d → Dns K F (xs.set n v) (ds.set n d)
  | _, _, _, _, _, .nil, _ => .nil
  | _, _, 0, _, _, .cons _ r, h => .cons h r
  | _, _, n + 1, _, _, .cons k r, h => .cons k (Dns.set n r h)
theorem Dns.reverse : ∀ {xs : List V} {ds : List D}, Dns K F xs ds → Dns K F xs.reverse ds.reverse
  | _, _, .nil => .nil
  | _, _, .cons h r => by
    rw [List.reverse_cons, List.reverse_cons]
    exact (Dns.reverse r).append (.cons h .nil)
/-- every element a D of one kind -/
theorem Dns.ints : ∀ {vs : List V} {ns : List Int}, Dns K F vs (ns.map D.int) → vs = ns.map V.int
  | _, [], h => by cases h; rfl
  | _, n :: ns, h => by
    cases h with
    | cons a b => cases a; rw [Dns.ints b]; rfl
theorem Dns.of_ints : ∀ (ns : List Int), Dns K F (ns.map V.int) (ns.map D.int)
  | [] => .nil
  | n :: ns => .cons (.int n) (Dns.of_ints ns)
theorem Dns.strs : ∀ {vs : List V} {ns : List Str}, Dns K F vs (ns.map D.str) → vs = ns.map V.str
  | _, [], h => by cases h; rfl
  | _, n :: ns, h => by
    cases h with
    | cons a b => cases a; rw [Dns.strs b]; rfl
theorem Dns.of_strs : ∀ (ns : List Str), Dns K F (ns.map V.str) (ns.map D.str)
  | [] => .nil
  | n :: ns => .cons (.str n) (Dns.of_strs ns)
theorem Dns.bls : ∀ {vs : List V} {ns : List Bool}, Dns K F vs (ns.map D.bl) → vs = ns.map V.bl
  | _, [], h => by cases h; rfl
  | _, n :: ns, h => by
    cases h with
    | cons a b => cases a; rw [Dns.bls b]; rfl
end

/-! ### the objects that may change -/
inductive MO where
  | lst (ds : List D)
  | tabs (T : List (Addr × Str))
  | ins (C : Addr) (ns : List Str) (ds : List D)
abbrev MM := Addr → Option MO
def mupd (M : MM) (a : Addr) (o : MO) : MM := fun b => if b = a then some o else M b
theorem mupd_same {M : MM} {a : Addr} {o : MO} : mupd M a o a = some o := by unfold mupd; rw [if_pos rfl]
theorem mupd_ne {M : MM} {a b : Addr} {o : MO} (h : b ≠ a) : mupd M a o b = M b := by unfold mupd; rw [if_neg h]
theorem mupd_mupd {M : MM} {a : Addr} {o u : MO} : mupd (mupd M a o) a u = mupd M a u := by
  funext b; unfold mupd; split <;> rfl

def MOk (K : PySem.W.Frag) (F H : Hp) (a : Addr) : MO → Prop
  | .lst ds => ∃ vs, H a = some (.lst vs) ∧ Dns K F vs ds
  | .tabs T => (∃ q r, T = (a, q) :: r) ∧ LamX.Tabs T H
  | .ins C ns ds => ∃ dx fs, H a = some (.ins C dx fs) ∧ H dx = some (.own a) ∧ F dx = none ∧ fs.map (·.1) = ns ∧ Dns K F (fs.map (·.2)) ds

/-- not one of those that are written later -/
def noMut : HO → Prop
  | .lst _ => False
  | .ins _ _ _ => False
  | _ => True
/-- F: what stays; M: what may change; both stand in H -/
structure Con (K : PySem.W.Frag) (F : Hp) (M : MM) (H : Hp) : Prop where
  sub : Same F H
  chg : ∀ a m, M a = some m → F a = none ∧ MOk K F H a m
  ntb : ∀ a ps, F a ≠ some (.tbl ps)
  one : ∀ a b T U, M a = some (.tabs T) → M b = some (.tabs U) → a = b

structure EnvOk (K : PySem.W.Frag) (F : Hp) (Γ : List (Option D)) (σ : St) : Prop where
  len : σ.length = Γ.length
  get : ∀ (i : Nat) (d : D), Γ[i]? = some (some d) → ∃ v, σ[i]? = some (some v) ∧ Dn K F v d
abbrev G := List (Option D)

section
variable {K : PySem.W.Frag} {F F' F1 F2 H H' : Hp} {M M' : MM} {Γ : G} {σ : St}
theorem EnvOk.mono (e : Same F F') (h : EnvOk K F Γ σ) : EnvOk K F' Γ σ := ⟨h.len, fun i d q => let ⟨v, a, b⟩ := h.get i d q; ⟨v, a, b.mono e⟩⟩
theorem EnvOk.set (h : EnvOk K F Γ σ) {i : Nat} {v : V} {d : D} (q : Dn K F v d) : EnvOk K F (Γ.set i (some d)) (σ.set i (some v)) := by
  refine ⟨by rw [List.length_set, List.length_set]; exact h.len, fun j e he => ?_⟩
  by_cases hj : i = j
  · subst hj
    have hl : i < Γ.length := by
      have := (List.getElem?_eq_some_iff.mp he).1
      rwa [List.length_set] at this
    rw [List.getElem?_set_self hl] at he
    cases he
    exact ⟨v, by rw [List.getElem?_set_self (by rw [h.len]; exact hl)], q⟩
  · rw [List.getElem?_set_ne hj] at he
    rw [List.getElem?_set_ne hj]
    exact h.get j e he
theorem same_new {p : Addr} {o : HO} (h : F p = none) : Same F (upd F p o) := fun b u e => by
  rw [upd_ne (ne_of_none e h)]
  exact e
theorem MOk.mono (e : Same F F') {a : Addr} {m : MO} (h : MOk K F H a m) (hd : ∀ dx, H dx = some (.own a) → F dx = none → F' dx = none) : MOk K F' H a m := by
  cases m with
  | lst ds => obtain ⟨vs, a1, a2⟩ := h; exact ⟨vs, a1, a2.mono e⟩
  | tabs T => exact h
  | ins C ns ds => obtain ⟨dx, fs, a1, a2, a3, a4, a5⟩ := h; exact ⟨dx, fs, a1, a2, hd dx a2 a3, a4, a5.mono e⟩
theorem MOk.heap {a : Addr} {m : MO} (h : MOk K F H a m) (e1 : H' a = H a) (e2 : ∀ b o, H b = some o → noMut o → H' b = some o) : MOk K F H' a m := by
  cases m with
  | lst ds => obtain ⟨vs, a1, a2⟩ := h; exact ⟨vs, e1.trans a1, a2⟩
  | tabs T =>
    refine ⟨h.1, fun p hp => ?_⟩
    obtain ⟨ps, h1, h2, h3⟩ := h.2 p hp
    exact ⟨ps, e2 _ _ h1 trivial, h2, fun pos cv hc => let ⟨c, k1, k2⟩ := h3 pos cv hc; ⟨c, k1, e2 _ _ k2 trivial⟩⟩
  | ins C ns ds => obtain ⟨dx, fs, a1, a2, a3, a4, a5⟩ := h; exact ⟨dx, fs, e1.trans a1, e2 _ _ a2 trivial, a3, a4, a5⟩
theorem MOk.there {a : Addr} {m : MO} (h : MOk K F H a m) : ∃ o, H a = some o := by
  cases m with
  | lst ds => obtain ⟨vs, a1, _⟩ := h; exact ⟨_, a1⟩
  | tabs T =>
    obtain ⟨⟨q, r, e⟩, h2⟩ := h
    subst e
    obtain ⟨ps, a1, _⟩ := h2 _ List.mem_cons_self
    exact ⟨_, a1⟩
  | ins C ns ds => obtain ⟨dx, fs, a1, _⟩ := h; exact ⟨_, a1⟩
theorem one_mupd {p : Addr} {m : MO} (h : ∀ a b T U, M a = some (.tabs T) → M b = some (.tabs U) → a = b) (hm : ∀ T, m ≠ .tabs T) : ∀ a b T U, mupd M p m a = some (.tabs T) → mupd M p m b = some (.tabs U) → a = b := fun a b T U h1 h2 => by
  have n : ∀ c V, mupd M p m c = some (.tabs V) → M c = some (.tabs V) := fun c V e => by
    by_cases hc : c = p
    · subst hc; rw [mupd_same] at e; exact absurd (Option.some.inj e) (hm V)
    · rw [mupd_ne hc] at e; exact e
  exact h a b T U (n a T h1) (n b U h2)
/-- a new object that stays -/
theorem Con.new (c : Con K F M H) {p : Addr} {o : HO} (hp : H p = none) (ho : ∀ ps, o ≠ .tbl ps := by intro _ z; cases z) : Con K (upd F p o) M (upd H p o) := by
  have hF : F p = none := c.sub.free hp
  refine ⟨fun b u e => ?_, fun a m e => ?_, fun a ps e => ?_, c.one⟩
  rotate_right
  · by_cases ha : a = p
    · subst ha; rw [upd_same] at e; exact ho ps (Option.some.inj e)
    · rw [upd_ne ha] at e; exact c.ntb a ps e
  · by_cases hb : b = p
    · subst hb; rw [upd_same] at e ⊢; exact e
    · rw [upd_ne hb] at e ⊢; exact c.sub _ _ e
  · obtain ⟨h1, h2⟩ := c.chg a m e
    obtain ⟨o', h3⟩ := h2.there
    have ha : a ≠ p := ne_of_none h3 hp
    refine ⟨by rw [upd_ne ha]; exact h1, ?_⟩
    refine (h2.mono (same_new hF) fun dx q1 q2 => ?_).heap (upd_ne ha) fun c z q _ => by rw [upd_ne (ne_of_none q hp)]; exact q
    rw [upd_ne (ne_of_none q1 hp)]; exact q2
/-- a new object that stays, of which nothing is told -/
theorem Con.newH (c : Con K F M H) {p : Addr} {o : HO} (hp : H p = none) : Con K F M (upd H p o) := by
  refine ⟨fun b u e => ?_, fun a m e => ?_, c.ntb, c.one⟩
  · have := c.sub _ _ e
    rw [upd_ne (ne_of_none this hp)]; exact this
  · obtain ⟨h1, h2⟩ := c.chg a m e
    obtain ⟨o', h3⟩ := h2.there
    have ha : a ≠ p := ne_of_none h3 hp
    exact ⟨h1, h2.heap (upd_ne ha) fun c z q _ => by rw [upd_ne (ne_of_none q hp)]; exact q⟩
theorem Con.fresh (c : Con K F M H) {p : Addr} (hp : H p = none) : M p = none := by
  cases e : M p with
  | none => rfl
  | some m =>
    obtain ⟨_, h⟩ := c.chg p m e
    obtain ⟨o, h3⟩ := h.there
    rw [hp] at h3; cases h3
/-- a new list that may change -/
theorem Con.newM (c : Con K F M H) {p : Addr} {vs : List V} {ds : List D} (hp : H p = none) (hd : Dns K F vs ds) : Con K F (mupd M p (.lst ds)) (upd H p (.lst vs)) := by
  have c1 := c.newH (o := .lst vs) hp
  refine ⟨c1.sub, fun a m e => ?_, c.ntb, one_mupd c.one fun _ z => by cases z⟩
  by_cases ha : a = p
  · subst ha; rw [mupd_same] at e; cases e
    exact ⟨c.sub.free hp, vs, upd_same, hd⟩
  · rw [mupd_ne ha] at e
    exact c1.chg a m e
/-- a list that may change is changed -/
theorem Con.setL (c : Con K F M H) {p : Addr} {es : List D} {vs : List V} {ds : List D} (hp : M p = some (.lst es)) (hd : Dns K F vs ds) : Con K F (mupd M p (.lst ds)) (upd H p (.lst vs)) := by
  obtain ⟨f0, ws, hw, _⟩ := c.chg p _ hp
  refine ⟨fun b u e => ?_, fun a m e => ?_, c.ntb, one_mupd c.one fun _ z => by cases z⟩
  · rw [upd_ne (ne_of_none e f0)]; exact c.sub _ _ e
  · by_cases ha : a = p
    · subst ha; rw [mupd_same] at e; cases e
      exact ⟨f0, vs, upd_same, hd⟩
    · rw [mupd_ne ha] at e
      obtain ⟨h1, h2⟩ := c.chg a m e
      exact ⟨h1, h2.heap (upd_ne ha) fun c z q n => by rw [upd_ne (fun y => by subst y; rw [hw] at q; cases q; exact n)]; exact q⟩
theorem Con.lst (c : Con K F M H) {p : Addr} {ds : List D} (hp : M p = some (.lst ds)) : ∃ vs, H p = some (.lst vs) ∧ Dns K F vs ds := (c.chg p _ hp).2
/-- what may change no longer does -/
theorem Con.freeze (c : Con K F M H) {p : Addr} {ds : List D} (hp : M p = some (.lst ds)) : ∃ F', Same F F' ∧ Con K F' (fun a => if a = p then none else M a) H ∧ Dn K F' (.ref p) (.lst ds) := by
  obtain ⟨f0, vs, hw, hd⟩ := c.chg p _ hp
  have e : Same F (upd F p (.lst vs)) := same_new f0
  refine ⟨upd F p (.lst vs), e, ⟨fun b u q => ?_, fun a m q => ?_, fun a ps q => ?_, fun a b T U h1 h2 => ?_⟩, .lst upd_same (hd.mono e)⟩
  · by_cases hb : b = p
    · subst hb; rw [upd_same] at q; cases q; exact hw
    · rw [upd_ne hb] at q; exact c.sub _ _ q
  · by_cases ha : a = p
    · rw [if_pos ha] at q; cases q
    · rw [if_neg ha] at q
      obtain ⟨h1, h2⟩ := c.chg a m q
      refine ⟨by rw [upd_ne ha]; exact h1, h2.mono e fun dx q1 q2 => ?_⟩
      have : dx ≠ p := fun z => by subst z; rw [hw] at q1; cases q1
      rw [upd_ne this]; exact q2
  · by_cases ha : a = p
    · subst ha; rw [upd_same] at q; cases q
    · rw [upd_ne ha] at q; exact c.ntb a ps q
  · have n : ∀ x V, (if x = p then none else M x) = some (MO.tabs V) → M x = some (.tabs V) := fun x V z => by
      split at z
      · cases z
      · exact z
    exact c.one a b T U (n a T h1) (n b U h2)
end

/-! ### readings at their best -/
section
variable {X : Cx}
def wpE (X : Cx) (e : Expr) : TE := fun σ H Q => ∃ t, PE X e t ∧ t σ H Q
def wpT (X : Cx) (e : Expr) : TT := fun σ H Q => ∃ t, PT X e t ∧ t σ H Q
def wpW (X : Cx) (e : Expr) : TT := fun σ H Q => ∃ t, PW X e t ∧ t σ H Q
def wpA (X : Cx) (es : List Expr) : TA := fun σ H Q => ∃ t, PA X es t ∧ t σ H Q
def wpS (X : Cx) (st : Stmt) : TS := fun D σ H => ∃ t, PS X st t ∧ t D σ H
def wpSs (X : Cx) (sts : List Stmt) : TS := fun D σ H => ∃ t, PSs X sts t ∧ t D σ H
theorem pe_wp {e : Expr} : PE X e (wpE X e) := ⟨fun pins s σ H Q I ⟨_, p, h⟩ => p.run pins s σ H Q I h⟩
theorem pt_wp {e : Expr} : PT X e (wpT X e) := ⟨fun pins s σ H Q I ⟨_, p, h⟩ => p.run pins s σ H Q I h⟩
theorem pw_wp {e : Expr} : PW X e (wpW X e) := ⟨fun wh pins s σ H Q I ⟨_, p, h⟩ => p.run wh pins s σ H Q I h⟩
theorem pa_wp {es : List Expr} : PA X es (wpA X es) := ⟨fun pos pins s σ H Q I ⟨_, p, h⟩ => p.run pos pins s σ H Q I h⟩
theorem ps_wp {st : Stmt} : PS X st (wpS X st) := ⟨fun pins s σ H D I ⟨_, p, h⟩ => p.run pins s σ H D I h⟩
theorem pss_wp {sts : List Stmt} : PSs X sts (wpSs X sts) := ⟨fun pins s σ H D I ⟨_, p, h⟩ => p.run pins s σ H D I h⟩
end

/-! ### the judgements over data -/
structure WE (X : Cx) (e : Expr) (Γ : G) (M : MM) (Q : D → MM → Prop) : Prop where
  run : ∀ (F : Hp) (σ : L2.St) (H : Hp), EnvOk X.K F Γ σ → Con X.K F M H → ∀ R : VK,
    (∀ (F' H' : Hp) (M' : MM) (v : V) (d : D), Same F F' → Con X.K F' M' H' → Dn X.K F' v d → Q d M' → R v H') → wpE X e σ H R
structure WT (X : Cx) (e : Expr) (Γ : G) (M : MM) (Q : Bool → MM → Prop) : Prop where
  run : ∀ (F : Hp) (σ : L2.St) (H : Hp), EnvOk X.K F Γ σ → Con X.K F M H → ∀ R : Bool → Hp → Prop,
    (∀ (F' H' : Hp) (M' : MM) (b : Bool), Same F F' → Con X.K F' M' H' → Q b M' → R b H') → wpT X e σ H R
structure WW (X : Cx) (e : Expr) (Γ : G) (M : MM) (Q : Bool → MM → Prop) : Prop where
  run : ∀ (F : Hp) (σ : L2.St) (H : Hp), EnvOk X.K F Γ σ → Con X.K F M H → ∀ R : Bool → Hp → Prop,
    (∀ (F' H' : Hp) (M' : MM) (b : Bool), Same F F' → Con X.K F' M' H' → Q b M' → R b H') → wpW X e σ H R
structure WA (X : Cx) (es : List Expr) (Γ : G) (M : MM) (Q : List D → MM → Prop) : Prop where
  run : ∀ (F : Hp) (σ : L2.St) (H : Hp), EnvOk X.K F Γ σ → Con X.K F M H → ∀ R : List V → Hp → Prop,
    (∀ (F' H' : Hp) (M' : MM) (vs : List V) (ds : List D), Same F F' → Con X.K F' M' H' → Dns X.K F' vs ds → Q ds M' → R vs H') → wpA X es σ H R
/-- what is wanted behind statements -/
structure Fi where
  nx : G → MM → Prop
  rt : D → MM → Prop
  bk : G → MM → Prop := fun _ _ => False
  ct : G → MM → Prop := fun _ _ => False
structure EndsOk (K : PySem.W.Frag) (F : Hp) (Φ : Fi) (E : Ends) : Prop where
  nx : ∀ F' σ' H' Γ' M', Same F F' → EnvOk K F' Γ' σ' → Con K F' M' H' → Φ.nx Γ' M' → E.nx σ' H'
  rt : ∀ F' H' M' v d, Same F F' → Con K F' M' H' → Dn K F' v d → Φ.rt d M' → E.rt v H'
  bk : ∀ F' σ' H' Γ' M', Same F F' → EnvOk K F' Γ' σ' → Con K F' M' H' → Φ.bk Γ' M' → E.bk σ' H'
  ct : ∀ F' σ' H' Γ' M', Same F F' → EnvOk K F' Γ' σ' → Con K F' M' H' → Φ.ct Γ' M' → E.ct σ' H'
theorem EndsOk.mono {K : PySem.W.Frag} {F F' : Hp} {Φ : Fi} {E : Ends} (h : EndsOk K F Φ E) (e : Same F F') : EndsOk K F' Φ E :=
  ⟨fun F2 σ' H' Γ' M' q => h.nx F2 σ' H' Γ' M' (e.trans q), fun F2 H' M' v d q => h.rt F2 H' M' v d (e.trans q), fun F2 σ' H' Γ' M' q => h.bk F2 σ' H' Γ' M' (e.trans q), fun F2 σ' H' Γ' M' q => h.ct F2 σ' H' Γ' M' (e.trans q)⟩
structure WS (X : Cx) (sts : List Stmt) (Γ : G) (M : MM) (Φ : Fi) : Prop where
  run : ∀ (F : Hp) (σ : L2.St) (H : Hp), EnvOk X.K F Γ σ → Con X.K F M H → ∀ E : Ends, EndsOk X.K F Φ E → wpSs X sts E σ H
end DL

set_option Elab.async false
set_option linter.all false
set_option autoImplicit false
set_option maxRecDepth 100000
set_option maxHeartbeats 2000000
namespace DL
open PySem L2

section
variable {X : Cx} {Γ : G} {M : MM} {pos p : Pos}

/-! ### what is named, what is written out -/
theorem WE.imp {e : Expr} {Q Q' : D → MM → Prop} (h : WE X e Γ M Q) (hq : ∀ d M', Q d M' → Q' d M') : WE X e Γ M Q' := ⟨fun F σ H he hc R hR =>
  h.run F σ H he hc R fun F' H' M' v d a b c q => hR F' H' M' v d a b c (hq d M' q)⟩
theorem WT.imp {e : Expr} {Q Q' : Bool → MM → Prop} (h : WT X e Γ M Q) (hq : ∀ d M', Q d M' → Q' d M') : WT X e Γ M Q' := ⟨fun F σ H he hc R hR =>
  h.run F σ H he hc R fun F' H' M' b x y q => hR F' H' M' b x y (hq b M' q)⟩
theorem we_var (i : Nat) {x : Str} {d : D} {Q : D → MM → Prop} (hd : Γ[i]? = some (some d)) (hq : Q d M) (hN : X.N[i]? = some x := by rfl) (hv : Vis X.env.scope x := by first | exact Or.inl rfl | exact Or.inr (Or.inl rfl) | exact Or.inr (Or.inr rfl))
    (hdb : (x == ("__debug__" : Str)) = false := by decide) (hcd : (x == ("__classdict__" : Str)) = false := by decide) : WE X (.Name x pos) Γ M Q := ⟨fun F σ H he hc R hR => by
  obtain ⟨v, h1, h2⟩ := he.get i d hd
  exact ⟨_, pe_var hN hv hdb hcd, v, h1, hR F H M v d (Same.refl F) hc h2 hq⟩⟩
theorem we_int {i : Int} {j} {Q : D → MM → Prop} (hq : Q (.int i) M) : WE X (.Constant (.int i) j pos) Γ M Q := ⟨fun F σ H he hc R hR =>
  ⟨_, pe_int, hR F H M _ _ (Same.refl F) hc (.int i) hq⟩⟩
theorem we_bl {b : Bool} {j} {Q : D → MM → Prop} (hq : Q (.bl b) M) : WE X (.Constant (.bool b) j pos) Γ M Q := ⟨fun F σ H he hc R hR =>
  ⟨_, pe_bl, hR F H M _ _ (Same.refl F) hc (.bl b) hq⟩⟩
theorem we_non {j} {Q : D → MM → Prop} (hq : Q .non M) : WE X (.Constant .none j pos) Γ M Q := ⟨fun F σ H he hc R hR =>
  ⟨_, pe_non, hR F H M _ _ (Same.refl F) hc .non hq⟩⟩
theorem we_str {s : Str} {j} {Q : D → MM → Prop} (hq : Q (.str s) M) : WE X (.Constant (.str s) j pos) Γ M Q := ⟨fun F σ H he hc R hR =>
  ⟨_, pe_str, hR F H M _ _ (Same.refl F) hc (.str s) hq⟩⟩

/-! ### two-place operations -/
abbrev Post (X : Cx) (F : Hp) (Q : D → MM → Prop) (R : VK) : Prop := ∀ (F' H' : Hp) (M' : MM) (w : V) (z : D), Same F F' → Con X.K F' M' H' → Dn X.K F' w z → Q z M' → R w H'
def OpD (X : Cx) (r : R2) (x y : D) (M : MM) (Q : D → MM → Prop) : Prop := ∀ (F H : Hp) (v u : V), Con X.K F M H → Dn X.K F v x → Dn X.K F u y → ∀ R : VK, Post X F Q R → r v u H R
theorem tOp_wp {a b : Expr} {r : R2} {Q : D → MM → Prop} (h : WE X a Γ M fun x M1 => WE X b Γ M1 fun y M2 => OpD X r x y M2 Q) {F : Hp} {σ : L2.St} {H : Hp} (he : EnvOk X.K F Γ σ) (hc : Con X.K F M H) {R : VK}
    (hR : Post X F Q R) : tOp r (wpE X a) (wpE X b) σ H R := by
  refine h.run F σ H he hc _ fun F1 H1 M1 v x e1 c1 d1 h1 => ?_
  refine h1.run F1 σ H1 (he.mono e1) c1 _ fun F2 H2 M2 u y e2 c2 d2 h2 => ?_
  exact h2 F2 H2 v u c2 (d1.mono e2) d2 R fun F3 H3 M3 w z e3 c3 d3 q => hR F3 H3 M3 w z ((e1.trans e2).trans e3) c3 d3 q
theorem we_bin {a b : Expr} {op : Operator} {r : R2} {S : D → D → MM → (D → MM → Prop) → Prop} {Q : D → MM → Prop} (ho : OpR X (binaryOp op) r) (hs : ∀ x y M, S x y M Q → OpD X r x y M Q)
    (h : WE X a Γ M fun x M1 => WE X b Γ M1 fun y M2 => S x y M2 Q) : WE X (.BinOp a op b pos) Γ M Q := ⟨fun F σ H he hc R hR =>
  ⟨_, pe_op ho pe_wp pe_wp, tOp_wp (h.imp fun x M1 h1 => h1.imp fun y M2 h2 => hs x y M2 h2) he hc hR⟩⟩
theorem we_cmpR {a b : Expr} {op : CmpOp} {r : R2} {S : D → D → MM → (D → MM → Prop) → Prop} {Q : D → MM → Prop} (ho : OpR X (compareOp op) r) (hs : ∀ x y M, S x y M Q → OpD X r x y M Q) (hm : behindInMarks op b = false)
    (h : WE X a Γ M fun x M1 => WE X b Γ M1 fun y M2 => S x y M2 Q) : WE X (.Compare a [op] [b] pos) Γ M Q := ⟨fun F σ H he hc R hR =>
  ⟨_, pe_cmpR ho pe_wp pe_wp hm, tOp_wp (h.imp fun x M1 h1 => h1.imp fun y M2 h2 => hs x y M2 h2) he hc hR⟩⟩
/-- a value's bool as a test's answer -/
abbrev asB (Q : Bool → MM → Prop) : D → MM → Prop := fun d M => ∃ b, d = .bl b ∧ Q b M
theorem wt_cmpR {a b : Expr} {op : CmpOp} {r : R2} {S : D → D → MM → (D → MM → Prop) → Prop} {Q : Bool → MM → Prop} (ho : OpR X (compareOp op) r) (hs : ∀ x y M, S x y M (asB Q) → OpD X r x y M (asB Q)) (hm : behindInMarks op b = false)
    (h : WE X a Γ M fun x M1 => WE X b Γ M1 fun y M2 => S x y M2 (asB Q)) : WT X (.Compare a [op] [b] pos) Γ M Q := ⟨fun F σ H he hc R hR => by
  refine ⟨_, pt_cmpR ho pe_wp pe_wp hm, ?_⟩
  show tOp r (wpE X a) (wpE X b) σ H fun x H' => ∃ k, x = .bl k ∧ R k H'
  refine tOp_wp (h.imp fun x M1 h1 => h1.imp fun y M2 h2 => hs x y M2 h2) he hc fun F' H' M' w z e c d ⟨b, hb, q⟩ => ?_
  subst hb
  cases d
  exact ⟨b, rfl, hR F' H' M' b e c q⟩⟩

/-- + -/
@[reducible] def AddQ (x y : D) (M : MM) (Q : D → MM → Prop) : Prop := match x, y with
  | .int i, .int j => Q (.int (i + j)) M
  | .str s, .str t => s.length + t.length ≤ sizeLine ∧ Q (.str (s ++ t)) M
  | .tup xs, .tup ys => xs.length + ys.length ≤ sizeLine ∧ Q (.tup (xs ++ ys)) M
  | .lst xs, .lst ys => xs.length + ys.length ≤ sizeLine ∧ Q (.lst (xs ++ ys)) M
  | _, _ => False
theorem Dns.nil_of {K : PySem.W.Frag} {F : Hp} {vs : List V} {ds : List D} (h : Dns K F vs ds) : vs = [] ↔ ds = [] := by
  cases h with
  | nil => simp
  | cons _ _ => simp
theorem we_add {a b : Expr} {Q : D → MM → Prop} (h : WE X a Γ M fun x M1 => WE X b Γ M1 fun y M2 => AddQ x y M2 Q) : WE X (.BinOp a .Add b pos) Γ M Q := by
  refine we_bin (S := AddQ) (op_add.or (op_add_str.or (op_catA.or op_cat))) (fun x y M hs => ?_) h
  intro F H v u c dv du R hR
  cases dv with
  | int i =>
    cases du with
    | int j => exact .inl ⟨i, j, rfl, rfl, hR F H M _ _ (Same.refl F) c (.int _) hs⟩
    | _ => exact hs.elim
  | str s =>
    cases du with
    | str t => exact .inr (.inl ⟨s, t, rfl, rfl, hs.1, hR F H M _ _ (Same.refl F) c (.str _) hs.2⟩)
    | _ => exact hs.elim
  | @tup a xs ds h1 h2 =>
    cases du with
    | @tup b ys es k1 k2 =>
      have z : ds.length + es.length ≤ sizeLine ∧ Q (.tup (ds ++ es)) M := hs
      refine .inr (.inr (.inl ⟨a, b, xs, ys, rfl, rfl, sqT_mono c.sub h1, sqT_mono c.sub k1, by rw [h2.length, k2.length]; exact z.1, fun q => ?_, fun q1 q2 => ?_, fun q1 q2 p hp => ?_⟩))
      · have e : ds = [] := h2.nil_of.mp q
        subst e
        exact hR F H M _ _ (Same.refl F) c (.tup k1 k2) z.2
      · have e : es = [] := k2.nil_of.mp q2
        subst e
        have z2 := z.2
        rw [List.append_nil] at z2
        exact hR F H M _ _ (Same.refl F) c (.tup h1 h2) z2
      · have s := same_new (o := .tup (xs ++ ys)) (c.sub.free hp)
        exact hR _ _ M _ _ s (c.new hp) (.tup (.inl (.inl upd_same)) ((h2.append k2).mono s)) z.2
    | _ => exact hs.elim
  | @lst a xs ds h1 h2 =>
    cases du with
    | @lst b ys es k1 k2 =>
      have z : ds.length + es.length ≤ sizeLine ∧ Q (.lst (ds ++ es)) M := hs
      refine .inr (.inr (.inr ⟨a, b, xs, ys, rfl, rfl, c.sub _ _ h1, c.sub _ _ k1, by rw [h2.length, k2.length]; exact z.1, fun p hp => ?_⟩))
      have s := same_new (o := .lst (xs ++ ys)) (c.sub.free hp)
      exact hR _ _ M _ _ s (c.new hp) (.lst upd_same ((h2.append k2).mono s)) z.2
    | _ => exact hs.elim
  | _ => cases du <;> exact hs.elim
/-- ints in, under a condition, and a value out -/
theorem we_I {a b : Expr} {op : Operator} {C : Int → Int → Prop} {g : Int → Int → Int} {Q : D → MM → Prop} (ho : OpR X (binaryOp op) (rI C fun i j => .int (g i j)))
    (h : WE X a Γ M fun x M1 => WE X b Γ M1 fun y M2 => ∃ i j, x = .int i ∧ y = .int j ∧ C i j ∧ Q (.int (g i j)) M2) : WE X (.BinOp a op b pos) Γ M Q := by
  refine we_bin (S := fun x y M Q => ∃ i j, x = .int i ∧ y = .int j ∧ C i j ∧ Q (.int (g i j)) M) ho (fun x y M hs => ?_) h
  intro F H v u c dv du R hR
  obtain ⟨i, j, rfl, rfl, hc, q⟩ := hs
  cases dv
  cases du
  exact ⟨i, j, rfl, rfl, hc, hR F H M _ _ (Same.refl F) c (.int _) q⟩
/-- ints in, a condition -/
@[reducible] def IQ (C : Int → Int → Prop) (g : Int → Int → D) (x y : D) (M : MM) (Q : D → MM → Prop) : Prop := match x, y with
  | .int i, .int j => C i j ∧ Q (g i j) M
  | _, _ => False
@[reducible] def I0 (g : Int → Int → D) (x y : D) (M : MM) (Q : D → MM → Prop) : Prop := match x, y with
  | .int i, .int j => Q (g i j) M
  | _, _ => False
theorem opd_I {C : Int → Int → Prop} {g : Int → Int → Int} {x y : D} {Q : D → MM → Prop} (hs : IQ C (fun i j => .int (g i j)) x y M Q) : OpD X (rI C fun i j => .int (g i j)) x y M Q := by
  intro F H v u c dv du R hR
  cases dv with
  | int i =>
    cases du with
    | int j => exact ⟨i, j, rfl, rfl, hs.1, hR F H M _ _ (Same.refl F) c (.int _) hs.2⟩
    | _ => exact hs.elim
  | _ => cases du <;> exact hs.elim
theorem opd_I0 {g : Int → Int → Int} {x y : D} {Q : D → MM → Prop} (hs : I0 (fun i j => .int (g i j)) x y M Q) : OpD X (rI0 fun i j => .int (g i j)) x y M Q := by
  intro F H v u c dv du R hR
  cases dv with
  | int i =>
    cases du with
    | int j => exact ⟨i, j, rfl, rfl, hR F H M _ _ (Same.refl F) c (.int _) hs⟩
    | _ => exact hs.elim
  | _ => cases du <;> exact hs.elim
theorem opd_B0 {g : Int → Int → Bool} {x y : D} {Q : D → MM → Prop} (hs : I0 (fun i j => .bl (g i j)) x y M Q) : OpD X (rI0 fun i j => .bl (g i j)) x y M Q := by
  intro F H v u c dv du R hR
  cases dv with
  | int i =>
    cases du with
    | int j => exact ⟨i, j, rfl, rfl, hR F H M _ _ (Same.refl F) c (.bl _) hs⟩
    | _ => exact hs.elim
  | _ => cases du <;> exact hs.elim
theorem we_sub {a b : Expr} {Q : D → MM → Prop} (h : WE X a Γ M fun x M1 => WE X b Γ M1 fun y M2 => I0 (fun i j => .int (i - j)) x y M2 Q) : WE X (.BinOp a .Sub b pos) Γ M Q :=
  we_bin (S := I0 fun i j => .int (i - j)) op_sub (fun _ _ _ hs => opd_I0 hs) h
theorem we_mul {a b : Expr} {Q : D → MM → Prop} (h : WE X a Γ M fun x M1 => WE X b Γ M1 fun y M2 => IQ CMul (fun i j => .int (i * j)) x y M2 Q) : WE X (.BinOp a .Mult b pos) Γ M Q :=
  we_bin (S := IQ CMul fun i j => .int (i * j)) op_mul (fun _ _ _ hs => opd_I hs) h
theorem we_fdiv {a b : Expr} {Q : D → MM → Prop} (h : WE X a Γ M fun x M1 => WE X b Γ M1 fun y M2 => IQ CDiv (fun i j => .int (i / j)) x y M2 Q) : WE X (.BinOp a .FloorDiv b pos) Γ M Q :=
  we_bin (S := IQ CDiv fun i j => .int (i / j)) op_fdiv (fun _ _ _ hs => opd_I hs) h
theorem we_mod {a b : Expr} {Q : D → MM → Prop} (h : WE X a Γ M fun x M1 => WE X b Γ M1 fun y M2 => IQ (fun _ j => 0 < j) (fun i j => .int (i % j)) x y M2 Q) : WE X (.BinOp a .Mod b pos) Γ M Q :=
  we_bin (S := IQ (fun _ j => 0 < j) fun i j => .int (i % j)) op_mod (fun _ _ _ hs => opd_I hs) h
theorem we_pow {a b : Expr} {Q : D → MM → Prop} (h : WE X a Γ M fun x M1 => WE X b Γ M1 fun y M2 => IQ CPow (fun i j => .int (i ^ j.toNat)) x y M2 Q) : WE X (.BinOp a .Pow b pos) Γ M Q :=
  we_bin (S := IQ CPow fun i j => .int (i ^ j.toNat)) op_pow (fun _ _ _ hs => opd_I hs) h
theorem we_neg {a : Expr} {Q : D → MM → Prop} (h : WE X a Γ M fun x M1 => ∃ i, x = .int i ∧ Q (.int (-i)) M1) : WE X (.UnaryOp .USub a pos) Γ M Q := ⟨fun F σ H he hc R hR => by
  refine ⟨_, pe_un un_neg pe_wp, h.run F σ H he hc _ fun F1 H1 M1 v x e1 c1 d1 h1 => ?_⟩
  obtain ⟨i, rfl, q⟩ := h1
  cases d1
  exact ⟨i, rfl, hR F1 H1 M1 _ _ e1 c1 (.int _) q⟩⟩

/-! ### comparisons -/
theorem we_lt {a b : Expr} {Q : D → MM → Prop} (h : WE X a Γ M fun x M1 => WE X b Γ M1 fun y M2 => I0 (fun i j => .bl (decide (i < j))) x y M2 Q) : WE X (.Compare a [.Lt] [b] pos) Γ M Q :=
  we_cmpR (S := I0 fun i j => .bl (decide (i < j))) op_lt (fun _ _ _ hs => opd_B0 hs) (nomark _) h
theorem we_le {a b : Expr} {Q : D → MM → Prop} (h : WE X a Γ M fun x M1 => WE X b Γ M1 fun y M2 => I0 (fun i j => .bl (decide (i ≤ j))) x y M2 Q) : WE X (.Compare a [.LtE] [b] pos) Γ M Q :=
  we_cmpR (S := I0 fun i j => .bl (decide (i ≤ j))) op_le (fun _ _ _ hs => opd_B0 hs) (nomark _) h
theorem we_gt {a b : Expr} {Q : D → MM → Prop} (h : WE X a Γ M fun x M1 => WE X b Γ M1 fun y M2 => I0 (fun i j => .bl (decide (j < i))) x y M2 Q) : WE X (.Compare a [.Gt] [b] pos) Γ M Q :=
  we_cmpR (S := I0 fun i j => .bl (decide (j < i))) op_gt (fun _ _ _ hs => opd_B0 hs) (nomark _) h
theorem we_ge {a b : Expr} {Q : D → MM → Prop} (h : WE X a Γ M fun x M1 => WE X b Γ M1 fun y M2 => I0 (fun i j => .bl (decide (j ≤ i))) x y M2 Q) : WE X (.Compare a [.GtE] [b] pos) Γ M Q :=
  we_cmpR (S := I0 fun i j => .bl (decide (j ≤ i))) op_ge (fun _ _ _ hs => opd_B0 hs) (nomark _) h
theorem wt_lt {a b : Expr} {Q : Bool → MM → Prop} (h : WE X a Γ M fun x M1 => WE X b Γ M1 fun y M2 => I0 (fun i j => .bl (decide (i < j))) x y M2 (asB Q)) : WT X (.Compare a [.Lt] [b] pos) Γ M Q :=
  wt_cmpR (S := I0 fun i j => .bl (decide (i < j))) op_lt (fun _ _ _ hs => opd_B0 hs) (nomark _) h
theorem wt_le {a b : Expr} {Q : Bool → MM → Prop} (h : WE X a Γ M fun x M1 => WE X b Γ M1 fun y M2 => I0 (fun i j => .bl (decide (i ≤ j))) x y M2 (asB Q)) : WT X (.Compare a [.LtE] [b] pos) Γ M Q :=
  wt_cmpR (S := I0 fun i j => .bl (decide (i ≤ j))) op_le (fun _ _ _ hs => opd_B0 hs) (nomark _) h
theorem wt_gt {a b : Expr} {Q : Bool → MM → Prop} (h : WE X a Γ M fun x M1 => WE X b Γ M1 fun y M2 => I0 (fun i j => .bl (decide (j < i))) x y M2 (asB Q)) : WT X (.Compare a [.Gt] [b] pos) Γ M Q :=
  wt_cmpR (S := I0 fun i j => .bl (decide (j < i))) op_gt (fun _ _ _ hs => opd_B0 hs) (nomark _) h
theorem wt_ge {a b : Expr} {Q : Bool → MM → Prop} (h : WE X a Γ M fun x M1 => WE X b Γ M1 fun y M2 => I0 (fun i j => .bl (decide (j ≤ i))) x y M2 (asB Q)) : WT X (.Compare a [.GtE] [b] pos) Γ M Q :=
  wt_cmpR (S := I0 fun i j => .bl (decide (j ≤ i))) op_ge (fun _ _ _ hs => opd_B0 hs) (nomark _) h
end

/-! ### data as the library's data -/
mutual
def py : D → Option PyData
  | .non => some .none
  | .bl b => some (.bool b)
  | .int i => some (.int i)
  | .str s => some (.str s)
  | .lst ds => (pys ds).map .list
  | .frz ds => (pys ds).map .list
  | .tup ds => (pys ds).map .tuple
  | .raw _ => none
  | .ins _ _ _ => none
  | .pin _ _ => none
  | .exc _ _ _ => none
  | .dct _ _ => none
  | .xcp _ _ _ _ => none
def pys : List D → Option (List PyData)
  | [] => some []
  | d :: ds => (py d).bind fun x => (pys ds).map fun xs => x :: xs
end
section
variable {K : PySem.W.Frag} {F H : Hp}
mutual
theorem dp_of (e : Same F H) : ∀ {v : V} {d : D} {q : PyData}, Dn K F v d → py d = some q → Dp K H v q
  | _, _, _, .non, h => by simp only [py] at h; cases h; exact .non
  | _, _, _, .bl b, h => by simp only [py] at h; cases h; exact .bl b
  | _, _, _, .int i, h => by simp only [py] at h; cases h; exact .int i
  | _, _, _, .str s, h => by simp only [py] at h; cases h; exact .str s
  | _, _, _, .lst h1 h2, h => by
    simp only [py] at h
    obtain ⟨qs, e1, rfl⟩ := Option.map_eq_some_iff.mp h
    exact .lst (.inl (.inl (e _ _ h1))) (dps_of e h2 e1)
  | _, _, _, .frz h1 h2, h => by
    simp only [py] at h
    obtain ⟨qs, e1, rfl⟩ := Option.map_eq_some_iff.mp h
    exact .lst (sqL_mono e h1) (dps_of e h2 e1)
  | _, _, _, .tup h1 h2, h => by
    simp only [py] at h
    obtain ⟨qs, e1, rfl⟩ := Option.map_eq_some_iff.mp h
    exact .tup (sqT_mono e h1) (dps_of e h2 e1)
  | _, _, _, .raw _, h => by simp only [py] at h; cases h
  | _, _, _, .ins _ _ _, h => by simp only [py] at h; cases h
theorem dps_of (e : Same F H) : ∀ {vs : List V} {ds : List D} {qs : List PyData}, Dns K F vs ds → pys ds = some qs → DpAll K H vs qs
  | _, _, _, .nil, h => by simp only [pys] at h; cases h; exact .nil
  | _, _, _, .cons h1 h2, h => by
    simp only [pys] at h
    obtain ⟨x, e1, h3⟩ := Option.bind_eq_some_iff.mp h
    obtain ⟨xs, e2, rfl⟩ := Option.map_eq_some_iff.mp h3
    exact .cons (dp_of e h1 e1) (dps_of e h2 e2)
end
end
/-- == as data -/
@[reducible] def EqQ (x y : D) (M : MM) (Q : Bool → MM → Prop) : Prop := match x, y with
  | .int i, .int j => Q (decide (i = j)) M
  | .str s, .str t => Q (decide (s = t)) M
  | .bl a, .bl b => Q (decide (a = b)) M
  | x, y => ∃ p q, py x = some p ∧ py y = some q ∧ SeqAt.shaped p = true ∧ SeqAt.shaped q = true ∧ Q (PyData.eqv p q) M
section
variable {X : Cx} {Γ : G} {M : MM} {pos p : Pos}
theorem opd_eq (f : Bool → Bool) {r : R2} {x y : D} {Q : D → MM → Prop} (h1 : ∀ v u H R, scal v u = true → R (.bl (f (decide (v = u)))) H → r v u H R)
    (h2 : ∀ v u H R, (∃ d e, Dp X.K H v d ∧ Dp X.K H u e ∧ SeqAt.shaped d = true ∧ SeqAt.shaped e = true ∧ R (.bl (f (PyData.eqv d e))) H) → r v u H R)
    (hs : EqQ x y M fun b M => Q (.bl (f b)) M) : OpD X r x y M Q := by
  intro F H v u c dv du R hR
  have deep : (∃ p q, py x = some p ∧ py y = some q ∧ SeqAt.shaped p = true ∧ SeqAt.shaped q = true ∧ Q (.bl (f (PyData.eqv p q))) M) → r v u H R := fun ⟨p, q, a1, a2, a3, a4, a5⟩ =>
    h2 v u H R ⟨p, q, dp_of c.sub dv a1, dp_of c.sub du a2, a3, a4, hR F H M _ _ (Same.refl F) c (.bl _) a5⟩
  cases dv with
  | int i =>
    cases du with
    | int j => exact h1 _ _ H R rfl (by
        have e : decide (V.int i = V.int j) = decide (i = j) := by simp
        rw [e]; exact hR F H M _ _ (Same.refl F) c (.bl _) hs)
    | _ => exact deep hs
  | str s =>
    cases du with
    | str t => exact h1 _ _ H R rfl (by
        have e : decide (V.str s = V.str t) = decide (s = t) := by simp
        rw [e]; exact hR F H M _ _ (Same.refl F) c (.bl _) hs)
    | _ => exact deep hs
  | bl s =>
    cases du with
    | bl t => exact h1 _ _ H R rfl (by
        have e : decide (V.bl s = V.bl t) = decide (s = t) := by simp
        rw [e]; exact hR F H M _ _ (Same.refl F) c (.bl _) hs)
    | _ => exact deep hs
  | _ => cases du <;> exact deep hs
theorem we_eq {a b : Expr} {Q : D → MM → Prop} (hu : X.A.units + 64 < cLine) (h : WE X a Γ M fun x M1 => WE X b Γ M1 fun y M2 => EqQ x y M2 fun b M => Q (.bl b) M) : WE X (.Compare a [.Eq] [b] pos) Γ M Q :=
  we_cmpR (S := fun x y M Q => EqQ x y M fun b M => Q (.bl b) M) (op_eq.or (op_eqD hu)) (fun _ _ _ hs => opd_eq id (fun _ _ _ _ a b => .inl ⟨a, b⟩) (fun _ _ _ _ a => .inr a) hs) (nomark _) h
theorem we_ne {a b : Expr} {Q : D → MM → Prop} (hu : X.A.units + 64 < cLine) (h : WE X a Γ M fun x M1 => WE X b Γ M1 fun y M2 => EqQ x y M2 fun b M => Q (.bl (!b)) M) : WE X (.Compare a [.NotEq] [b] pos) Γ M Q :=
  we_cmpR (S := fun x y M Q => EqQ x y M fun b M => Q (.bl (!b)) M) (op_ne.or (op_neD hu)) (fun _ _ _ hs => opd_eq not (fun _ _ _ _ a b => .inl ⟨a, b⟩) (fun _ _ _ _ a => .inr a) hs) (nomark _) h
theorem EqQ.imp {x y : D} {Q Q' : Bool → MM → Prop} (h : EqQ x y M Q) (hq : ∀ b M, Q b M → Q' b M) : EqQ x y M Q' := by
  unfold EqQ at h ⊢
  split at h
  · exact hq _ _ h
  · exact hq _ _ h
  · exact hq _ _ h
  · obtain ⟨p, q, a1, a2, a3, a4, a5⟩ := h
    exact ⟨p, q, a1, a2, a3, a4, hq _ _ a5⟩
theorem wt_eq {a b : Expr} {Q : Bool → MM → Prop} (hu : X.A.units + 64 < cLine) (h : WE X a Γ M fun x M1 => WE X b Γ M1 fun y M2 => EqQ x y M2 Q) : WT X (.Compare a [.Eq] [b] pos) Γ M Q :=
  wt_cmpR (S := fun x y M Q => EqQ x y M fun b M => Q (.bl b) M) (op_eq.or (op_eqD hu)) (fun _ _ _ hs => opd_eq id (fun _ _ _ _ a b => .inl ⟨a, b⟩) (fun _ _ _ _ a => .inr a) hs) (nomark _)
    (h.imp fun x M1 h1 => h1.imp fun y M2 h2 => h2.imp fun b M q => ⟨b, rfl, q⟩)
theorem wt_ne {a b : Expr} {Q : Bool → MM → Prop} (hu : X.A.units + 64 < cLine) (h : WE X a Γ M fun x M1 => WE X b Γ M1 fun y M2 => EqQ x y M2 fun b M => Q (!b) M) : WT X (.Compare a [.NotEq] [b] pos) Γ M Q :=
  wt_cmpR (S := fun x y M Q => EqQ x y M fun b M => Q (.bl (!b)) M) (op_ne.or (op_neD hu)) (fun _ _ _ hs => opd_eq not (fun _ _ _ _ a b => .inl ⟨a, b⟩) (fun _ _ _ _ a => .inr a) hs) (nomark _)
    (h.imp fun x M1 h1 => h1.imp fun y M2 h2 => h2.imp fun b M q => ⟨!b, rfl, q⟩)
/-- is None -/
@[reducible] def isNon : D → Bool
  | .non => true
  | .pin _ .non => true
  | _ => false
theorem isNon_of {K : PySem.W.Frag} {F : Hp} {v : V} {d : D} (h : Dn K F v d) : decide (v = .non) = isNon d := by
  cases h with
  | pin s n h => cases h <;> first | rfl | cases n
  | _ => rfl
theorem we_isN {a : Expr} {j p2} {Q : D → MM → Prop} (h : WE X a Γ M fun x M1 => Q (.bl (isNon x)) M1) : WE X (.Compare a [.Is] [.Constant .none j p2] pos) Γ M Q := ⟨fun F σ H he hc R hR => by
  refine ⟨_, pe_cmpR op_isN pe_wp pe_non (nomark _), h.run F σ H he hc _ fun F1 H1 M1 v x e1 c1 d1 h1 => ?_⟩
  exact ⟨rfl, by rw [isNon_of d1]; exact hR F1 H1 M1 _ _ e1 c1 (.bl _) h1⟩⟩
theorem we_notN {a : Expr} {j p2} {Q : D → MM → Prop} (h : WE X a Γ M fun x M1 => Q (.bl (!isNon x)) M1) : WE X (.Compare a [.IsNot] [.Constant .none j p2] pos) Γ M Q := ⟨fun F σ H he hc R hR => by
  refine ⟨_, pe_cmpR op_notN pe_wp pe_non (nomark _), h.run F σ H he hc _ fun F1 H1 M1 v x e1 c1 d1 h1 => ?_⟩
  exact ⟨rfl, by rw [isNon_of d1]; exact hR F1 H1 M1 _ _ e1 c1 (.bl _) h1⟩⟩
theorem wt_isN {a : Expr} {j p2} {Q : Bool → MM → Prop} (h : WE X a Γ M fun x M1 => Q (isNon x) M1) : WT X (.Compare a [.Is] [.Constant .none j p2] pos) Γ M Q := ⟨fun F σ H he hc R hR => by
  refine ⟨_, pt_cmpR op_isN pe_wp pe_non (nomark _), h.run F σ H he hc _ fun F1 H1 M1 v x e1 c1 d1 h1 => ?_⟩
  exact ⟨rfl, _, rfl, by rw [isNon_of d1]; exact hR F1 H1 M1 _ e1 c1 h1⟩⟩
theorem wt_notN {a : Expr} {j p2} {Q : Bool → MM → Prop} (h : WE X a Γ M fun x M1 => Q (!isNon x) M1) : WT X (.Compare a [.IsNot] [.Constant .none j p2] pos) Γ M Q := ⟨fun F σ H he hc R hR => by
  refine ⟨_, pt_cmpR op_notN pe_wp pe_non (nomark _), h.run F σ H he hc _ fun F1 H1 M1 v x e1 c1 d1 h1 => ?_⟩
  exact ⟨rfl, _, rfl, by rw [isNon_of d1]; exact hR F1 H1 M1 _ e1 c1 h1⟩⟩
end
end DL

set_option Elab.async false
set_option linter.all false
set_option autoImplicit false
set_option maxRecDepth 100000
set_option maxHeartbeats 2000000
namespace DL
open PySem L2

section
variable {X : Cx} {Γ : G} {M : MM} {pos p : Pos}
/-! ### tests -/
theorem wt_val {e : Expr} {Q : Bool → MM → Prop} (h : WE X e Γ M (asB Q)) (he : ∀ whole, isTrue e X.env whole = (do let v ← whole; standAt e.pos; holding [v] (truthy v)) := by intro _; rfl) : WT X e Γ M Q := ⟨fun F σ H ho hc R hR => by
  refine ⟨_, pt_val pe_wp he, h.run F σ H ho hc _ fun F1 H1 M1 v x e1 c1 d1 ⟨b, hb, q⟩ => ?_⟩
  subst hb
  cases d1
  exact ⟨b, rfl, hR F1 H1 M1 b e1 c1 q⟩⟩
theorem wt_not {e : Expr} {Q : Bool → MM → Prop} (h : WT X e Γ M fun b M => Q (!b) M) : WT X (.UnaryOp .Not e pos) Γ M Q := ⟨fun F σ H ho hc R hR =>
  ⟨_, pt_not pt_wp, h.run F σ H ho hc _ fun F1 H1 M1 b e1 c1 q => hR F1 H1 M1 _ e1 c1 q⟩⟩
theorem wt_ww {e : Expr} {Q : Bool → MM → Prop} (h : WW X e Γ M Q) : WT X e Γ M Q := ⟨fun F σ H ho hc R hR => by
  obtain ⟨t, p, q⟩ := h.run F σ H ho hc R hR
  exact ⟨t, p.pt, q⟩⟩
theorem ww_and1 {a : Expr} {Q : Bool → MM → Prop} (h : WT X a Γ M Q) : WW X (.BoolOp .And [a] pos) Γ M Q := ⟨fun F σ H ho hc R hR =>
  ⟨_, pw_and1 pt_wp, h.run F σ H ho hc R hR⟩⟩
theorem ww_or1 {a : Expr} {Q : Bool → MM → Prop} (h : WT X a Γ M Q) : WW X (.BoolOp .Or [a] pos) Γ M Q := ⟨fun F σ H ho hc R hR =>
  ⟨_, pw_or1 pt_wp, h.run F σ H ho hc R hR⟩⟩
theorem ww_and {a b : Expr} {rest : List Expr} {Q : Bool → MM → Prop} (h : WT X a Γ M fun c M1 => (c = true → WW X (.BoolOp .And (b :: rest) pos) Γ M1 Q) ∧ (c = false → Q false M1)) : WW X (.BoolOp .And (a :: b :: rest) pos) Γ M Q := ⟨fun F σ H ho hc R hR => by
  refine ⟨_, pw_and pt_wp pw_wp, h.run F σ H ho hc _ fun F1 H1 M1 c e1 c1 ⟨q1, q2⟩ => ?_⟩
  cases c with
  | true =>
    rw [if_pos rfl]
    exact (q1 rfl).run F1 σ H1 (ho.mono e1) c1 R fun F2 H2 M2 b e2 c2 q => hR F2 H2 M2 b (e1.trans e2) c2 q
  | false =>
    rw [if_neg Bool.false_ne_true]
    exact hR F1 H1 M1 _ e1 c1 (q2 rfl)⟩
theorem ww_or {a b : Expr} {rest : List Expr} {Q : Bool → MM → Prop} (h : WT X a Γ M fun c M1 => (c = true → Q true M1) ∧ (c = false → WW X (.BoolOp .Or (b :: rest) pos) Γ M1 Q)) : WW X (.BoolOp .Or (a :: b :: rest) pos) Γ M Q := ⟨fun F σ H ho hc R hR => by
  refine ⟨_, pw_or pt_wp pw_wp, h.run F σ H ho hc _ fun F1 H1 M1 c e1 c1 ⟨q1, q2⟩ => ?_⟩
  cases c with
  | false =>
    rw [if_neg Bool.false_ne_true]
    exact (q2 rfl).run F1 σ H1 (ho.mono e1) c1 R fun F2 H2 M2 b e2 c2 q => hR F2 H2 M2 b (e1.trans e2) c2 q
  | true =>
    rw [if_pos rfl]
    exact hR F1 H1 M1 _ e1 c1 (q1 rfl)⟩
/-- a chain of two comparisons, as a test and as a value -/
theorem tChain_wp {a b c : Expr} {r r' : R2} {Q : D → MM → Prop} {S S' : D → D → MM → (D → MM → Prop) → Prop} (hs : ∀ x y M Q, S x y M Q → OpD X r x y M Q) (hs' : ∀ x y M, S' x y M Q → OpD X r' x y M Q)
    (h : WE X a Γ M fun x M1 => WE X b Γ M1 fun y M2 => S x y M2 fun k M3 => ∃ t, k = .bl t ∧ (t = true → WE X c Γ M3 fun z M4 => S' y z M4 Q) ∧ (t = false → Q (.bl false) M3)) {F : Hp} {σ : L2.St} {H : Hp} (he : EnvOk X.K F Γ σ) (hc : Con X.K F M H) {R : VK}
    (hR : Post X F Q R) : tChain r r' (wpE X a) (wpE X b) (wpE X c) σ H R := by
  refine h.run F σ H he hc _ fun F1 H1 M1 v x e1 c1 d1 h1 => ?_
  refine h1.run F1 σ H1 (he.mono e1) c1 _ fun F2 H2 M2 u y e2 c2 d2 h2 => ?_
  refine hs _ _ _ _ h2 F2 H2 v u c2 (d1.mono e2) d2 _ fun F3 H3 M3 w z e3 c3 d3 ⟨t, ht, q1, q2⟩ => ?_
  subst ht
  cases d3
  refine ⟨t, rfl, ?_⟩
  cases t with
  | true =>
    rw [if_pos rfl]
    refine (q1 rfl).run F3 σ H3 (he.mono ((e1.trans e2).trans e3)) c3 _ fun F4 H4 M4 w z e4 c4 d4 q => ?_
    exact hs' _ _ _ q F4 H4 u w c4 (d2.mono (e3.trans e4)) d4 R fun F5 H5 M5 w z e5 c5 d5 q => hR F5 H5 M5 w z ((((e1.trans e2).trans e3).trans e4).trans e5) c5 d5 q
  | false =>
    rw [if_neg Bool.false_ne_true]
    exact hR F3 H3 M3 _ _ ((e1.trans e2).trans e3) c3 (.bl false) (q2 rfl)
/-- the comparison's way on ints -/
inductive CmpI : CmpOp → (Int → Int → Bool) → Prop
  | lt : CmpI .Lt fun i j => decide (i < j)
  | le : CmpI .LtE fun i j => decide (i ≤ j)
  | gt : CmpI .Gt fun i j => decide (j < i)
  | ge : CmpI .GtE fun i j => decide (j ≤ i)
theorem CmpI.op {op : CmpOp} {g : Int → Int → Bool} (h : CmpI op g) : OpR X (compareOp op) (rI0 fun i j => .bl (g i j)) := by
  cases h
  · exact op_lt
  · exact op_le
  · exact op_gt
  · exact op_ge
theorem we_chain {a b c : Expr} {op op' : CmpOp} {g g' : Int → Int → Bool} {Q : D → MM → Prop} (k : CmpI op g) (k' : CmpI op' g')
    (h : WE X a Γ M fun x M1 => WE X b Γ M1 fun y M2 => I0 (fun i j => .bl (g i j)) x y M2 fun k M3 => ∃ t, k = .bl t ∧ (t = true → WE X c Γ M3 fun z M4 => I0 (fun i j => .bl (g' i j)) y z M4 Q) ∧ (t = false → Q (.bl false) M3))
    (hm : lastMarks [op, op'] [b, c] = false := by with_unfolding_all rfl) : WE X (.Compare a [op, op'] [b, c] pos) Γ M Q := ⟨fun F σ H he hc R hR =>
  ⟨_, pe_chain k.op k'.op pe_wp pe_wp pe_wp hm, tChain_wp (S := I0 fun i j => .bl (g i j)) (S' := I0 fun i j => .bl (g' i j)) (fun _ _ _ _ hs => opd_B0 hs) (fun _ _ _ hs => opd_B0 hs) h he hc hR⟩⟩
theorem wt_chain {a b c : Expr} {op op' : CmpOp} {g g' : Int → Int → Bool} {Q : Bool → MM → Prop} (k : CmpI op g) (k' : CmpI op' g')
    (h : WE X a Γ M fun x M1 => WE X b Γ M1 fun y M2 => I0 (fun i j => .bl (g i j)) x y M2 fun k M3 => ∃ t, k = .bl t ∧ (t = true → WE X c Γ M3 fun z M4 => I0 (fun i j => .bl (g' i j)) y z M4 (asB Q)) ∧ (t = false → Q false M3))
    (hm : lastMarks [op, op'] [b, c] = false := by with_unfolding_all rfl) : WT X (.Compare a [op, op'] [b, c] pos) Γ M Q := ⟨fun F σ H he hc R hR => by
  refine ⟨_, pt_chain k.op k'.op pe_wp pe_wp pe_wp hm, ?_⟩
  refine tChain_wp (Q := asB Q) (S := I0 fun i j => .bl (g i j)) (S' := I0 fun i j => .bl (g' i j)) (fun _ _ _ _ hs => opd_B0 hs) (fun _ _ _ hs => opd_B0 hs) ?_ he hc fun F' H' M' w z e c d ⟨b, hb, q⟩ => ?_
  · refine h.imp fun x M1 h1 => h1.imp fun y M2 h2 => ?_
    cases x with
    | int i =>
      cases y with
      | int j =>
        obtain ⟨t, ht, q1, q2⟩ : ∃ t, D.bl (g i j) = .bl t ∧ _ ∧ _ := h2
        exact ⟨t, ht, q1, fun ht => ⟨false, rfl, q2 ht⟩⟩
      | _ => exact h2.elim
    | _ => cases y <;> exact h2.elim
  · subst hb
    cases d
    exact ⟨b, rfl, hR F' H' M' b e c q⟩⟩
/-! ### and, or, not as values (bools) -/
theorem we_one {op} {a : Expr} {Q : D → MM → Prop} (h : WE X a Γ M Q) : WE X (.BoolOp op [a] pos) Γ M Q := ⟨fun F σ H he hc R hR => ⟨_, pe_one pe_wp, h.run F σ H he hc R hR⟩⟩
theorem we_and {a b : Expr} {rest : List Expr} {Q : D → MM → Prop} (h : WE X a Γ M fun x M1 => ∃ c, x = .bl c ∧ (c = true → WE X (.BoolOp .And (b :: rest) pos) Γ M1 Q) ∧ (c = false → Q (.bl false) M1)) : WE X (.BoolOp .And (a :: b :: rest) pos) Γ M Q := ⟨fun F σ H he hc R hR => by
  refine ⟨_, pe_and pe_wp pe_wp, h.run F σ H he hc _ fun F1 H1 M1 v x e1 c1 d1 ⟨c, hx, q1, q2⟩ => ?_⟩
  subst hx
  cases d1
  refine ⟨c, rfl, ?_⟩
  cases c with
  | true =>
    rw [if_pos rfl]
    exact (q1 rfl).run F1 σ H1 (he.mono e1) c1 R fun F2 H2 M2 v d e2 c2 d2 q => hR F2 H2 M2 v d (e1.trans e2) c2 d2 q
  | false =>
    rw [if_neg Bool.false_ne_true]
    exact hR F1 H1 M1 _ _ e1 c1 (.bl false) (q2 rfl)⟩
theorem we_or {a b : Expr} {rest : List Expr} {Q : D → MM → Prop} (h : WE X a Γ M fun x M1 => ∃ c, x = .bl c ∧ (c = true → Q (.bl true) M1) ∧ (c = false → WE X (.BoolOp .Or (b :: rest) pos) Γ M1 Q)) : WE X (.BoolOp .Or (a :: b :: rest) pos) Γ M Q := ⟨fun F σ H he hc R hR => by
  refine ⟨_, pe_or pe_wp pe_wp, h.run F σ H he hc _ fun F1 H1 M1 v x e1 c1 d1 ⟨c, hx, q1, q2⟩ => ?_⟩
  subst hx
  cases d1
  refine ⟨c, rfl, ?_⟩
  cases c with
  | false =>
    rw [if_neg Bool.false_ne_true]
    exact (q2 rfl).run F1 σ H1 (he.mono e1) c1 R fun F2 H2 M2 v d e2 c2 d2 q => hR F2 H2 M2 v d (e1.trans e2) c2 d2 q
  | true =>
    rw [if_pos rfl]
    exact hR F1 H1 M1 _ _ e1 c1 (.bl true) (q1 rfl)⟩
theorem we_not {a : Expr} {Q : D → MM → Prop} (h : WE X a Γ M fun x M1 => ∃ c, x = .bl c ∧ Q (.bl (!c)) M1) : WE X (.UnaryOp .Not a pos) Γ M Q := ⟨fun F σ H he hc R hR => by
  refine ⟨_, pe_not pe_wp, h.run F σ H he hc _ fun F1 H1 M1 v x e1 c1 d1 ⟨c, hx, q⟩ => ?_⟩
  subst hx
  cases d1
  exact ⟨c, rfl, hR F1 H1 M1 _ _ e1 c1 (.bl _) q⟩⟩
theorem we_if {c a b : Expr} {Q : D → MM → Prop} (h : WT X c Γ M fun t M1 => (t = true → WE X a Γ M1 Q) ∧ (t = false → WE X b Γ M1 Q)) : WE X (.IfExp c a b pos) Γ M Q := ⟨fun F σ H he hc R hR => by
  refine ⟨_, pe_ifExp pt_wp pe_wp pe_wp, h.run F σ H he hc _ fun F1 H1 M1 t e1 c1 ⟨q1, q2⟩ => ?_⟩
  have hR' : Post X F1 Q R := fun F2 H2 M2 v d e2 c2 d2 q => hR F2 H2 M2 v d (e1.trans e2) c2 d2 q
  cases t with
  | true =>
    rw [if_pos rfl]
    exact (q1 rfl).run F1 σ H1 (he.mono e1) c1 R hR'
  | false =>
    rw [if_neg Bool.false_ne_true]
    exact (q2 rfl).run F1 σ H1 (he.mono e1) c1 R hR'⟩

/-! ### arguments, displays -/
theorem WA.imp {es : List Expr} {Q Q' : List D → MM → Prop} (h : WA X es Γ M Q) (hq : ∀ d M', Q d M' → Q' d M') : WA X es Γ M Q' := ⟨fun F σ H he hc R hR =>
  h.run F σ H he hc R fun F' H' M' v d a b c q => hR F' H' M' v d a b c (hq d M' q)⟩
theorem wa_nil {Q : List D → MM → Prop} (h : Q [] M) : WA X [] Γ M Q := ⟨fun F σ H he hc R hR => ⟨_, pa_nil, hR F H M _ _ (Same.refl F) hc .nil h⟩⟩
theorem wa_cons {e : Expr} {es : List Expr} {Q : List D → MM → Prop} (h : WE X e Γ M fun x M1 => WA X es Γ M1 fun xs M2 => Q (x :: xs) M2) (hs : starEach (e :: es) X.env = (false, eval e X.env) :: starEach es X.env := by rfl) : WA X (e :: es) Γ M Q := ⟨fun F σ H he hc R hR => by
  refine ⟨_, pa_cons pe_wp pa_wp hs, h.run F σ H he hc _ fun F1 H1 M1 v x e1 c1 d1 h1 => ?_⟩
  exact h1.run F1 σ H1 (he.mono e1) c1 _ fun F2 H2 M2 vs xs e2 c2 d2 q => hR F2 H2 M2 _ _ (e1.trans e2) c2 (.cons (d1.mono e2) d2) q⟩
/-- *e among the arguments -/
theorem wa_star {e : Expr} {es : List Expr} {Q : List D → MM → Prop} (h : WE X e Γ M fun x M1 => ∃ ds, (x = .tup ds ∨ x = .lst ds) ∧ WA X es Γ M1 fun xs M2 => Q (ds ++ xs) M2) (hs : starEach (.Starred e p :: es) X.env = (true, eval e X.env) :: starEach es X.env := by rfl) : WA X (.Starred e p :: es) Γ M Q := ⟨fun F σ H he hc R hR => by
  refine ⟨_, StX.pa_star pe_wp pa_wp hs, h.run F σ H he hc _ fun F1 H1 M1 v x e1 c1 d1 ⟨ds, hx, h1⟩ => ?_⟩
  rcases hx with hx | hx
  · subst hx
    cases d1 with
    | @tup a xs _ k1 k2 =>
      exact ⟨a, xs, rfl, .inl (sqT_mono c1.sub k1), h1.run F1 σ H1 (he.mono e1) c1 _ fun F2 H2 M2 vs ys e2 c2 d2 q => hR F2 H2 M2 _ _ (e1.trans e2) c2 ((k2.mono e2).append d2) q⟩
  · subst hx
    cases d1 with
    | @lst a xs _ k1 k2 =>
      exact ⟨a, xs, rfl, .inr (SqL.of (c1.sub _ _ k1)), h1.run F1 σ H1 (he.mono e1) c1 _ fun F2 H2 M2 vs ys e2 c2 d2 q => hR F2 H2 M2 _ _ (e1.trans e2) c2 ((k2.mono e2).append d2) q⟩⟩
theorem we_tup {es : List Expr} {x1} {Q : D → MM → Prop} (h : WA X es Γ M fun ds M1 => ds.length ≤ sizeLine ∧ Q (.tup ds) M1) : WE X (.Tuple es x1 pos) Γ M Q := ⟨fun F σ H he hc R hR => by
  refine ⟨_, pe_tup pa_wp, h.run F σ H he hc _ fun F1 H1 M1 vs ds e1 c1 d1 ⟨z, q⟩ => ⟨by rw [d1.length]; exact z, fun p hp => ?_⟩⟩
  have s := same_new (o := .tup vs) (c1.sub.free hp)
  exact hR _ _ M1 _ _ (e1.trans s) (c1.new hp) (.tup (.inl (.inl upd_same)) (d1.mono s)) q⟩
theorem we_lst {es : List Expr} {Q : D → MM → Prop} (h : WA X es Γ M fun ds M1 => ds.length ≤ sizeLine ∧ Q (.lst ds) M1) : WE X (.List es pos) Γ M Q := ⟨fun F σ H he hc R hR => by
  refine ⟨_, pe_lst pa_wp, h.run F σ H he hc _ fun F1 H1 M1 vs ds e1 c1 d1 ⟨z, q⟩ => ⟨by rw [d1.length]; exact z, fun p hp => ?_⟩⟩
  have s := same_new (o := .lst vs) (c1.sub.free hp)
  exact hR _ _ M1 _ _ (e1.trans s) (c1.new hp) (.lst upd_same (d1.mono s)) q⟩
/-- a list display that may change later -/
theorem we_lstM {es : List Expr} {Q : D → MM → Prop} (h : WA X es Γ M fun ds M1 => ds.length ≤ sizeLine ∧ ∀ a, M1 a = none → Q (.raw a) (mupd M1 a (.lst ds))) : WE X (.List es pos) Γ M Q := ⟨fun F σ H he hc R hR => by
  refine ⟨_, pe_lst pa_wp, h.run F σ H he hc _ fun F1 H1 M1 vs ds e1 c1 d1 ⟨z, q⟩ => ⟨by rw [d1.length]; exact z, fun p hp => ?_⟩⟩
  exact hR F1 _ _ _ _ e1 (c1.newM hp d1) (.raw p) (q p (c1.fresh hp))⟩

/-! ### subscripts -/
@[reducible] def IxQ (x y : D) (M : MM) (Q : D → MM → Prop) : Prop := match x, y with
  | .lst ds, .int i => ∃ d, atI ds i = some d ∧ Q d M
  | .frz ds, .int i => ∃ d, atI ds i = some d ∧ Q d M
  | .tup ds, .int i => ∃ d, atI ds i = some d ∧ Q d M
  | .raw a, .int i => ∃ ds d, M a = some (.lst ds) ∧ atI ds i = some d ∧ Q d M
  | .str s, .int i => s.length ≤ sizeLine ∧ ∃ c, atI s.cps.toList i = some c ∧ Q (.str ⟨#[c]⟩) M
  | _, _ => False
theorem atI_dn {K : PySem.W.Frag} {F : Hp} {vs : List V} {ds : List D} (h : Dns K F vs ds) {i : Int} {d : D} (e : atI ds i = some d) : ∃ v, atI vs i = some v ∧ Dn K F v d := by
  unfold atI at e ⊢
  rw [h.length]
  cases q : ixN ds.length i with
  | none => rw [q] at e; cases e
  | some j =>
    rw [q] at e
    exact h.get e
theorem we_ix {a b : Expr} {Q : D → MM → Prop} (h : WE X a Γ M fun x M1 => WE X b Γ M1 fun y M2 => IxQ x y M2 Q) (hp : PlainIx b := by exact fun _ _ => rfl) : WE X (.Subscript a b pos) Γ M Q := ⟨fun F σ H he hc R hR => by
  refine ⟨_, pe_ix ix_seq pe_wp pe_wp hp, tOp_wp (h.imp fun x M1 h1 => h1.imp fun y M2 h2 => ?_) he hc hR⟩
  intro F H v u c dv du R hR
  cases dv with
  | @lst a xs ds k1 k2 =>
    cases du with
    | int i =>
      obtain ⟨d, e, q⟩ : ∃ d, atI ds i = some d ∧ Q d M2 := h2
      obtain ⟨w, e2, dw⟩ := atI_dn k2 e
      exact .inl ⟨a, xs, i, w, rfl, rfl, SqL.of (c.sub _ _ k1), e2, hR F H M2 _ _ (Same.refl F) c dw q⟩
    | _ => exact h2.elim
  | @frz a xs ds k1 k2 =>
    cases du with
    | int i =>
      obtain ⟨d, e, q⟩ : ∃ d, atI ds i = some d ∧ Q d M2 := h2
      obtain ⟨w, e2, dw⟩ := atI_dn k2 e
      exact .inl ⟨a, xs, i, w, rfl, rfl, sqL_mono c.sub k1, e2, hR F H M2 _ _ (Same.refl F) c dw q⟩
    | _ => exact h2.elim
  | @tup a xs ds k1 k2 =>
    cases du with
    | int i =>
      obtain ⟨d, e, q⟩ : ∃ d, atI ds i = some d ∧ Q d M2 := h2
      obtain ⟨w, e2, dw⟩ := atI_dn k2 e
      exact .inr (.inl ⟨a, xs, i, w, rfl, rfl, sqT_mono c.sub k1, e2, hR F H M2 _ _ (Same.refl F) c dw q⟩)
    | _ => exact h2.elim
  | raw a =>
    cases du with
    | int i =>
      obtain ⟨ds, d, hM, e, q⟩ : ∃ ds d, M2 a = some (.lst ds) ∧ atI ds i = some d ∧ Q d M2 := h2
      obtain ⟨xs, k1, k2⟩ := c.lst hM
      obtain ⟨w, e2, dw⟩ := atI_dn k2 e
      exact .inl ⟨a, xs, i, w, rfl, rfl, SqL.of k1, e2, hR F H M2 _ _ (Same.refl F) c dw q⟩
    | _ => exact h2.elim
  | str s =>
    cases du with
    | int i =>
      obtain ⟨z, cc, e, q⟩ : s.length ≤ sizeLine ∧ ∃ c, atI s.cps.toList i = some c ∧ Q (.str ⟨#[c]⟩) M2 := h2
      exact .inr (.inr ⟨s, i, cc, rfl, rfl, z, e, hR F H M2 _ _ (Same.refl F) c (.str _) q⟩)
    | _ => exact h2.elim
  | _ => cases du <;> exact h2.elim⟩
/-- lo:hi of data -/
def cutD (xs : List D) (lo hi : Option Int) : List D := (xs.drop (HT.sIx xs.length 0 lo)).take (HT.sIx xs.length xs.length hi - HT.sIx xs.length 0 lo)
theorem Dns.cut {K : PySem.W.Frag} {F : Hp} {vs : List V} {ds : List D} (h : Dns K F vs ds) (lo hi : Option Int) : Dns K F (cutV vs lo hi) (cutD ds lo hi) := by
  unfold cutV cutD
  rw [h.length]
  exact (h.drop _).take _
theorem cutD_whole {ds : List D} {lo hi : Option Int} (h : HT.sIx ds.length 0 lo = 0 ∧ HT.sIx ds.length ds.length hi = ds.length) : cutD ds lo hi = ds := by
  unfold cutD
  rw [h.1, h.2]
  simp
structure WO (X : Cx) (e : Option Expr) (Γ : G) (M : MM) (Q : Option Int → MM → Prop) : Prop where
  run : ∀ (F : Hp) (σ : L2.St) (H : Hp), EnvOk X.K F Γ σ → Con X.K F M H → ∀ R : Option Int → Hp → Prop, (∀ (F' H' : Hp) (M' : MM) (o : Option Int), Same F F' → Con X.K F' M' H' → Q o M' → R o H') → ∃ t, PO X e t ∧ t σ H R
theorem WO.imp {e : Option Expr} {Q Q' : Option Int → MM → Prop} (h : WO X e Γ M Q) (hq : ∀ d M', Q d M' → Q' d M') : WO X e Γ M Q' := ⟨fun F σ H he hc R hR =>
  h.run F σ H he hc R fun F' H' M' o a b q => hR F' H' M' o a b (hq o M' q)⟩
theorem wo_none {Q : Option Int → MM → Prop} (h : Q none M) : WO X none Γ M Q := ⟨fun F σ H he hc R hR => ⟨_, po_none, hR F H M _ (Same.refl F) hc h⟩⟩
theorem wo_some {e : Expr} {Q : Option Int → MM → Prop} (h : WE X e Γ M fun x M1 => ∃ i, x = .int i ∧ Q (some i) M1) : WO X (some e) Γ M Q := ⟨fun F σ H he hc R hR => by
  refine ⟨_, po_some pe_wp, h.run F σ H he hc _ fun F1 H1 M1 v x e1 c1 d1 ⟨i, hx, q⟩ => ?_⟩
  subst hx
  cases d1
  exact ⟨i, rfl, hR F1 H1 M1 _ e1 c1 q⟩⟩
def wpO (X : Cx) (e : Option Expr) : TO := fun σ H Q => ∃ t, PO X e t ∧ t σ H Q
theorem po_wp {e : Option Expr} : PO X e (wpO X e) := ⟨fun pins s σ H Q I ⟨_, p, h⟩ => p.run pins s σ H Q I h⟩
@[reducible] def SlQ (x : D) (lo hi : Option Int) (M : MM) (Q : D → MM → Prop) : Prop := match x with
  | .lst ds => Q (.lst (cutD ds lo hi)) M
  | .frz ds => Q (.lst (cutD ds lo hi)) M
  | .tup ds => Q (.tup (cutD ds lo hi)) M
  | .str s => s.length ≤ sizeLine ∧ Q (.str (Txt.slice s lo hi)) M
  | .raw a => ∃ ds, M a = some (.lst ds) ∧ Q (.lst (cutD ds lo hi)) M
  | _ => False
theorem we_slice {a : Expr} {lo hi : Option Expr} {p2 : Pos} {Q : D → MM → Prop} (h : WE X a Γ M fun x M1 => WO X lo Γ M1 fun l M2 => WO X hi Γ M2 fun u M3 => SlQ x l u M3 Q) : WE X (.Subscript a (.Slice lo hi none p2) pos) Γ M Q := ⟨fun F σ H he hc R hR => by
  refine ⟨_, pe_slice (sl_list.or (sl_tupA.or C8.sl_txt)) pe_wp po_wp po_wp, ?_⟩
  refine h.run F σ H he hc _ fun F1 H1 M1 v x e1 c1 d1 h1 => ?_
  refine h1.run F1 σ H1 (he.mono e1) c1 _ fun F2 H2 M2 l e2 c2 h2 => ?_
  refine h2.run F2 σ H2 (he.mono (e1.trans e2)) c2 _ fun F3 H3 M3 u e3 c3 h3 => ?_
  have d3 := d1.mono (e2.trans e3)
  have e13 : Same F F3 := (e1.trans e2).trans e3
  cases d3 with
  | @lst a xs ds k1 k2 =>
    refine .inl ⟨a, xs, rfl, SqL.of (c3.sub _ _ k1), fun p hp => ?_⟩
    have s := same_new (o := .lst (cutV xs l u)) (c3.sub.free hp)
    exact hR _ _ M3 _ _ (e13.trans s) (c3.new hp) (.lst upd_same ((k2.cut l u).mono s)) h3
  | @frz a xs ds k1 k2 =>
    refine .inl ⟨a, xs, rfl, sqL_mono c3.sub k1, fun p hp => ?_⟩
    have s := same_new (o := .lst (cutV xs l u)) (c3.sub.free hp)
    exact hR _ _ M3 _ _ (e13.trans s) (c3.new hp) (.lst upd_same ((k2.cut l u).mono s)) h3
  | raw a =>
    obtain ⟨ds, hM, q⟩ : ∃ ds, M3 a = some (.lst ds) ∧ Q (.lst (cutD ds l u)) M3 := h3
    obtain ⟨xs, k1, k2⟩ := c3.lst hM
    refine .inl ⟨a, xs, rfl, SqL.of k1, fun p hp => ?_⟩
    have s := same_new (o := .lst (cutV xs l u)) (c3.sub.free hp)
    exact hR _ _ M3 _ _ (e13.trans s) (c3.new hp) (.lst upd_same ((k2.cut l u).mono s)) q
  | @tup a xs ds k1 k2 =>
    refine .inr (.inl ⟨a, xs, rfl, sqT_mono c3.sub k1, fun hw => ?_, fun hw p hp => ?_⟩)
    · rw [k2.length] at hw
      have z : Q (.tup (cutD ds l u)) M3 := h3
      rw [cutD_whole hw] at z
      exact hR F3 H3 M3 _ _ e13 c3 (.tup k1 k2) z
    · have s := same_new (o := .tup (cutV xs l u)) (c3.sub.free hp)
      exact hR _ _ M3 _ _ (e13.trans s) (c3.new hp) (.tup (.inl (.inl upd_same)) ((k2.cut l u).mono s)) h3
  | str s =>
    obtain ⟨z, q⟩ : s.length ≤ sizeLine ∧ Q (.str (Txt.slice s l u)) M3 := h3
    exact .inr (.inr ⟨s, rfl, z, hR F3 H3 M3 _ _ e13 c3 (.str _) q⟩)
  | _ => exact h3.elim⟩
end
end DL

set_option Elab.async false
set_option linter.all false
set_option autoImplicit false
set_option maxRecDepth 100000
set_option maxHeartbeats 2000000
namespace DL
open PySem L2

/-! ### what a def promises, over data -/
abbrev RD := List D → MM → (D → MM → Prop) → Prop
def SpD (K : PySem.W.Frag) (R : RD) : Sp := fun vs H Q _ => ∃ (F : Hp) (ds : List D) (M : MM) (Qd : D → MM → Prop), Con K F M H ∧ Dns K F vs ds ∧ R ds M Qd ∧
  ∀ (F' H' : Hp) (M' : MM) (v : V) (d : D), Same F F' → Con K F' M' H' → Dn K F' v d → Qd d M' → Q v H'
def startD (N : List Str) (ds : List D) : G := ds.map some ++ List.replicate (N.length - ds.length) none
theorem start_ok {K : PySem.W.Frag} {F : Hp} {N : List Str} {vs : List V} {ds : List D} (h : Dns K F vs ds) : EnvOk K F (startD N ds) (L2.start N vs) := by
  have hl := h.length
  refine ⟨by unfold L2.start startD; simp [hl], fun i d e => ?_⟩
  unfold startD at e
  unfold L2.start
  by_cases hi : i < ds.length
  · rw [List.getElem?_append_left (by simpa using hi), List.getElem?_map] at e
    cases q : ds[i]? with
    | none => rw [q] at e; cases e
    | some x =>
      rw [q] at e
      cases e
      obtain ⟨v, h1, h2⟩ := h.get q
      refine ⟨v, ?_, h2⟩
      rw [List.getElem?_append_left (by simp [hl]; exact hi), List.getElem?_map, h1]
      rfl
  · rw [List.getElem?_append_right (by simpa using hi), List.getElem?_replicate] at e
    split at e <;> cases e
section
variable {P : Program} {w : World} {K : PySem.W.Frag} {mg : Str → Option Value} {base : Heap}
/-- THE RULE for a def -/
theorem fn_ok {x qual : Str} {st : Stmt} {f : Addr} {fd : FuncData} {N ps : List Str} {k : Nat} {R : RD} (F : Fun K x qual st f fd) (S : FnScope N ps (defScope st)) (len : ∀ ds M Q, R ds M Q → ds.length = ps.length)
    (hbody : ∀ (cdv : Value) (A : Around) (outer : List Env) (s : Shared) (H : Hp) (E : XK), Room k (A.deeper (PyProof.Rows.envOfC qual (defScope st) s.heap.objs.size f cdv)) → ∀ (ds : List D) (M : MM) (Q : D → MM → Prop), R ds M Q →
      WS (cxOf CX0 P w K mg base N qual (defScope st) f cdv A outer s H E).nox (defBody st) (startD N ds) M { nx := fun _ M' => Q .non M', rt := Q }) : FnOk P w K mg base CX0 (k + 1) f fd ps (SpD K R) := by
  refine F.ok S (fun vs H Q E ⟨F, ds, M, Qd, c, d, r, _⟩ => d.length.trans (len ds M Qd r)) fun cdv A outer s H vs Q E hr ⟨F, ds, M, Qd, c, d, r, hq⟩ => ?_
  exact (hbody cdv A outer s H E hr ds M Qd r).run F (L2.start N vs) H (start_ok d) c _
    ⟨fun F' σ' H' Γ' M' e _ c' q => hq F' H' M' .non .non e c' .non q, fun F' H' M' v d e c' dv q => hq F' H' M' v d e c' dv q, fun _ _ _ _ _ _ _ _ h => h.elim, fun _ _ _ _ _ _ _ _ h => h.elim⟩
/-- a weaker promise -/
theorem SpD.imp {R R' : RD} (h : ∀ ds M Q, R' ds M Q → R ds M Q) : ∀ vs H Q E, SpD K R' vs H Q E → SpD K R vs H Q E := fun vs H Q E ⟨F, ds, M, Qd, a, b, c, d⟩ => ⟨F, ds, M, Qd, a, b, h _ _ _ c, d⟩

/-- a def that may be called by its name -/
structure Cal (P : Program) (w : World) (K : PySem.W.Frag) (mg : Str → Option Value) (base : Heap) (k : Nat) (x : Str) (R : RD) : Prop where
  ex : ∃ (f : Addr) (fd : FuncData) (ps : List Str), FnOk P w K mg base CX0 k f fd ps (SpD K R) ∧ mg x = some (.ref f) ∧ PySem.W.keepIn K (.ref f) = true ∧ Binds K fd ps []
/-- a method, found at the class C -/
structure Met (P : Program) (w : World) (K : PySem.W.Frag) (mg : Str → Option Value) (base : Heap) (k : Nat) (C : Addr) (m : Str) (R : RD) : Prop where
  ex : ∃ (f : Addr) (fd : FuncData) (ps : List Str), Cls K C ∧ Meth K C m f ∧ FnOk P w K mg base CX0 k f fd ps (SpD K R) ∧ Binds K fd ps []
/-- a property of the class at C -/
structure Prp (P : Program) (w : World) (K : PySem.W.Frag) (mg : Str → Option Value) (base : Heap) (k : Nat) (C : Addr) (m : Str) (R : RD) : Prop where
  ex : ∃ (p g : Addr) (fd : FuncData) (ps : List Str), Cls K C ∧ PropOf K C m p g ∧ FnOk P w K mg base CX0 k g fd ps (SpD K R) ∧ Binds K fd ps []
/-- a class that may be made by its name; R: its __init__, the new instance first -/
structure Mak (P : Program) (w : World) (K : PySem.W.Frag) (mg : Str → Option Value) (base : Heap) (k : Nat) (x : Str) (C : Addr) (R : RD) : Prop where
  ex : ∃ (f : Addr) (fd : FuncData) (ps : List Str), Mk K C f ∧ FnOk P w K mg base CX0 k f fd ps (SpD K R) ∧ mg x = some (.ref C) ∧ Binds K fd ps []
end

section
variable {X : Cx} {Γ : G} {M : MM} {pos p apos : Pos} {k j : Nat} {x m : Str} {R : RD}
theorem we_call {e : Expr} {es : List Expr} {Q : D → MM → Prop} (c : Cal X.prog X.w X.K X.mg X.base k x R) (hr : Room j X.A) (hk : k ≤ j) (h : WA X (e :: es) Γ M fun ds M1 => R ds M1 Q) (hg : Gl X x := by rfl)
    (hdb : (x == ("__debug__" : Str)) = false := by decide) (he : starEach (e :: es) X.env = (false, eval e X.env) :: starEach es X.env := by rfl) (hpl : (backTo pos (starEach es X.env)).any (·.1) = false := by rfl) :
    WE X (.Call (.Name x p) (e :: es) [] pos) Γ M Q := ⟨fun F σ H ho hc W hR => by
  obtain ⟨f, fd, ps, G, hm, kp, b⟩ := c.ex
  refine ⟨_, pe_call G (hr.mono hk) hg hm kp b .nil (L2.pass0 (X := X)) pa_wp hdb he hpl, h.run F σ H ho hc _ fun F1 H1 M1 vs ds e1 c1 d1 h1 => ?_⟩
  rw [List.append_nil]
  exact ⟨F1, ds, M1, Q, c1, d1, h1, fun F2 H2 M2 v d e2 c2 d2 q => hR F2 H2 M2 v d (e1.trans e2) c2 d2 q⟩⟩
theorem we_call0 {Q : D → MM → Prop} (c : Cal X.prog X.w X.K X.mg X.base k x R) (hr : Room j X.A) (hk : k ≤ j) (h : R [] M Q) (hg : Gl X x := by rfl)
    (hdb : (x == ("__debug__" : Str)) = false := by decide) : WE X (.Call (.Name x p) [] [] pos) Γ M Q := ⟨fun F σ H ho hc W hR => by
  obtain ⟨f, fd, ps, G, hm, kp, b⟩ := c.ex
  refine ⟨_, pe_call0 G (hr.mono hk) hg hm kp b .nil (L2.pass0 (X := X)) hdb, ?_⟩
  exact ⟨F, [], M, Q, hc, .nil, h, fun F2 H2 M2 v d e2 c2 d2 q => hR F2 H2 M2 v d e2 c2 d2 q⟩⟩
/-- the object, a class's instance that may change or stays, of which m is no attribute -/
def InsOf (M : MM) (C : Addr) (m : Str) : D → Prop
  | .raw a => ∃ ns ds, M a = some (.ins C ns ds) ∧ m ∉ ns
  | .ins C' ns _ => C' = C ∧ m ∉ ns
  | _ => False
theorem lookup_none_of {β : Type} {fs : List (Str × β)} {m : Str} (h : m ∉ fs.map (·.1)) : fs.lookup m = none := by
  induction fs with
  | nil => rfl
  | cons p fs ih =>
    obtain ⟨k, v⟩ := p
    simp only [List.map_cons, List.mem_cons, not_or] at h
    rw [List.lookup_cons]
    have e : (m == k) = false := by simpa using h.1
    rw [e]
    exact ih h.2
theorem InsOf.at {K : PySem.W.Frag} {F H : Hp} {C : Addr} {v : V} {d : D} (c : Con K F M H) (dv : Dn K F v d) (h : InsOf M C m d) : ∃ a dx fs, v = .ref a ∧ H a = some (.ins C dx fs) ∧ fs.lookup m = none := by
  cases dv with
  | raw a =>
    obtain ⟨ns, ds, hM, hm⟩ := h
    obtain ⟨_, dx, fs, h1, _, _, h4, _⟩ := c.chg a _ hM
    subst h4
    exact ⟨a, dx, fs, rfl, h1, lookup_none_of hm⟩
  | @ins a C' dx fs ns ds h1 h2 h3 =>
    obtain ⟨e, hm⟩ := h
    subst e
    subst h2
    exact ⟨a, dx, fs, rfl, c.sub _ _ h1, lookup_none_of hm⟩
  | _ => exact h.elim
theorem we_meth {C : Addr} {o e : Expr} {es : List Expr} {pl : Sem Bool} {Q : D → MM → Prop} (c : Met X.prog X.w X.K X.mg X.base k C m R) (hr : Room j X.A) (hk : k ≤ j)
    (h : WE X o Γ M fun x M1 => InsOf M1 C m x ∧ WA X (e :: es) Γ M1 fun ds M2 => R (x :: ds) M2 Q)
    (hst : starEach (e :: es) X.env = (false, eval e X.env) :: starEach es X.env := by rfl) (hpl : (backTo pos (starEach es X.env)).any (·.1) = false := by rfl)
    (ht : eval (.Call (.Attribute o m apos) (e :: es) [] pos) X.env = (do
      let ov ← eval o X.env
      standAt apos.atName
      let (f, first) ← holding [ov] (getMethod ov m pl)
      callWith pos f first (backTo pos (starEach (e :: es) X.env)) (backToKw pos (keywordEach [] X.env))) := by rfl) :
    WE X (.Call (.Attribute o m apos) (e :: es) [] pos) Γ M Q := ⟨fun F σ H ho hc W hR => by
  obtain ⟨f, fd, ps, hcl, hm, G, b⟩ := c.ex
  refine ⟨_, pe_meth (pl := pl) pe_wp hcl hm G (hr.mono hk) b .nil (L2.pass0 (X := X)) pa_wp hst hpl ht, h.run F σ H ho hc _ fun F1 H1 M1 v x e1 c1 d1 ⟨hi, h1⟩ => ?_⟩
  obtain ⟨a, dx, fs, rfl, ha, hl⟩ := hi.at c1 d1
  refine ⟨a, dx, fs, rfl, ha, hl, h1.run F1 σ H1 (ho.mono e1) c1 _ fun F2 H2 M2 vs ds e2 c2 d2 q => ?_⟩
  rw [List.append_nil]
  exact ⟨F2, x :: ds, M2, Q, c2, .cons (d1.mono e2) d2, q, fun F3 H3 M3 v d e3 c3 d3 q => hR F3 H3 M3 v d ((e1.trans e2).trans e3) c3 d3 q⟩⟩
theorem we_meth0 {C : Addr} {o : Expr} {pl : Sem Bool} {Q : D → MM → Prop} (c : Met X.prog X.w X.K X.mg X.base k C m R) (hr : Room j X.A) (hk : k ≤ j)
    (h : WE X o Γ M fun x M1 => InsOf M1 C m x ∧ R [x] M1 Q)
    (ht : eval (.Call (.Attribute o m apos) [] [] pos) X.env = (do
      let ov ← eval o X.env
      standAt apos.atName
      let (f, first) ← holding [ov] (getMethod ov m pl)
      callWith pos f first (backTo pos (starEach [] X.env)) (backToKw pos (keywordEach [] X.env))) := by rfl) :
    WE X (.Call (.Attribute o m apos) [] [] pos) Γ M Q := ⟨fun F σ H ho hc W hR => by
  obtain ⟨f, fd, ps, hcl, hm, G, b⟩ := c.ex
  refine ⟨_, pe_meth0 (pl := pl) pe_wp hcl hm G (hr.mono hk) b .nil (L2.pass0 (X := X)) ht, h.run F σ H ho hc _ fun F1 H1 M1 v x e1 c1 d1 ⟨hi, h1⟩ => ?_⟩
  obtain ⟨a, dx, fs, rfl, ha, hl⟩ := hi.at c1 d1
  exact ⟨a, dx, fs, rfl, ha, hl, F1, [x], M1, Q, c1, .cons d1 .nil, h1, fun F3 H3 M3 v d e3 c3 d3 q => hR F3 H3 M3 v d (e1.trans e3) c3 d3 q⟩⟩
/-- e.f, a property -/
theorem we_prop {C : Addr} {o : Expr} {Q : D → MM → Prop} (c : Prp X.prog X.w X.K X.mg X.base k C m R) (hr : Room j X.A) (hk : k + 1 ≤ j) (h : WE X o Γ M fun x M1 => InsOf M1 C m x ∧ R [x] M1 Q)
    (hab : attributeBase o m X.env (eval o X.env) = eval o X.env := by rfl) : WE X (.Attribute o m pos) Γ M Q := ⟨fun F σ H ho hc W hR => by
  obtain ⟨pp, g, fd, ps, hcl, hm, G, b⟩ := c.ex
  refine ⟨_, pe_prop pe_wp hcl hm G (hr.mono hk) b .nil (L2.pass0 (X := X.nox)) hab, h.run F σ H ho hc _ fun F1 H1 M1 v x e1 c1 d1 ⟨hi, h1⟩ => ?_⟩
  obtain ⟨a, dx, fs, rfl, ha, hl⟩ := hi.at c1 d1
  exact ⟨a, dx, fs, rfl, ha, F1, [x], M1, Q, c1, .cons d1 .nil, h1, fun F3 H3 M3 v d e3 c3 d3 q => hR F3 H3 M3 v d (e1.trans e3) c3 d3 q⟩⟩
/-- C(..): __init__ at the new instance, which may change -/
theorem we_make {C : Addr} {e : Expr} {es : List Expr} {Q : D → MM → Prop} (c : Mak X.prog X.w X.K X.mg X.base k x C R) (hr : Room j X.A) (hk : k + 1 ≤ j)
    (h : WA X (e :: es) Γ M fun ds M1 => ∀ a, M1 a = none → R (.raw a :: ds) (mupd M1 a (.ins C [] [])) fun d M2 => d = .non ∧ Q (.raw a) M2) (hg : Gl X x := by rfl)
    (hdb : (x == ("__debug__" : Str)) = false := by decide) (he : starEach (e :: es) X.env = (false, eval e X.env) :: starEach es X.env := by rfl) (hpl : (backTo pos (starEach es X.env)).any (·.1) = false := by rfl) :
    WE X (.Call (.Name x p) (e :: es) [] pos) Γ M Q := ⟨fun F σ H ho hc W hR => by
  obtain ⟨f, fd, ps, hmk, G, hm, b⟩ := c.ex
  refine ⟨_, pe_make hmk G (hr.mono hk) hg hm b .nil (L2.pass0 (X := X)) pa_wp hdb he hpl, h.run F σ H ho hc _ fun F1 H1 M1 vs ds e1 c1 d1 h1 => ?_⟩
  intro a dx na nd ne
  rw [List.append_nil]
  have cA : Con X.K F1 M1 (upd H1 dx (.own a)) := c1.newH nd
  have na' : (upd H1 dx (.own a)) a = none := by rw [upd_ne (Ne.symm ne)]; exact na
  have cB : Con X.K F1 M1 (upd (upd H1 dx (.own a)) a (.ins C dx [])) := cA.newH na'
  have hMa : M1 a = none := c1.fresh na
  have cC : Con X.K F1 (mupd M1 a (.ins C [] [])) (upd (upd H1 dx (.own a)) a (.ins C dx [])) := by
    refine ⟨cB.sub, fun b m e => ?_, cB.ntb, one_mupd cB.one fun _ z => by cases z⟩
    by_cases hb : b = a
    · subst hb; rw [mupd_same] at e; cases e
      exact ⟨c1.sub.free na, dx, [], upd_same, by rw [upd_ne ne]; exact upd_same, c1.sub.free nd, rfl, .nil⟩
    · rw [mupd_ne hb] at e
      exact cB.chg b m e
  refine ⟨F1, .raw a :: ds, _, _, cC, .cons (.raw a) d1, h1 a hMa, fun F2 H2 M2 v d e2 c2 d2 ⟨hd, q⟩ => ?_⟩
  subst hd
  cases d2
  exact ⟨rfl, hR F2 H2 M2 _ _ (e1.trans e2) c2 (.raw a) q⟩⟩
end
end DL

set_option Elab.async false
set_option linter.all false
set_option autoImplicit false
set_option maxRecDepth 100000
set_option maxHeartbeats 2000000
namespace DL
open PySem L2

section
variable {X : Cx} {Γ : G} {M : MM} {Φ : Fi} {pos p : Pos} {rest : List Stmt}
/-! ### statements -/
theorem ws_nil (h : Φ.nx Γ M) : WS X [] Γ M Φ := ⟨fun F σ H he hc E hE => ⟨_, pss_nil, hE.nx F σ H Γ M (Same.refl F) he hc h⟩⟩
theorem WS.imp {sts : List Stmt} {Φ' : Fi} (h : WS X sts Γ M Φ) (h1 : ∀ Γ M, Φ.nx Γ M → Φ'.nx Γ M) (h2 : ∀ d M, Φ.rt d M → Φ'.rt d M) (h3 : ∀ Γ M, Φ.bk Γ M → Φ'.bk Γ M) (h4 : ∀ Γ M, Φ.ct Γ M → Φ'.ct Γ M) : WS X sts Γ M Φ' := ⟨fun F σ H he hc E hE =>
  h.run F σ H he hc E ⟨fun F' σ' H' Γ' M' a b c q => hE.nx F' σ' H' Γ' M' a b c (h1 _ _ q), fun F' H' M' v d a b c q => hE.rt F' H' M' v d a b c (h2 _ _ q), fun F' σ' H' Γ' M' a b c q => hE.bk F' σ' H' Γ' M' a b c (h3 _ _ q), fun F' σ' H' Γ' M' a b c q => hE.ct F' σ' H' Γ' M' a b c (h4 _ _ q)⟩⟩
theorem ws_ret {e : Expr} (h : WE X e Γ M Φ.rt) : WS X (.Return (some e) pos :: rest) Γ M Φ := ⟨fun F σ H he hc E hE =>
  ⟨_, pss_cons (ps_ret pe_wp) pss_never, h.run F σ H he hc _ fun F' H' M' v d a b c q => hE.rt F' H' M' v d a b c q⟩⟩
theorem ws_retN (h : Φ.rt .non M) : WS X (.Return none pos :: rest) Γ M Φ := ⟨fun F σ H he hc E hE =>
  ⟨_, pss_cons ps_retN pss_never, hE.rt F H M .non .non (Same.refl F) hc .non h⟩⟩
theorem ws_expr {e : Expr} (h : WE X e Γ M fun _ M1 => WS X rest Γ M1 Φ) (hs : swapsWith e none pos.line X.env = pure false := by rfl) : WS X (.Expr e pos :: rest) Γ M Φ := ⟨fun F σ H he hc E hE =>
  ⟨_, pss_cons (ps_expr pe_wp hs) pss_wp, h.run F σ H he hc _ fun F' H' M' v d a b c q => q.run F' σ H' (he.mono a) b E (hE.mono a)⟩⟩
theorem ws_pass (h : WS X rest Γ M Φ) : WS X (.Pass pos :: rest) Γ M Φ := ⟨fun F σ H he hc E hE => ⟨_, pss_cons ps_pass pss_wp, h.run F σ H he hc E hE⟩⟩
theorem ws_break (h : Φ.bk Γ M) : WS X (.Break pos :: rest) Γ M Φ := ⟨fun F σ H he hc E hE => ⟨_, pss_cons ps_break pss_never, hE.bk F σ H Γ M (Same.refl F) he hc h⟩⟩
theorem ws_continue (h : Φ.ct Γ M) : WS X (.Continue pos :: rest) Γ M Φ := ⟨fun F σ H he hc E hE => ⟨_, pss_cons ps_continue pss_never, hE.ct F σ H Γ M (Same.refl F) he hc h⟩⟩
/-- behind a statement the rest -/
theorem ends_seq {F : Hp} {E : Ends} (hE : EndsOk X.K F Φ E) : EndsOk X.K F { Φ with nx := fun Γ' M' => WS X rest Γ' M' Φ } { E with nx := wpSs X rest E } :=
  ⟨fun F' σ' H' Γ' M' a b c q => q.run F' σ' H' b c E (hE.mono a), hE.rt, hE.bk, hE.ct⟩
theorem ws_if {c : Expr} {a b : List Stmt} (h : WT X c Γ M fun t M1 => (t = true → WS X a Γ M1 { Φ with nx := fun Γ' M' => WS X rest Γ' M' Φ }) ∧ (t = false → WS X b Γ M1 { Φ with nx := fun Γ' M' => WS X rest Γ' M' Φ })) :
    WS X (.If c a b pos :: rest) Γ M Φ := ⟨fun F σ H he hc E hE => by
  refine ⟨_, pss_cons (ps_if pt_wp pss_wp pss_wp) pss_wp, h.run F σ H he hc _ fun F1 H1 M1 t e1 c1 ⟨q1, q2⟩ => ?_⟩
  cases t with
  | true =>
    rw [if_pos rfl]
    exact (q1 rfl).run F1 σ H1 (he.mono e1) c1 _ (ends_seq (hE.mono e1))
  | false =>
    rw [if_neg Bool.false_ne_true]
    exact (q2 rfl).run F1 σ H1 (he.mono e1) c1 _ (ends_seq (hE.mono e1))⟩

/-! ### targets -/
def wpG (X : Cx) (tg : Expr) : TG := fun v σ H Q => ∃ t, PG X tg t ∧ t v σ H Q
def wpGs (X : Cx) (tgs : List Expr) : TGs := fun v σ H Q => ∃ t, PGs X tgs t ∧ t v σ H Q
theorem pg_wp {tg : Expr} : PG X tg (wpG X tg) := ⟨fun pins s σ H v u Q I r ⟨_, p, h⟩ => p.run pins s σ H v u Q I r h⟩
theorem pgs_wp {tgs : List Expr} : PGs X tgs (wpGs X tgs) := ⟨fun pins s σ H v u Q I r ⟨_, p, h⟩ => p.run pins s σ H v u Q I r h⟩
structure WG (X : Cx) (tg : Expr) (d : D) (Γ : G) (M : MM) (Q : G → MM → Prop) : Prop where
  run : ∀ (F : Hp) (σ : L2.St) (H : Hp) (v : V), EnvOk X.K F Γ σ → Con X.K F M H → Dn X.K F v d → ∀ R : L2.St → Hp → Prop,
    (∀ (F' : Hp) (σ' : L2.St) (H' : Hp) (Γ' : G) (M' : MM), Same F F' → EnvOk X.K F' Γ' σ' → Con X.K F' M' H' → Q Γ' M' → R σ' H') → wpG X tg v σ H R
structure WGs (X : Cx) (tgs : List Expr) (ds : List D) (Γ : G) (M : MM) (Q : G → MM → Prop) : Prop where
  run : ∀ (F : Hp) (σ : L2.St) (H : Hp) (vs : List V), EnvOk X.K F Γ σ → Con X.K F M H → Dns X.K F vs ds → ∀ R : L2.St → Hp → Prop,
    (∀ (F' : Hp) (σ' : L2.St) (H' : Hp) (Γ' : G) (M' : MM), Same F F' → EnvOk X.K F' Γ' σ' → Con X.K F' M' H' → Q Γ' M' → R σ' H') → wpGs X tgs vs σ H R
theorem wg_name (i : Nat) {x : Str} {d : D} {Q : G → MM → Prop} (nd : X.N.Nodup) (h : Q (Γ.set i (some d)) M) (hi : X.N[i]? = some x := by rfl) (hx : Loc X.env.scope x := by first | exact Or.inl rfl | exact Or.inr rfl)
    (hf : X.fn x = true ∨ X.env.scope.names.lookup x = some .local := by first | exact .inl rfl | exact .inr rfl) : WG X (.Name x pos) d Γ M Q := ⟨fun F σ H v he hc dv R hR =>
  ⟨_, pg_name nd hi hx hf, hR F _ H _ M (Same.refl F) (he.set dv) hc h⟩⟩
theorem wgs_nil {Q : G → MM → Prop} (h : Q Γ M) : WGs X [] [] Γ M Q := ⟨fun F σ H vs he hc dv R hR => by
  cases dv
  exact ⟨_, pgs_nil, rfl, hR F σ H Γ M (Same.refl F) he hc h⟩⟩
theorem wgs_cons {t : Expr} {ts : List Expr} {d : D} {ds : List D} {Q : G → MM → Prop} (h : WG X t d Γ M fun Γ1 M1 => WGs X ts ds Γ1 M1 Q) (hs : (assignEach (t :: ts) X.env).map (·.2) = assign t X.env :: (assignEach ts X.env).map (·.2) := by rfl) : WGs X (t :: ts) (d :: ds) Γ M Q := ⟨fun F σ H vs he hc dv R hR => by
  cases dv with
  | @cons v vs _ _ d1 d2 =>
    exact ⟨_, pgs_cons pg_wp pgs_wp hs, v, vs, rfl, h.run F σ H v he hc d1 _ fun F1 σ1 H1 Γ1 M1 a b c q => q.run F1 σ1 H1 vs b c (d2.mono a) R fun F2 σ2 H2 Γ2 M2 a2 b2 c2 q2 => hR F2 σ2 H2 Γ2 M2 (a.trans a2) b2 c2 q2⟩⟩
theorem wg_tup {ts : List Expr} {k : Nat} {ds : List D} {Q : G → MM → Prop} (h : WGs X ts ds Γ M Q) (hn : (assignEach ts X.env).length = ds.length := by rfl) (hst : (assignEach ts X.env).findIdx? (·.1) = none := by rfl) (hcm : X.calm = true := by rfl) : WG X (.Tuple ts k pos) (.tup ds) Γ M Q := ⟨fun F σ H v he hc dv R hR => by
  cases dv with
  | @tup a xs _ k1 k2 =>
    exact ⟨_, pg_tup hcm pgs_wp hn hst, a, xs, rfl, sqT_mono hc.sub k1, k2.length, h.run F σ H xs he hc k2 R hR⟩⟩
/-- xs[i] = .., a list that may change -/
theorem wg_sub {o i : Expr} {d : D} {Q : G → MM → Prop} (h : WE X o Γ M fun x M1 => WE X i Γ M1 fun y M2 => ∃ a ds k j, x = .raw a ∧ y = .int k ∧ M2 a = some (.lst ds) ∧ ixN ds.length k = some j ∧ Q Γ (mupd M2 a (.lst (ds.set j d))))
    (ha : ∀ v, assign (.Subscript o i pos) X.env v = (do
      let ov ← holding [v] (eval o X.env)
      let iv ← holding [v, ov] (eval i X.env)
      standAt pos
      holding [v, ov, iv] (setItem ov iv v)
      release [v, ov, iv] []) := by intro _; rfl) : WG X (.Subscript o i pos) d Γ M Q := ⟨fun F σ H v he hc dv R hR => by
  refine ⟨_, pg_sub pe_wp pe_wp set_list ha, h.run F σ H he hc _ fun F1 H1 M1 ov x e1 c1 d1 h1 => ?_⟩
  refine h1.run F1 σ H1 (he.mono e1) c1 _ fun F2 H2 M2 iv y e2 c2 d2 ⟨a, ds, k, j, hx, hy, hM, hj, q⟩ => ?_
  subst hx
  subst hy
  have d1' := d1.mono e2
  cases d1'
  cases d2
  obtain ⟨vs, k1, k2⟩ := c2.lst hM
  refine ⟨a, vs, k, j, rfl, rfl, k1, by rw [k2.length]; exact hj, ?_⟩
  exact hR F2 σ _ Γ _ (e1.trans e2) (he.mono (e1.trans e2)) (c2.setL hM (k2.set j (dv.mono (e1.trans e2)))) q⟩
/-- target = e -/
theorem ws_asg {tg e : Expr} (h : WE X e Γ M fun d M1 => WG X tg d Γ M1 fun Γ2 M2 => WS X rest Γ2 M2 Φ) (hs : swapsWithSole [tg] e pos.line X.env = pure false := by rfl) (hw : swappedStores [tg] e X.env = pure none := by rfl)
    (h1 : (assignEach [tg] X.env).map (·.2) = [assign tg X.env] := by rfl) : WS X (.Assign [tg] e pos :: rest) Γ M Φ := ⟨fun F σ H he hc E hE => by
  refine ⟨_, pss_cons (ps_asg pe_wp pg_wp hs hw h1) pss_wp, h.run F σ H he hc _ fun F1 H1 M1 v d e1 c1 d1 q => ?_⟩
  exact q.run F1 σ H1 v (he.mono e1) c1 d1 _ fun F2 σ2 H2 Γ2 M2 e2 he2 c2 q2 => q2.run F2 σ2 H2 he2 c2 E (hE.mono (e1.trans e2))⟩
/-- a, b = x, y, plain local names -/
theorem ws_par (i j : Nat) {x y : Str} {a b : Expr} {px py pt : Pos} {kt k2 pt2} (nd : X.N.Nodup) (hij : i ≠ j) (h : WA X [a, b] Γ M fun ds M1 => ∃ u v, ds = [u, v] ∧ WS X rest ((Γ.set i (some u)).set j (some v)) M1 Φ)
    (hi : X.N[i]? = some x := by rfl) (hj : X.N[j]? = some y := by rfl) (hx : X.env.scope.names.lookup x = some .local := by rfl) (hy : X.env.scope.names.lookup y = some .local := by rfl)
    (hw : swappedStores [.Tuple [.Name x px, .Name y py] kt pt] (.Tuple [a, b] k2 pt2) X.env = pure (some [x, y]) := by rfl)
    (hs : swapsWithSole [.Tuple [.Name x px, .Name y py] kt pt] (.Tuple [a, b] k2 pt2) pos.line X.env = pure false := by rfl) (hcm : X.calm = true := by rfl) :
    WS X (.Assign [.Tuple [.Name x px, .Name y py] kt pt] (.Tuple [a, b] k2 pt2) pos :: rest) Γ M Φ := ⟨fun F σ H he hc E hE => by
  refine ⟨_, pss_cons (ps_par hcm nd hi hj hij hx hy pa_wp hw hs) pss_wp, h.run F σ H he hc _ fun F1 H1 M1 vs ds e1 c1 d1 ⟨u, v, hd, q⟩ => ?_⟩
  subst hd
  cases d1 with
  | cons a1 d1 =>
    cases d1 with
    | cons a2 d1 =>
      cases d1
      exact ⟨_, _, rfl, q.run F1 _ H1 (((he.mono e1).set a1).set a2) c1 E (hE.mono e1)⟩⟩

/-! ### fields -/
theorem putF_map {f : Str} {v : V} : ∀ {fs : List (Str × V)}, f ∉ fs.map (·.1) → putF f v fs = fs ++ [(f, v)]
  | [], _ => rfl
  | (g, u) :: fs, h => by
    simp only [List.map_cons, List.mem_cons, not_or] at h
    have ih := putF_map (v := v) (fs := fs) h.2
    show (if g = f then (g, v) :: fs else (g, u) :: putF f v fs) = (g, u) :: (fs ++ [(f, v)])
    rw [if_neg (Ne.symm h.1), ih]
/-- the value d put under f -/
def putN (f : Str) (d : D) : List Str → List D → List D
  | n :: ns, e :: ds => if n = f then d :: ds else e :: putN f d ns ds
  | _, _ => []
def getN (f : Str) : List Str → List D → Option D
  | n :: ns, e :: ds => if f = n then some e else getN f ns ds
  | _, _ => none
theorem putF_mem {K : PySem.W.Frag} {F : Hp} {f : Str} {v : V} {d : D} (dv : Dn K F v d) : ∀ {fs : List (Str × V)} {ds : List D}, f ∈ fs.map (·.1) → Dns K F (fs.map (·.2)) ds → (putF f v fs).map (·.1) = fs.map (·.1) ∧ Dns K F ((putF f v fs).map (·.2)) (putN f d (fs.map (·.1)) ds)
  | [], _, h, _ => by simp at h
  | (g, u) :: fs, ds, h, hd => by
    cases hd with
    | @cons _ _ e es d1 d2 =>
      show ((if g = f then (g, v) :: fs else (g, u) :: putF f v fs).map (·.1) = _ ∧ Dns K F ((if g = f then (g, v) :: fs else (g, u) :: putF f v fs).map (·.2)) (if g = f then d :: es else e :: putN f d (fs.map (·.1)) es))
      by_cases q : g = f
      · rw [if_pos q, if_pos q]
        exact ⟨by simp, .cons dv d2⟩
      · rw [if_neg q, if_neg q]
        have hm : f ∈ fs.map (·.1) := by
          simp only [List.map_cons, List.mem_cons] at h
          exact h.resolve_left (fun z => q z.symm)
        obtain ⟨i1, i2⟩ := putF_mem dv (fs := fs) (ds := es) hm d2
        exact ⟨by simp [i1], .cons d1 i2⟩
theorem getN_at {K : PySem.W.Frag} {F : Hp} {f : Str} {d : D} : ∀ {fs : List (Str × V)} {ds : List D}, Dns K F (fs.map (·.2)) ds → getN f (fs.map (·.1)) ds = some d → ∃ v, fs.lookup f = some v ∧ Dn K F v d
  | [], ds, h, e => by
    cases h
    cases e
  | (g, u) :: fs, ds, h, e => by
    cases h with
    | @cons _ _ x es d1 d2 =>
      have e' : (if f = g then some x else getN f (fs.map (·.1)) es) = some d := e
      by_cases q : f = g
      · rw [if_pos q] at e'
        cases e'
        subst q
        exact ⟨u, by simp [List.lookup_cons], d1⟩
      · rw [if_neg q] at e'
        obtain ⟨v, h1, h2⟩ := getN_at (fs := fs) d2 e'
        have b : (f == g) = false := by simpa using q
        exact ⟨v, by rw [List.lookup_cons, b]; exact h1, h2⟩
theorem Con.setI {K : PySem.W.Frag} {F H : Hp} {M : MM} {a C : Addr} {ns ns' : List Str} {ds ds' : List D} {dx : Addr} {fs fs' : List (Str × V)} (c : Con K F M H) (hM : M a = some (.ins C ns ds)) (ha : H a = some (.ins C dx fs)) (hn : fs'.map (·.1) = ns') (hd : Dns K F (fs'.map (·.2)) ds') :
    Con K F (mupd M a (.ins C ns' ds')) (upd H a (.ins C dx fs')) := by
  obtain ⟨f0, dx', fs0, h1, h2, h3, _, _⟩ := c.chg a _ hM
  rw [ha] at h1
  cases h1
  have nd : dx ≠ a := fun z => by subst z; rw [ha] at h2; cases h2
  refine ⟨fun b u e => ?_, fun b m e => ?_, c.ntb, one_mupd c.one fun _ z => by cases z⟩
  · rw [upd_ne (ne_of_none e f0)]; exact c.sub _ _ e
  · by_cases hb : b = a
    · subst hb; rw [mupd_same] at e; cases e
      exact ⟨f0, dx, fs', upd_same, by rw [upd_ne nd]; exact h2, h3, hn, hd⟩
    · rw [mupd_ne hb] at e
      obtain ⟨g1, g2⟩ := c.chg b m e
      exact ⟨g1, g2.heap (upd_ne hb) fun c z q n => by rw [upd_ne (fun y => by subst y; rw [ha] at q; cases q; exact n)]; exact q⟩
/-- o.f = e: a new field, or an old one -/
theorem ws_fld {C : Addr} {o e : Expr} {f : Str} {pos' : Pos} (hc : Cls X.K C) (hn : NoAttr X.K C f)
    (h : WE X e Γ M fun d M1 => WE X o Γ M1 fun x M2 => ∃ a ns ds, x = .raw a ∧ M2 a = some (.ins C ns ds) ∧ ns.length < 1000 ∧ ((f ∉ ns ∧ WS X rest Γ (mupd M2 a (.ins C (ns ++ [f]) (ds ++ [d]))) Φ) ∨ (f ∈ ns ∧ WS X rest Γ (mupd M2 a (.ins C ns (putN f d ns ds))) Φ)))
    (hs : swapsWith e (some (.Attribute o f pos')) pos.line X.env = pure false := by rfl) : WS X (.Assign [.Attribute o f pos'] e pos :: rest) Γ M Φ := ⟨fun F σ H he hco E hE => by
  refine ⟨_, pss_cons (ps_fld pe_wp pe_wp hs) pss_wp, h.run F σ H he hco _ fun F1 H1 M1 v d e1 c1 d1 h1 => ?_⟩
  refine h1.run F1 σ H1 (he.mono e1) c1 _ fun F2 H2 M2 u x e2 c2 d2 ⟨a, ns, ds, hx, hM, hl, q⟩ => ?_
  subst hx
  cases d2
  obtain ⟨f0, dx, fs, k1, k2, k3, k4, k5⟩ := c2.chg a _ hM
  subst k4
  refine ⟨a, C, dx, fs, rfl, k1, hc, hn, by simpa using hl, ?_⟩
  rcases q with ⟨q1, q2⟩ | ⟨q1, q2⟩
  · refine q2.run F2 σ _ (he.mono (e1.trans e2)) (c2.setI hM k1 ?_ ?_) E (hE.mono (e1.trans e2))
    · rw [putF_map q1]; simp
    · rw [putF_map q1, List.map_append]
      exact k5.append (.cons (d1.mono e2) .nil)
  · obtain ⟨z1, z2⟩ := putF_mem (d1.mono e2) q1 k5
    exact q2.run F2 σ _ (he.mono (e1.trans e2)) (c2.setI hM k1 z1 z2) E (hE.mono (e1.trans e2))⟩
/-- o.f, a field -/
theorem we_fld {C : Addr} {o : Expr} {f : Str} {Q : D → MM → Prop} (hc : Cls X.K C) (hn : NoAttr X.K C f)
    (h : WE X o Γ M fun x M1 => ∃ ns ds d, ((∃ a, x = .raw a ∧ M1 a = some (.ins C ns ds)) ∨ x = .ins C ns ds) ∧ getN f ns ds = some d ∧ Q d M1) (hb : attributeBase o f X.env (eval o X.env) = eval o X.env := by rfl) : WE X (.Attribute o f pos) Γ M Q := ⟨fun F σ H he hco R hR => by
  refine ⟨_, pe_fld pe_wp hb, h.run F σ H he hco _ fun F1 H1 M1 v x e1 c1 d1 ⟨ns, ds, d, hx, hg, q⟩ => ?_⟩
  rcases hx with ⟨a, hx, hM⟩ | hx
  · subst hx
    cases d1
    obtain ⟨f0, dx, fs, k1, k2, k3, k4, k5⟩ := c1.chg a _ hM
    subst k4
    obtain ⟨w, z1, z2⟩ := getN_at k5 hg
    exact ⟨a, C, dx, fs, w, rfl, k1, hc, hn, z1, hR F1 H1 M1 w d e1 c1 z2 q⟩
  · subst hx
    cases d1 with
    | @ins a _ dx fs _ _ k1 k4 k5 =>
      subst k4
      obtain ⟨w, z1, z2⟩ := getN_at k5 hg
      exact ⟨a, C, dx, fs, w, rfl, c1.sub _ _ k1, hc, hn, z1, hR F1 H1 M1 w d e1 c1 z2 q⟩⟩
end
end DL

set_option Elab.async false
set_option linter.all false
set_option autoImplicit false
set_option maxRecDepth 100000
set_option maxHeartbeats 2000000
namespace DL
open PySem L2

/-- what a loop walks: n turns, the i-th item it i, while keep stands -/
def Walks (K : PySem.W.Frag) (F : Hp) (J : It) (n : Nat) (it : Nat → D) (keep : MM → Prop) : Prop := ∀ (F2 : Hp) (M2 : MM) (H2 : Hp), Same F F2 → Con K F2 M2 H2 → keep M2 → ∀ i : Nat,
  (i < n → J.go i H2 ∧ ∀ x H', J.yld i H2 x H' → ∃ F3, Same F2 F3 ∧ Con K F3 M2 H' ∧ Dn K F3 x (it i)) ∧ (n = i → J.stop i H2)
def wpI (X : Cx) (tg iter : Expr) : TI := fun σ H R => ∃ wi, PI X tg iter wi ∧ wi σ H R
theorem pi_wp {X : Cx} {tg iter : Expr} : PI X tg iter (wpI X tg iter) := ⟨fun pins s σ H R I ⟨_, p, h⟩ => p.run pins s σ H R I h⟩
structure WI (X : Cx) (tg iter : Expr) (Γ : G) (M : MM) (Q : Nat → (Nat → D) → (MM → Prop) → MM → Prop) : Prop where
  run : ∀ (F : Hp) (σ : L2.St) (H : Hp), EnvOk X.K F Γ σ → Con X.K F M H → ∀ R : It → Hp → Prop,
    (∀ (F' H' : Hp) (M' : MM) (J : It) (n : Nat) (it : Nat → D) (keep : MM → Prop), Same F F' → Con X.K F' M' H' → Walks X.K F' J n it keep → Q n it keep M' → R J H') → wpI X tg iter σ H R
abbrev dAt (ds : List D) (i : Nat) : D := ds.getD i .non
theorem dAt_of {ds : List D} {i : Nat} {d : D} (h : ds[i]? = some d) : dAt ds i = d := by
  unfold dAt
  rw [List.getD_eq_getElem?_getD, h]
  rfl
section
variable {X : Cx} {Γ : G} {M : MM} {Φ : Fi} {pos p : Pos} {rest : List Stmt} {tg : Expr}
theorem walks_list {K : PySem.W.Frag} {F : Hp} {a : Addr} {xs : List V} {ds : List D} (h : SqL K F a xs) (hd : Dns K F xs ds) : Walks K F (Itl K a) ds.length (dAt ds) fun _ => True := by
  intro F2 M2 H2 e c _ i
  have hq : SqL K H2 a xs := sqL_mono c.sub (sqL_mono e h)
  refine ⟨fun hi => ?_, fun hi => ⟨xs, hq, by rw [hd.length]; exact Nat.le_of_eq hi⟩⟩
  have hx : i < xs.length := by rw [hd.length]; exact hi
  refine ⟨⟨xs, xs[i], hq, by simp [hx]⟩, fun x H' ⟨e1, y⟩ => ?_⟩
  subst e1
  obtain ⟨d, h1, h2⟩ := hd.getV (y xs hq)
  exact ⟨F2, Same.refl _, c, by rw [dAt_of h1]; exact h2.mono e⟩
theorem walks_tup {K : PySem.W.Frag} {F : Hp} {a : Addr} {xs : List V} {ds : List D} (h : SqT K F a xs) (hd : Dns K F xs ds) : Walks K F (Itt K a) ds.length (dAt ds) fun _ => True := by
  intro F2 M2 H2 e c _ i
  have hq : SqT K H2 a xs := sqT_mono c.sub (sqT_mono e h)
  refine ⟨fun hi => ?_, fun hi => ⟨xs, hq, by rw [hd.length]; exact Nat.le_of_eq hi⟩⟩
  have hx : i < xs.length := by rw [hd.length]; exact hi
  refine ⟨⟨xs, xs[i], hq, by simp [hx]⟩, fun x H' ⟨e1, y⟩ => ?_⟩
  subst e1
  obtain ⟨d, h1, h2⟩ := hd.getV (y xs hq)
  exact ⟨F2, Same.refl _, c, by rw [dAt_of h1]; exact h2.mono e⟩
theorem wi_list {e : Expr} {Q : Nat → (Nat → D) → (MM → Prop) → MM → Prop} (h : WE X e Γ M fun x M1 => ∃ ds, (x = .lst ds ∨ x = .frz ds) ∧ Q ds.length (dAt ds) (fun _ => True) M1) : WI X tg e Γ M Q := ⟨fun F σ H he hc R hR => by
  refine ⟨_, pi_list pe_wp, h.run F σ H he hc _ fun F1 H1 M1 v x e1 c1 d1 ⟨ds, hx, q⟩ => ?_⟩
  rcases hx with hx | hx
  · subst hx
    cases d1 with
    | @lst a xs _ k1 k2 => exact ⟨a, rfl, ⟨xs, SqL.of (c1.sub _ _ k1)⟩, hR F1 H1 M1 _ _ _ _ e1 c1 (walks_list (SqL.of k1) k2) q⟩
  · subst hx
    cases d1 with
    | @frz a xs _ k1 k2 => exact ⟨a, rfl, ⟨xs, sqL_mono c1.sub k1⟩, hR F1 H1 M1 _ _ _ _ e1 c1 (walks_list k1 k2) q⟩⟩
theorem wi_tup {e : Expr} {Q : Nat → (Nat → D) → (MM → Prop) → MM → Prop} (h : WE X e Γ M fun x M1 => ∃ ds, x = .tup ds ∧ Q ds.length (dAt ds) (fun _ => True) M1) : WI X tg e Γ M Q := ⟨fun F σ H he hc R hR => by
  refine ⟨_, pi_tup pe_wp, h.run F σ H he hc _ fun F1 H1 M1 v x e1 c1 d1 ⟨ds, hx, q⟩ => ?_⟩
  subst hx
  cases d1 with
  | @tup a xs _ k1 k2 => exact ⟨a, rfl, ⟨xs, sqT_mono c1.sub k1⟩, hR F1 H1 M1 _ _ _ _ e1 c1 (walks_tup k1 k2) q⟩⟩
/-- a list that may change, and does not while it is walked -/
theorem wi_raw {e : Expr} {Q : Nat → (Nat → D) → (MM → Prop) → MM → Prop} (h : WE X e Γ M fun x M1 => ∃ a ds, x = .raw a ∧ M1 a = some (.lst ds) ∧ Q ds.length (dAt ds) (fun M => M a = some (.lst ds)) M1) : WI X tg e Γ M Q := ⟨fun F σ H he hc R hR => by
  refine ⟨_, pi_list pe_wp, h.run F σ H he hc _ fun F1 H1 M1 v x e1 c1 d1 ⟨a, ds, hx, hM, q⟩ => ?_⟩
  subst hx
  cases d1
  obtain ⟨xs, k1, k2⟩ := c1.lst hM
  refine ⟨a, rfl, ⟨xs, SqL.of k1⟩, hR F1 H1 M1 _ _ _ _ e1 c1 (fun F2 M2 H2 e c hk i => ?_) q⟩
  obtain ⟨ys, z1, z2⟩ := c.lst hk
  have hq : SqL X.K H2 a ys := SqL.of z1
  refine ⟨fun hi => ?_, fun hi => ⟨ys, hq, by rw [z2.length]; exact Nat.le_of_eq hi⟩⟩
  have hx : i < ys.length := by rw [z2.length]; exact hi
  refine ⟨⟨ys, ys[i], hq, by simp [hx]⟩, fun x H' ⟨e1, y⟩ => ?_⟩
  subst e1
  obtain ⟨d, h1, h2⟩ := z2.getV (y ys hq)
  exact ⟨F2, Same.refl _, c, by rw [dAt_of h1]; exact h2⟩⟩
theorem walks_rng {K : PySem.W.Frag} {F : Hp} {lo : Int} {n : Nat} : Walks K F (Itr lo n) n (fun i => .int (lo + i)) fun _ => True := by
  intro F2 M2 H2 e c _ i
  refine ⟨fun hi => ⟨hi, fun x H' ⟨e1, y⟩ => ?_⟩, fun hi => Nat.le_of_eq hi⟩
  subst e1
  subst y
  exact ⟨F2, Same.refl _, c, .int _⟩
theorem wi_range1 {a : Expr} {Q : Nat → (Nat → D) → (MM → Prop) → MM → Prop} (hm : X.mg "range" = none) (h : WE X a Γ M fun x M1 => ∃ j : Int, x = .int j ∧ (-(2 ^ 62) ≤ j ∧ j < 2 ^ 62) ∧ Q j.toNat (fun i => .int (0 + i)) (fun _ => True) M1) (hg : Gl X "range" := by rfl)
    (hs : starEach [a] X.env = [(false, eval a X.env)] := by rfl) : WI X tg (.Call (.Name "range" p) [a] [] pos) Γ M Q := ⟨fun F σ H he hc R hR => by
  refine ⟨_, pi_range1 hg hm (pa_cons pe_wp pa_nil hs) hs, ?_⟩
  refine h.run F σ H he hc _ fun F1 H1 M1 v x e1 c1 d1 ⟨j, hx, hb, q⟩ => ?_
  subst hx
  cases d1
  exact ⟨j, rfl, hb.1, hb.2, hR F1 H1 M1 _ _ _ _ e1 c1 walks_rng q⟩⟩
theorem wi_range2 {a b : Expr} {Q : Nat → (Nat → D) → (MM → Prop) → MM → Prop} (hm : X.mg "range" = none) (h : WE X a Γ M fun x M1 => WE X b Γ M1 fun y M2 => ∃ i j : Int, x = .int i ∧ y = .int j ∧ (-(2 ^ 62) ≤ i ∧ i < 2 ^ 62 ∧ -(2 ^ 62) ≤ j ∧ j < 2 ^ 62) ∧ Q (j - i).toNat (fun k => .int (i + k)) (fun _ => True) M2) (hg : Gl X "range" := by rfl)
    (hs : starEach [a, b] X.env = [(false, eval a X.env), (false, eval b X.env)] := by rfl) (hs1 : starEach [a, b] X.env = (false, eval a X.env) :: starEach [b] X.env := by rfl) (hs2 : starEach [b] X.env = [(false, eval b X.env)] := by rfl) : WI X tg (.Call (.Name "range" p) [a, b] [] pos) Γ M Q := ⟨fun F σ H he hc R hR => by
  refine ⟨_, pi_range2 hg hm (pa_cons pe_wp (pa_cons pe_wp pa_nil hs2) hs1) hs hs2, ?_⟩
  refine h.run F σ H he hc _ fun F1 H1 M1 v x e1 c1 d1 h1 => ?_
  refine h1.run F1 σ H1 (he.mono e1) c1 _ fun F2 H2 M2 u y e2 c2 d2 ⟨i, j, hx, hy, hb, q⟩ => ?_
  subst hx
  subst hy
  cases d1
  cases d2
  exact ⟨i, j, rfl, hb, hR F2 H2 M2 _ _ _ _ (e1.trans e2) c2 walks_rng q⟩⟩
theorem wi_range3 {a b c : Expr} {Q : Nat → (Nat → D) → (MM → Prop) → MM → Prop} (hm : X.mg "range" = none) (h : WA X [a, b, c] Γ M fun ds M1 => ∃ (i j k : Int) (n : Nat), ds = [.int i, .int j, .int k] ∧ RgC i j k n ∧ Q n (fun m => .int (i + (m : Nat) * k)) (fun _ => True) M1) (hg : Gl X "range" := by rfl)
    (hs : starEach [a, b, c] X.env = (false, eval a X.env) :: starEach [b, c] X.env := by rfl) (hpl : (backTo pos (starEach [b, c] X.env)).any (·.1) = false := by rfl) : WI X tg (.Call (.Name "range" p) [a, b, c] [] pos) Γ M Q := ⟨fun F σ H he hc R hR => by
  refine ⟨_, pi_range3 hg hm pa_wp hs hpl, ?_⟩
  refine h.run F σ H he hc _ fun F1 H1 M1 vs ds e1 c1 d1 ⟨i, j, k, n, hx, hb, q⟩ => ?_
  subst hx
  cases d1 with
  | cons a1 d1 =>
    cases a1
    cases d1 with
    | cons a2 d1 =>
      cases a2
      cases d1 with
      | cons a3 d1 =>
        cases a3
        cases d1
        refine ⟨i, j, k, n, rfl, hb, hR F1 H1 M1 _ _ _ _ e1 c1 (fun F2 M2 H2 e c _ m => ⟨fun hi => ⟨hi, fun x H' ⟨e1, y⟩ => ?_⟩, fun hi => Nat.le_of_eq hi⟩) q⟩
        subst e1
        subst y
        exact ⟨F2, Same.refl _, c, .int _⟩⟩
/-- for a, b in zip(xs, ys): lists of one length, or tuples of one length -/
theorem wi_zip {e e2 : Expr} {elts : List Expr} {kk : Nat} {tpos : Pos} {Q : Nat → (Nat → D) → (MM → Prop) → MM → Prop} (hm : X.mg "zip" = none)
    (h : WE X e Γ M fun x M1 => WE X e2 Γ M1 fun y M2 => ∃ ds es, ((x = .lst ds ∧ y = .lst es) ∨ (x = .tup ds ∧ y = .tup es)) ∧ ds.length = es.length ∧ Q ds.length (fun i => .tup [dAt ds i, dAt es i]) (fun _ => True) M2) (hg : Gl X "zip" := by rfl)
    (hs : starEach [e, e2] X.env = (false, eval e X.env) :: starEach [e2] X.env := by rfl) (hs2 : starEach [e2] X.env = [(false, eval e2 X.env)] := by rfl) (hpl : (backTo pos (starEach [e2] X.env)).any (·.1) = false := by rfl) :
    WI X (.Tuple elts kk tpos) (.Call (.Name "zip" p) [e, e2] [] pos) Γ M Q := ⟨fun F σ H he hc R hR => by
  refine ⟨_, RZ.pi_zipA hg hm (pa_cons pe_wp (pa_cons pe_wp pa_nil hs2) hs) hs hpl, ?_⟩
  refine h.run F σ H he hc _ fun F1 H1 M1 v x e1 c1 d1 h1 => ?_
  refine h1.run F1 σ H1 (he.mono e1) c1 _ fun F2 H2 M2 u y e2 c2 d2 ⟨ds, es, hx, hl, q⟩ => ?_
  rcases hx with ⟨hx, hy⟩ | ⟨hx, hy⟩
  · subst hx
    subst hy
    cases d1 with
    | @lst a xs _ k1 k2 =>
    cases d2 with
    | @lst b ys _ m1 m2 =>
    refine ⟨a, b, xs, ys, rfl, .inl ⟨SqL.of (c2.sub _ _ (e2 _ _ k1)), SqL.of (c2.sub _ _ m1), hR F2 H2 M2 _ _ _ _ (e1.trans e2) c2 (fun F3 M3 H3 e c _ i => ?_) q⟩⟩
    have ha : SqL X.K H3 a xs := SqL.of (c.sub _ _ (e _ _ (e2 _ _ k1)))
    have hb : SqL X.K H3 b ys := SqL.of (c.sub _ _ (e _ _ m1))
    refine ⟨fun hi => ?_, fun hi => ⟨xs, ys, ha, hb, .inl (by rw [k2.length]; exact Nat.le_of_eq hi)⟩⟩
    have hx : i < xs.length := by rw [k2.length]; exact hi
    have hy : i < ys.length := by rw [m2.length, ← hl]; exact hi
    refine ⟨⟨xs, ys, xs[i], ys[i], ha, hb, by simp [hx], by simp [hy]⟩, fun z H' ⟨T, x, y, hz, hT, hH, y1, y2⟩ => ?_⟩
    subst hz
    subst hH
    obtain ⟨d, a1, a2⟩ := k2.getV (y1 xs ha)
    obtain ⟨d', b1, b2⟩ := m2.getV (y2 ys hb)
    have s := same_new (o := .tup [x, y]) (c.sub.free hT)
    exact ⟨_, s, c.new hT, by rw [dAt_of a1, dAt_of b1]; exact .tup (.inl (.inl upd_same)) (.cons (a2.mono ((e2.trans e).trans s)) (.cons (b2.mono (e.trans s)) .nil))⟩
  · subst hx
    subst hy
    cases d1 with
    | @tup a xs _ k1 k2 =>
    cases d2 with
    | @tup b ys _ m1 m2 =>
    refine ⟨a, b, xs, ys, rfl, .inr ⟨sqT_mono c2.sub (sqT_mono e2 k1), sqT_mono c2.sub m1, hR F2 H2 M2 _ _ _ _ (e1.trans e2) c2 (fun F3 M3 H3 e c _ i => ?_) q⟩⟩
    have ha : SqT X.K H3 a xs := sqT_mono c.sub (sqT_mono e (sqT_mono e2 k1))
    have hb : SqT X.K H3 b ys := sqT_mono c.sub (sqT_mono e m1)
    refine ⟨fun hi => ?_, fun hi => ⟨xs, ys, ha, hb, .inl (by rw [k2.length]; exact Nat.le_of_eq hi)⟩⟩
    have hx : i < xs.length := by rw [k2.length]; exact hi
    have hy : i < ys.length := by rw [m2.length, ← hl]; exact hi
    refine ⟨⟨xs, ys, xs[i], ys[i], ha, hb, by simp [hx], by simp [hy]⟩, fun z H' ⟨T, x, y, hz, hT, hH, y1, y2⟩ => ?_⟩
    subst hz
    subst hH
    obtain ⟨d, a1, a2⟩ := k2.getV (y1 xs ha)
    obtain ⟨d', b1, b2⟩ := m2.getV (y2 ys hb)
    have s := same_new (o := .tup [x, y]) (c.sub.free hT)
    exact ⟨_, s, c.new hT, by rw [dAt_of a1, dAt_of b1]; exact .tup (.inl (.inl upd_same)) (.cons (a2.mono ((e2.trans e).trans s)) (.cons (b2.mono (e.trans s)) .nil))⟩⟩

/-! ### for -/
theorem ws_for {iter : Expr} {body : List Stmt} (h : WI X tg iter Γ M fun n it keep M1 => ∃ I : Nat → G → MM → Prop, I 0 Γ M1 ∧ (∀ i Γ' M', i ≤ n → I i Γ' M' → keep M') ∧
      (∀ i Γ' M', i < n → I i Γ' M' → WG X tg (it i) Γ' M' fun Γ2 M2 => WS X body Γ2 M2 { nx := I (i + 1), ct := I (i + 1), bk := fun Γ3 M3 => WS X rest Γ3 M3 Φ, rt := Φ.rt }) ∧ (∀ Γ' M', I n Γ' M' → WS X rest Γ' M' Φ))
    (hp : PassesOwn (model X.prog X.w) X.A X.env X.xe := by exact PassesOwn.never) (hcm : X.calm = true := by rfl) (hs : ∀ x, foldedSetIterable iter X.env x = pure x := by intro _; rfl) : WS X (.For tg iter body [] pos :: rest) Γ M Φ := ⟨fun F σ H he hc E hE => by
  refine ⟨_, pss_cons (ps_for hp hcm pi_wp pg_wp pss_wp hs) pss_wp, h.run F σ H he hc _ fun F1 H1 M1 J n it keep e1 c1 w ⟨I, h0, hk, hst, hdn⟩ => ?_⟩
  refine ⟨fun i m σ' H' => m = n - i ∧ i ≤ n ∧ ∃ F' Γ' M', Same F1 F' ∧ EnvOk X.K F' Γ' σ' ∧ Con X.K F' M' H' ∧ I i Γ' M', ⟨n, by simp, Nat.zero_le _, F1, Γ, M1, Same.refl _, he.mono e1, c1, h0⟩, ?_⟩
  rintro i m σ' H' ⟨rfl, hi, F', Γ', M', e', he', c', hI⟩
  obtain ⟨w1, w2⟩ := w F' M' H' e' c' (hk i Γ' M' hi hI) i
  by_cases hlt : i < n
  · obtain ⟨go, yl⟩ := w1 hlt
    refine .inr ⟨go, fun σ2 H2 => ∃ F2 Γ2 M2, Same F1 F2 ∧ EnvOk X.K F2 Γ2 σ2 ∧ Con X.K F2 M2 H2 ∧ I (i + 1) Γ2 M2, fun σ2 H2 q => ⟨n - (i + 1), by omega, rfl, hlt, q⟩, fun x H2 y => ?_⟩
    obtain ⟨F3, s3, c3, d3⟩ := yl x H2 y
    refine (hst i Γ' M' hlt hI).run F3 σ' H2 x (he'.mono s3) c3 d3 _ fun F4 σ4 H4 Γ4 M4 e4 he4 c4 q4 => ?_
    have eo : Same F F4 := ((e1.trans e').trans s3).trans e4
    refine q4.run F4 σ4 H4 he4 c4 _ ⟨fun F5 σ5 H5 Γ5 M5 a b c q => ?_, fun F5 H5 M5 v d a b c q => hE.rt F5 H5 M5 v d (eo.trans a) b c q, fun F5 σ5 H5 Γ5 M5 a b c q => q.run F5 σ5 H5 b c E (hE.mono (eo.trans a)), fun F5 σ5 H5 Γ5 M5 a b c q => ?_⟩
    · exact ⟨F5, Γ5, M5, ((e'.trans s3).trans e4).trans a, b, c, q⟩
    · exact ⟨F5, Γ5, M5, ((e'.trans s3).trans e4).trans a, b, c, q⟩
  · have hn : i = n := by omega
    subst hn
    exact .inl ⟨w2 rfl, (hdn Γ' M' hI).run F' σ' H' he' c' E (hE.mono (e1.trans e'))⟩⟩

/-! ### comprehensions: one clause, a plain name as the target, no test or one -/
def mdel (M : MM) (a : Addr) : MM := fun b => if b = a then none else M b
theorem mdel_mupd {M : MM} {a : Addr} {o : MO} (h : M a = none) : mdel (mupd M a o) a = M := by
  funext b
  unfold mdel mupd
  by_cases hb : b = a
  · rw [if_pos hb, hb, h]
  · rw [if_neg hb, if_neg hb]
theorem wipe1 (σ : L2.St) (k : Nat) : L2.wipe σ [k] = σ.set k none := rfl
theorem EnvOk.wiped {K : PySem.W.Frag} {F : Hp} {σ : L2.St} (h : EnvOk K F Γ σ) {k : Nat} {v : V} {d : D} (q : Dn K F v d) : EnvOk K F (Γ.set k (some d)) ((L2.wipe σ [k]).set k (some v)) := by
  rw [wipe1, List.set_set]
  exact h.set q
/-- the tests of a clause -/
structure WTs (X : Cx) (ifs : List Expr) (Γ : G) (M : MM) (Q : Bool → MM → Prop) : Prop where
  run : ∀ (F : Hp) (σ : L2.St) (H : Hp), EnvOk X.K F Γ σ → Con X.K F M H → ∀ R : Bool → Hp → Prop, (∀ (F' H' : Hp) (M' : MM) (b : Bool), Same F F' → Con X.K F' M' H' → Q b M' → R b H') → ∃ t, PTs X ifs t ∧ t σ H R
theorem wts_nil {Q : Bool → MM → Prop} (h : Q true M) : WTs X [] Γ M Q := ⟨fun F σ H he hc R hR => ⟨_, pts_nil, hR F H M true (Same.refl F) hc h⟩⟩
theorem wts_one {c : Expr} {Q : Bool → MM → Prop} (h : WT X c Γ M Q) : WTs X [c] Γ M Q := ⟨fun F σ H he hc R hR => ⟨_, pts_one pt_wp, h.run F σ H he hc R hR⟩⟩
/-- the reading of a comprehension, whatever the block's entry -/
theorem lc_run {elt iter : Expr} {ifs : List Expr} {x : Str} {k : Nat} {scope : Scope} {Q : D → MM → Prop} {px : Pos} (hN : X.N.Nodup)
    (hg : ∀ (s : Shared) (H : Hp) (C : Addr) (cl : List (Str × Addr)) (fp : List Addr), PG (X.blk s H scope (compEnvC scope cl C X.env) fp) (.Name x px) (gName k))
    (h : WI X (.Name x px) iter Γ M fun n it keep M1 => ∀ D, M1 D = none → ∃ I : Nat → List DL.D → MM → Prop, I 0 [] M1 ∧ (∀ i acc M', i ≤ n → M' D = none → I i acc M' → keep (mupd M' D (.lst acc))) ∧
      (∀ i acc M', i < n → M' D = none → I i acc M' → ∀ (s : Shared) (H : Hp) (C : Addr) (cl : List (Str × Addr)) (fp : List Addr), WTs (X.blk s H scope (compEnvC scope cl C X.env) fp) ifs (Γ.set k (some (it i))) (mupd M' D (.lst acc)) fun b M2 =>
        (b = true → ∀ (s : Shared) (H : Hp) (C : Addr) (cl : List (Str × Addr)) (fp : List Addr), WE (X.blk s H scope (compEnvC scope cl C X.env) fp) elt (Γ.set k (some (it i))) M2 fun y M3 => acc.length < sizeLine ∧ ∃ M4, M3 = mupd M4 D (.lst acc) ∧ M4 D = none ∧ I (i + 1) (acc ++ [y]) M4) ∧
        (b = false → ∃ M4, M2 = mupd M4 D (.lst acc) ∧ M4 D = none ∧ I (i + 1) acc M4)) ∧
      (∀ acc M', M' D = none → I n acc M' → Q (.lst acc) M')) {F : Hp} {σ : L2.St} {H : Hp} (he : EnvOk X.K F Γ σ) (hc : Con X.K F M H) {R : VK} (hR : Post X F Q R) :
    tLc (wpI X (.Name x px) iter) (gName k) (fun σ H Q => ∀ (s : Shared) (H0 : Hp) (C : Addr) (cl : List (Str × Addr)) (fp : List Addr), ∃ t, PTs (X.blk s H0 scope (compEnvC scope cl C X.env) fp) ifs t ∧ t σ H Q)
      (fun σ H Q => ∀ (s : Shared) (H0 : Hp) (C : Addr) (cl : List (Str × Addr)) (fp : List Addr), wpE (X.blk s H0 scope (compEnvC scope cl C X.env) fp) elt σ H Q) [k] σ H R := by
  refine h.run F σ H he hc _ fun F1 H1 M1 J n it keep e1 c1 w hI => ?_
  intro D hD
  have mD : M1 D = none := c1.fresh hD
  obtain ⟨I, h0, hk, hst, hdn⟩ := hI D mD
  refine ⟨fun i m H' => m = n - i ∧ i ≤ n ∧ ∃ F' M' acc, Same F1 F' ∧ Con X.K F' (mupd M' D (.lst acc)) H' ∧ M' D = none ∧ I i acc M', ⟨n, by simp, Nat.zero_le _, F1, M1, [], Same.refl _, c1.newM hD .nil, mD, h0⟩, ?_⟩
  rintro i m H' ⟨rfl, hi, F', M', acc, e', c', hm, hJ⟩
  obtain ⟨w1, w2⟩ := w F' _ H' e' c' (hk i acc M' hi hm hJ) i
  by_cases hlt : i < n
  · obtain ⟨go, yl⟩ := w1 hlt
    refine .inr ⟨go, fun H2 => ∃ F2 M2 acc2, Same F1 F2 ∧ Con X.K F2 (mupd M2 D (.lst acc2)) H2 ∧ M2 D = none ∧ I (i + 1) acc2 M2, fun H2 q => ⟨n - (i + 1), by omega, rfl, hlt, q⟩, fun v H2 y => ?_⟩
    obtain ⟨F3, s3, c3, d3⟩ := yl v H2 y
    show L2.wipe ((L2.wipe σ [k]).set k (some v)) [k] = L2.wipe σ [k] ∧ _
    refine ⟨by rw [wipe1, wipe1, List.set_set, List.set_set], ?_⟩
    have heB : EnvOk X.K F3 (Γ.set k (some (it i))) ((L2.wipe σ [k]).set k (some v)) := (he.mono ((e1.trans e').trans s3)).wiped d3
    intro s H0 C cl fp
    refine (hst i acc M' hlt hm hJ s H0 C cl fp).run F3 _ H2 heB c3 _ fun F4 H4 M4 b e4 c4 ⟨q1, q2⟩ => ?_
    cases b with
    | true =>
      rw [if_pos rfl]
      intro s H0 C cl fp
      refine (q1 rfl s H0 C cl fp).run F4 _ H4 (heB.mono e4) c4 _ fun F5 H5 M5 u y e5 c5 d5 ⟨z, M6, z1, z2, z3⟩ => ?_
      subst z1
      obtain ⟨vs, k1, k2⟩ := c5.lst mupd_same
      refine ⟨vs, k1, by rw [k2.length]; exact z, F5, M6, acc ++ [y], ((e'.trans s3).trans e4).trans e5, ?_, z2, z3⟩
      have c6 := c5.setL mupd_same (k2.append (.cons d5 .nil))
      rwa [mupd_mupd] at c6
    | false =>
      rw [if_neg Bool.false_ne_true]
      obtain ⟨M5, z1, z2, z3⟩ := q2 rfl
      subst z1
      exact ⟨F4, M5, acc, (e'.trans s3).trans e4, c4, z2, z3⟩
  · have hn : i = n := by omega
    subst hn
    refine .inl ⟨w2 rfl, ?_⟩
    obtain ⟨F2, s2, c2, d2⟩ := c'.freeze mupd_same
    have em : (fun a => if a = D then none else mupd M' D (.lst acc) a) = M' := mdel_mupd hm
    rw [em] at c2
    exact hR F2 H' M' _ _ ((e1.trans e').trans s2) c2 d2 (hdn acc M' hm hJ)
theorem pts_lc {ifs : List Expr} {scope : Scope} (s : Shared) (H : Hp) (C : Addr) (cl : List (Str × Addr)) (fp : List Addr) : PTs (X.blk s H scope (compEnvC scope cl C X.env) fp) ifs
    (fun σ H Q => ∀ (s : Shared) (H0 : Hp) (C : Addr) (cl : List (Str × Addr)) (fp : List Addr), ∃ t, PTs (X.blk s H0 scope (compEnvC scope cl C X.env) fp) ifs t ∧ t σ H Q) :=
  ⟨fun pins s' σ' H' Q' I hw => by obtain ⟨t, pt, q⟩ := hw s H C cl fp; exact pt.run pins s' σ' H' Q' I q⟩
theorem pe_lcE {elt : Expr} {scope : Scope} (s : Shared) (H : Hp) (C : Addr) (cl : List (Str × Addr)) (fp : List Addr) : PE (X.blk s H scope (compEnvC scope cl C X.env) fp) elt
    (fun σ H Q => ∀ (s : Shared) (H0 : Hp) (C : Addr) (cl : List (Str × Addr)) (fp : List Addr), wpE (X.blk s H0 scope (compEnvC scope cl C X.env) fp) elt σ H Q) :=
  ⟨fun pins s' σ' H' Q' I hw => by obtain ⟨t, pt, q⟩ := hw s H C cl fp; exact pt.run pins s' σ' H' Q' I q⟩
/-- what a comprehension asks of its turns -/
abbrev LcI (X : Cx) (elt : Expr) (ifs : List Expr) (k : Nat) (scope : Scope) (Γ : G) (Q : D → MM → Prop) : Nat → (Nat → D) → (MM → Prop) → MM → Prop := fun n it keep M1 => ∀ D, M1 D = none → ∃ I : Nat → List DL.D → MM → Prop, I 0 [] M1 ∧ (∀ i acc M', i ≤ n → M' D = none → I i acc M' → keep (mupd M' D (.lst acc))) ∧
      (∀ i acc M', i < n → M' D = none → I i acc M' → ∀ (s : Shared) (H : Hp) (C : Addr) (cl : List (Str × Addr)) (fp : List Addr), WTs (X.blk s H scope (compEnvC scope cl C X.env) fp) ifs (Γ.set k (some (it i))) (mupd M' D (.lst acc)) fun b M2 =>
        (b = true → ∀ (s : Shared) (H : Hp) (C : Addr) (cl : List (Str × Addr)) (fp : List Addr), WE (X.blk s H scope (compEnvC scope cl C X.env) fp) elt (Γ.set k (some (it i))) M2 fun y M3 => acc.length < sizeLine ∧ ∃ M4, M3 = mupd M4 D (.lst acc) ∧ M4 D = none ∧ I (i + 1) (acc ++ [y]) M4) ∧
        (b = false → ∃ M4, M2 = mupd M4 D (.lst acc) ∧ M4 D = none ∧ I (i + 1) acc M4)) ∧
      (∀ acc M', M' D = none → I n acc M' → Q (.lst acc) M')
theorem we_lc (k : Nat) {elt iter : Expr} {ifs : List Expr} {x : Str} {scope : Scope} {Q : D → MM → Prop} {px : Pos} (hN : X.N.Nodup) (hg : ∀ (s : Shared) (H : Hp) (C : Addr) (cl : List (Str × Addr)) (fp : List Addr), PG (X.blk s H scope (compEnvC scope cl C X.env) fp) (.Name x px) (gName k)) (h : WI X (.Name x px) iter Γ M (LcI X elt ifs k scope Γ Q))
    (ok : BlkOk X.N X.env.scope scope [(x, k)] := by exact blkOk_by (by kernel_rfl)) (hcm : X.calm = true := by rfl) (hs : ∀ x, foldedSetIterable iter X.env x = pure x := by intro _; rfl) :
    WE X (.ListComp elt [⟨.Name x px, iter, ifs, 0⟩] scope pos) Γ M Q := ⟨fun F σ H he hc R hR => by
  exact ⟨_, pe_lc hcm hN pi_wp ok hg (pts_lc (X := X) (ifs := ifs) (scope := scope)) (pe_lcE (X := X) (elt := elt) (scope := scope)) hs, lc_run hN hg h he hc hR⟩⟩
/-- name = [.. for ..] -/
theorem ws_setLc (i k : Nat) {elt iter : Expr} {ifs : List Expr} {x y : Str} {scope : Scope} {px py spos : Pos} (hN : X.N.Nodup) (hg : ∀ (s : Shared) (H : Hp) (C : Addr) (cl : List (Str × Addr)) (fp : List Addr), PG (X.blk s H scope (compEnvC scope cl C X.env) fp) (.Name x px) (gName k))
    (h : WI X (.Name x px) iter Γ M (LcI X elt ifs k scope Γ fun d M2 => WS X rest (Γ.set i (some d)) M2 Φ))
    (hy : X.N[i]? = some y := by rfl) (hyl : X.env.scope.names.lookup y = some .local := by rfl) (hsw : swapsWith (.ListComp elt [⟨.Name x px, iter, ifs, 0⟩] scope pos) (some (.Name y py)) spos.line X.env = pure true := by exact sw_true rfl rfl rfl (by decide +kernel))
    (ok : BlkOk X.N X.env.scope scope [(x, k)] := by exact blkOk_by (by kernel_rfl)) (hcm : X.calm = true := by rfl) (hs : ∀ x, foldedSetIterable iter X.env x = pure x := by intro _; rfl) :
    WS X (.Assign [.Name y py] (.ListComp elt [⟨.Name x px, iter, ifs, 0⟩] scope pos) spos :: rest) Γ M Φ := ⟨fun F σ H he hc E hE => by
  refine ⟨_, pss_cons (ps_setLc hcm hN hy hyl hsw pi_wp ok hg (pts_lc (X := X) (ifs := ifs) (scope := scope)) (pe_lcE (X := X) (elt := elt) (scope := scope)) hs) pss_wp, ?_⟩
  exact lc_run (Q := fun d M2 => WS X rest (Γ.set i (some d)) M2 Φ) (elt := elt) (ifs := ifs) hN hg h he hc fun F1 H1 M1 v d e1 c1 d1 q => q.run F1 _ H1 ((he.mono e1).set d1) c1 E (hE.mono e1)⟩
end
end DL

set_option Elab.async false
set_option linter.all false
set_option autoImplicit false
set_option maxRecDepth 100000
set_option maxHeartbeats 2000000
namespace DL
open PySem L2

section
variable {X : Cx} {Γ : G} {M : MM} {Φ : Fi} {pos p : Pos} {rest : List Stmt}
/-! ### built-in functions and types, called -/
def CD (X : Cx) (r : List V → Hp → VK → Prop) (xs : List D) (M : MM) (Q : D → MM → Prop) : Prop := ∀ (F H : Hp) (vs : List V), Con X.K F M H → Dns X.K F vs xs → ∀ R : VK, Post X F Q R → r vs H R
theorem tCB_wp {es : List Expr} {r : List V → Hp → VK → Prop} {Q : D → MM → Prop} {S : List D → MM → Prop} (hs : ∀ ds M, S ds M → CD X r ds M Q) (h : WA X es Γ M S) {F : Hp} {σ : L2.St} {H : Hp} (he : EnvOk X.K F Γ σ) (hc : Con X.K F M H) {R : VK} (hR : Post X F Q R) :
    tCB r (wpA X es) σ H R := by
  refine h.run F σ H he hc _ fun F1 H1 M1 vs ds e1 c1 d1 q => ?_
  exact hs ds M1 q F1 H1 vs c1 d1 R fun F2 H2 M2 v d e2 c2 d2 q => hR F2 H2 M2 v d (e1.trans e2) c2 d2 q
theorem we_cb {x : Str} {id : String} {e : Expr} {es : List Expr} {r : List V → Hp → VK → Prop} {Q : D → MM → Prop} {S : List D → MM → Prop} (hc : CallR X (.builtin id) r) (hm : X.mg x = none) (hv : bootBuiltins x = some (.builtin id)) (hs : ∀ ds M, S ds M → CD X r ds M Q) (h : WA X (e :: es) Γ M S)
    (hg : Gl X x := by rfl) (hn : x ≠ "__name__" := by decide) (hdb : (x == ("__debug__" : Str)) = false := by decide) (he : starEach (e :: es) X.env = (false, eval e X.env) :: starEach es X.env := by rfl) (hpl : (backTo pos (starEach es X.env)).any (·.1) = false := by rfl) :
    WE X (.Call (.Name x p) (e :: es) [] pos) Γ M Q := ⟨fun F σ H ho hco R hR => ⟨_, pe_callB hc hg hm hv pa_wp hn hdb he hpl, tCB_wp hs h ho hco hR⟩⟩
theorem we_ct {x : Str} {T : String} {e : Expr} {es : List Expr} {r : List V → Hp → VK → Prop} {Q : D → MM → Prop} {S : List D → MM → Prop} (hc : CallR X (.type T) r) (hm : X.mg x = none) (hv : bootBuiltins x = some (.type T)) (hs : ∀ ds M, S ds M → CD X r ds M Q) (h : WA X (e :: es) Γ M S)
    (hg : Gl X x := by rfl) (hn : x ≠ "__name__" := by decide) (hdb : (x == ("__debug__" : Str)) = false := by decide) (he : starEach (e :: es) X.env = (false, eval e X.env) :: starEach es X.env := by rfl) (hpl : (backTo pos (starEach es X.env)).any (·.1) = false := by rfl) :
    WE X (.Call (.Name x p) (e :: es) [] pos) Γ M Q := ⟨fun F σ H ho hco R hR => ⟨_, pe_callTy hc hg hm hv pa_wp hn hdb he hpl, tCB_wp hs h ho hco hR⟩⟩
/-- len -/
@[reducible] def LenQ (ds : List D) (M : MM) (Q : D → MM → Prop) : Prop := match ds with
  | [.lst xs] => Q (.int xs.length) M
  | [.frz xs] => Q (.int xs.length) M
  | [.tup xs] => Q (.int xs.length) M
  | [.raw a] => ∃ xs, M a = some (.lst xs) ∧ Q (.int xs.length) M
  | [.str s] => s.length ≤ sizeLine ∧ Q (.int s.length) M
  | _ => False
theorem Dns.one {K : PySem.W.Frag} {F : Hp} {vs : List V} {d : D} (h : Dns K F vs [d]) : ∃ v, vs = [v] ∧ Dn K F v d := by
  cases h with
  | cons a b => cases b; exact ⟨_, rfl, a⟩
theorem Dns.two {K : PySem.W.Frag} {F : Hp} {vs : List V} {d e : D} (h : Dns K F vs [d, e]) : ∃ v u, vs = [v, u] ∧ Dn K F v d ∧ Dn K F u e := by
  cases h with
  | cons a b =>
    obtain ⟨u, rfl, c⟩ := Dns.one b
    exact ⟨_, u, rfl, a, c⟩
theorem we_len {e : Expr} {Q : D → MM → Prop} (hm : X.mg "len" = none) (h : WE X e Γ M fun d M1 => LenQ [d] M1 Q) (hs : starEach [e] X.env = [(false, eval e X.env)] := by rfl) (hg : Gl X "len" := by rfl) : WE X (.Call (.Name "len" p) [e] [] pos) Γ M Q := by
  refine we_cb (S := fun ds M => LenQ ds M Q) call_len hm PySem.boot_len (fun ds M hs => ?_) (wa_cons (h.imp fun d M1 q => wa_nil q) hs) hg (he := hs)
  intro F H vs c dvs R hR
  cases ds with
  | nil => exact hs.elim
  | cons d r =>
    cases r with
    | cons _ _ => cases d <;> exact hs.elim
    | nil =>
      obtain ⟨v, rfl, dv⟩ := dvs.one
      cases dv with
      | @lst a xs ds k1 k2 => exact ⟨_, xs.length, rfl, .inl ⟨xs, SqL.of (c.sub _ _ k1), rfl⟩, by rw [k2.length]; exact hR F H M _ _ (Same.refl F) c (.int _) hs⟩
      | @frz a xs ds k1 k2 => exact ⟨_, xs.length, rfl, .inl ⟨xs, sqL_mono c.sub k1, rfl⟩, by rw [k2.length]; exact hR F H M _ _ (Same.refl F) c (.int _) hs⟩
      | @tup a xs ds k1 k2 => exact ⟨_, xs.length, rfl, .inr ⟨xs, sqT_mono c.sub k1, rfl⟩, by rw [k2.length]; exact hR F H M _ _ (Same.refl F) c (.int _) hs⟩
      | raw a =>
        obtain ⟨xs, hM, q⟩ : ∃ xs, M a = some (.lst xs) ∧ Q (.int xs.length) M := hs
        obtain ⟨ys, k1, k2⟩ := c.lst hM
        exact ⟨_, ys.length, rfl, .inl ⟨ys, SqL.of k1, rfl⟩, by rw [k2.length]; exact hR F H M _ _ (Same.refl F) c (.int _) q⟩
      | str s => exact ⟨_, s.length, rfl, ⟨hs.1, rfl⟩, hR F H M _ _ (Same.refl F) c (.int _) hs.2⟩
      | _ => exact hs.elim
/-- two ints in, an int out -/
theorem we_b2 {x : Str} {id : String} {a b : Expr} {g : Int → Int → Int} {Q : D → MM → Prop} (hc : CallR X (.builtin id) (fun xs H Q => ∃ i j, xs = [.int i, .int j] ∧ Q (.int (g i j)) H)) (hm : X.mg x = none) (hv : bootBuiltins x = some (.builtin id))
    (h : WE X a Γ M fun y M1 => WE X b Γ M1 fun z M2 => I0 (fun i j => .int (g i j)) y z M2 Q) (hg : Gl X x) (hn : x ≠ "__name__") (hdb : (x == ("__debug__" : Str)) = false)
    (hs : starEach [a, b] X.env = (false, eval a X.env) :: starEach [b] X.env) (hs2 : starEach [b] X.env = [(false, eval b X.env)]) (hpl : (backTo pos (starEach [b] X.env)).any (·.1) = false) :
    WE X (.Call (.Name x p) [a, b] [] pos) Γ M Q := by
  refine we_cb (S := fun ds M => ∃ i j, ds = [.int i, .int j] ∧ Q (.int (g i j)) M) hc hm hv (fun ds M hs => ?_) (wa_cons (h.imp fun y M1 q => wa_cons (q.imp fun z M2 q => wa_nil ?_) hs2) hs) hg hn hdb hs hpl
  · obtain ⟨i, j, rfl, q⟩ := hs
    intro F H vs c dvs R hR
    obtain ⟨v, u, rfl, d1, d2⟩ := dvs.two
    cases d1
    cases d2
    exact ⟨i, j, rfl, hR F H M _ _ (Same.refl F) c (.int _) q⟩
  · cases y with
    | int i =>
      cases z with
      | int j => exact ⟨i, j, rfl, q⟩
      | _ => exact q.elim
    | _ => cases z <;> exact q.elim
theorem max_is (i j : Int) : (if j > i then j else i) = max i j := by
  by_cases h : j > i
  · rw [if_pos h]; omega
  · rw [if_neg h]; omega
theorem min_is (i j : Int) : (if j < i then j else i) = min i j := by
  by_cases h : j < i
  · rw [if_pos h]; omega
  · rw [if_neg h]; omega
theorem we_max {a b : Expr} {Q : D → MM → Prop} (hm : X.mg "max" = none) (h : WE X a Γ M fun y M1 => WE X b Γ M1 fun z M2 => I0 (fun i j => .int (max i j)) y z M2 Q) (hcm : X.calm = true := by rfl) (hg : Gl X "max" := by rfl)
    (hs : starEach [a, b] X.env = (false, eval a X.env) :: starEach [b] X.env := by rfl) (hs2 : starEach [b] X.env = [(false, eval b X.env)] := by rfl) (hpl : (backTo pos (starEach [b] X.env)).any (·.1) = false := by rfl) :
    WE X (.Call (.Name "max" p) [a, b] [] pos) Γ M Q :=
  we_b2 (g := fun i j => max i j) (by have e := call_max2 (X := X) hcm; simp only [max_is] at e; exact e) hm (by decide +kernel) h hg (by decide) (by decide) hs hs2 hpl
theorem we_min {a b : Expr} {Q : D → MM → Prop} (hm : X.mg "min" = none) (h : WE X a Γ M fun y M1 => WE X b Γ M1 fun z M2 => I0 (fun i j => .int (min i j)) y z M2 Q) (hcm : X.calm = true := by rfl) (hg : Gl X "min" := by rfl)
    (hs : starEach [a, b] X.env = (false, eval a X.env) :: starEach [b] X.env := by rfl) (hs2 : starEach [b] X.env = [(false, eval b X.env)] := by rfl) (hpl : (backTo pos (starEach [b] X.env)).any (·.1) = false := by rfl) :
    WE X (.Call (.Name "min" p) [a, b] [] pos) Γ M Q :=
  we_b2 (g := fun i j => min i j) (by have e := call_min2 (X := X) hcm; simp only [min_is] at e; exact e) hm (by decide +kernel) h hg (by decide) (by decide) hs hs2 hpl
/-- one argument -/
theorem we_cb1 {x : Str} {id : String} {e : Expr} {r : List V → Hp → VK → Prop} {Q : D → MM → Prop} {S : D → MM → Prop} (hc : CallR X (.builtin id) r) (hm : X.mg x = none) (hv : bootBuiltins x = some (.builtin id)) (hs : ∀ d M, S d M → CD X r [d] M Q) (h : WE X e Γ M S)
    (hst : starEach [e] X.env = [(false, eval e X.env)]) (hg : Gl X x) (hn : x ≠ "__name__") (hdb : (x == ("__debug__" : Str)) = false) : WE X (.Call (.Name x p) [e] [] pos) Γ M Q := by
  refine we_cb (S := fun ds M => ∃ d, ds = [d] ∧ S d M) hc hm hv (fun ds M ⟨d, e, q⟩ => by subst e; exact hs d M q) (wa_cons (h.imp fun d M1 q => wa_nil ⟨d, rfl, q⟩) hst) hg hn hdb hst
theorem we_ct1 {x : Str} {T : String} {e : Expr} {r : List V → Hp → VK → Prop} {Q : D → MM → Prop} {S : D → MM → Prop} (hc : CallR X (.type T) r) (hm : X.mg x = none) (hv : bootBuiltins x = some (.type T)) (hs : ∀ d M, S d M → CD X r [d] M Q) (h : WE X e Γ M S)
    (hst : starEach [e] X.env = [(false, eval e X.env)]) (hg : Gl X x) (hn : x ≠ "__name__") (hdb : (x == ("__debug__" : Str)) = false) : WE X (.Call (.Name x p) [e] [] pos) Γ M Q := by
  refine we_ct (S := fun ds M => ∃ d, ds = [d] ∧ S d M) hc hm hv (fun ds M ⟨d, e, q⟩ => by subst e; exact hs d M q) (wa_cons (h.imp fun d M1 q => wa_nil ⟨d, rfl, q⟩) hst) hg hn hdb hst
theorem abs_is (i : Int) : (if i < 0 then -i else i) = (i.natAbs : Int) := by
  by_cases h : i < 0
  · rw [if_pos h]; omega
  · rw [if_neg h]; omega
theorem we_abs {e : Expr} {Q : D → MM → Prop} (hm : X.mg "abs" = none) (h : WE X e Γ M fun d M1 => ∃ i : Int, d = .int i ∧ Q (.int (i.natAbs : Int)) M1) (hs : starEach [e] X.env = [(false, eval e X.env)] := by rfl) (hg : Gl X "abs" := by rfl) : WE X (.Call (.Name "abs" p) [e] [] pos) Γ M Q := by
  refine we_cb1 call_abs hm (by decide +kernel) (fun d M ⟨i, hd, q⟩ => ?_) h hs hg (by decide) (by decide)
  subst hd
  intro F H vs c dvs R hR
  obtain ⟨v, rfl, dv⟩ := dvs.one
  cases dv
  exact ⟨i, rfl, by rw [abs_is]; exact hR F H M _ _ (Same.refl F) c (.int _) q⟩
/-- int(..) -/
@[reducible] def IntQ (d : D) (M : MM) (Q : D → MM → Prop) : Prop := match d with
  | .int i => Q (.int i) M
  | .bl b => Q (.int (if b then 1 else 0)) M
  | .str s => ∃ n, PySem.intText? s = some n ∧ s.length ≤ 640 ∧ Q (.int n) M
  | _ => False
theorem we_intc {e : Expr} {Q : D → MM → Prop} (hm : X.mg "int" = none) (h : WE X e Γ M fun d M1 => IntQ d M1 Q) (hs : starEach [e] X.env = [(false, eval e X.env)] := by rfl) (hg : Gl X "int" := by rfl) : WE X (.Call (.Name "int" p) [e] [] pos) Γ M Q := by
  refine we_ct1 (call_int1.or call_int_str) hm (by decide +kernel) (fun d M hs => ?_) h hs hg (by decide) (by decide)
  intro F H vs c dvs R hR
  obtain ⟨v, rfl, dv⟩ := dvs.one
  cases dv with
  | int i => exact .inl (.inl ⟨i, rfl, hR F H M _ _ (Same.refl F) c (.int _) hs⟩)
  | bl b => exact .inl (.inr ⟨b, rfl, hR F H M _ _ (Same.refl F) c (.int _) hs⟩)
  | str s =>
    obtain ⟨n, h1, h2, q⟩ : ∃ n, PySem.intText? s = some n ∧ s.length ≤ 640 ∧ Q (.int n) M := hs
    exact .inr ⟨s, n, rfl, h1, h2, hR F H M _ _ (Same.refl F) c (.int _) q⟩
  | _ => exact hs.elim
/-- str(an int) -/
theorem we_strc {e : Expr} {Q : D → MM → Prop} (hm : X.mg "str" = none) (h : WE X e Γ M fun d M1 => ∃ i : Int, d = .int i ∧ i.natAbs.log2 < 1920 ∧ Q (.str (toString i : String)) M1) (hs : starEach [e] X.env = [(false, eval e X.env)] := by rfl) (hg : Gl X "str" := by rfl) : WE X (.Call (.Name "str" p) [e] [] pos) Γ M Q := by
  refine we_ct1 call_str_int hm (by decide +kernel) (fun d M ⟨i, hd, hl, q⟩ => ?_) h hs hg (by decide) (by decide)
  subst hd
  intro F H vs c dvs R hR
  obtain ⟨v, rfl, dv⟩ := dvs.one
  cases dv
  exact ⟨i, rfl, hl, hR F H M _ _ (Same.refl F) c (.str _) q⟩
/-- tuple(..) -/
@[reducible] def TupQ (d : D) (M : MM) (Q : D → MM → Prop) : Prop := match d with
  | .lst xs => Q (.tup xs) M
  | .frz xs => Q (.tup xs) M
  | .tup xs => Q (.tup xs) M
  | .raw a => ∃ xs, M a = some (.lst xs) ∧ Q (.tup xs) M
  | _ => False
theorem we_tupc {e : Expr} {Q : D → MM → Prop} (hm : X.mg "tuple" = none) (h : WE X e Γ M fun d M1 => TupQ d M1 Q) (hs : starEach [e] X.env = [(false, eval e X.env)] := by rfl) (hg : Gl X "tuple" := by rfl) : WE X (.Call (.Name "tuple" p) [e] [] pos) Γ M Q := by
  refine we_ct1 call_tuple_of hm (by decide +kernel) (fun d M hs => ?_) h hs hg (by decide) (by decide)
  intro F H vs c dvs R hR
  obtain ⟨v, rfl, dv⟩ := dvs.one
  cases dv with
  | @lst a xs ds k1 k2 =>
    refine ⟨a, xs, rfl, .inl ⟨SqL.of (c.sub _ _ k1), fun l hl => ?_⟩⟩
    have s := same_new (o := .tup xs) (c.sub.free hl)
    exact hR _ _ M _ _ s (c.new hl) (.tup (.inl (.inl upd_same)) (k2.mono s)) hs
  | @frz a xs ds k1 k2 =>
    refine ⟨a, xs, rfl, .inl ⟨sqL_mono c.sub k1, fun l hl => ?_⟩⟩
    have s := same_new (o := .tup xs) (c.sub.free hl)
    exact hR _ _ M _ _ s (c.new hl) (.tup (.inl (.inl upd_same)) (k2.mono s)) hs
  | @tup a xs ds k1 k2 => exact ⟨a, xs, rfl, .inr ⟨sqT_mono c.sub k1, hR F H M _ _ (Same.refl F) c (.tup k1 k2) hs⟩⟩
  | raw a =>
    obtain ⟨ds, hM, q⟩ : ∃ xs, M a = some (.lst xs) ∧ Q (.tup xs) M := hs
    obtain ⟨ys, k1, k2⟩ := c.lst hM
    refine ⟨a, ys, rfl, .inl ⟨SqL.of k1, fun l hl => ?_⟩⟩
    have s := same_new (o := .tup ys) (c.sub.free hl)
    exact hR _ _ M _ _ s (c.new hl) (.tup (.inl (.inl upd_same)) (k2.mono s)) q
  | _ => exact hs.elim
/-- list(..): a new list that may change -/
@[reducible] def LstQ (d : D) (M : MM) (Q : List D → Prop) : Prop := match d with
  | .lst xs => Q xs
  | .frz xs => Q xs
  | .tup xs => Q xs
  | .raw a => ∃ xs, M a = some (.lst xs) ∧ Q xs
  | _ => False
theorem we_lstc {e : Expr} {Q : D → MM → Prop} (hm : X.mg "list" = none) (h : WE X e Γ M fun d M1 => LstQ d M1 fun xs => ∀ a, M1 a = none → Q (.raw a) (mupd M1 a (.lst xs))) (hs : starEach [e] X.env = [(false, eval e X.env)] := by rfl) (hg : Gl X "list" := by rfl) : WE X (.Call (.Name "list" p) [e] [] pos) Γ M Q := by
  refine we_ct1 call_list_of hm (by decide +kernel) (fun d M hs => ?_) h hs hg (by decide) (by decide)
  intro F H vs c dvs R hR
  obtain ⟨v, rfl, dv⟩ := dvs.one
  cases dv with
  | @lst a xs ds k1 k2 =>
    exact ⟨a, xs, rfl, .inl (SqL.of (c.sub _ _ k1)), fun l hl => hR F _ _ _ _ (Same.refl F) (c.newM hl k2) (.raw l) (hs l (c.fresh hl))⟩
  | @frz a xs ds k1 k2 =>
    exact ⟨a, xs, rfl, .inl (sqL_mono c.sub k1), fun l hl => hR F _ _ _ _ (Same.refl F) (c.newM hl k2) (.raw l) (hs l (c.fresh hl))⟩
  | @tup a xs ds k1 k2 =>
    exact ⟨a, xs, rfl, .inr (sqT_mono c.sub k1), fun l hl => hR F _ _ _ _ (Same.refl F) (c.newM hl k2) (.raw l) (hs l (c.fresh hl))⟩
  | raw a =>
    obtain ⟨ds, hM, q⟩ : ∃ xs, M a = some (.lst xs) ∧ ∀ b, M b = none → Q (.raw b) (mupd M b (.lst xs)) := hs
    obtain ⟨ys, k1, k2⟩ := c.lst hM
    exact ⟨a, ys, rfl, .inl (SqL.of k1), fun l hl => hR F _ _ _ _ (Same.refl F) (c.newM hl k2) (.raw l) (q l (c.fresh hl))⟩
  | _ => exact hs.elim
theorem we_divmod {a b : Expr} {Q : D → MM → Prop} (hm : X.mg "divmod" = none) (h : WE X a Γ M fun y M1 => WE X b Γ M1 fun z M2 => ∃ i j, y = .int i ∧ z = .int j ∧ 0 < j ∧ j < 1073741824 ∧ Q (.tup [.int (i / j), .int (i % j)]) M2) (hg : Gl X "divmod" := by rfl)
    (hs : starEach [a, b] X.env = (false, eval a X.env) :: starEach [b] X.env := by rfl) (hs2 : starEach [b] X.env = [(false, eval b X.env)] := by rfl) (hpl : (backTo pos (starEach [b] X.env)).any (·.1) = false := by rfl) :
    WE X (.Call (.Name "divmod" p) [a, b] [] pos) Γ M Q := by
  refine we_cb (S := fun ds M => ∃ i j, ds = [.int i, .int j] ∧ 0 < j ∧ j < 1073741824 ∧ Q (.tup [.int (i / j), .int (i % j)]) M) call_divmod hm (by decide +kernel) (fun ds M hs => ?_) (wa_cons (h.imp fun y M1 q => wa_cons (q.imp fun z M2 ⟨i, j, h1, h2, h3⟩ => wa_nil ⟨i, j, by rw [h1, h2], h3⟩) hs2) hs) hg (by decide) (by decide) hs hpl
  obtain ⟨i, j, rfl, h1, h2, q⟩ := hs
  intro F H vs c dvs R hR
  obtain ⟨v, u, rfl, d1, d2⟩ := dvs.two
  cases d1
  cases d2
  refine ⟨i, j, rfl, ⟨h1, h2⟩, fun l hl => ?_⟩
  have s := same_new (o := .tup [.int (i / j), .int (i % j)]) (c.sub.free hl)
  exact hR _ _ M _ _ s (c.new hl) (.tup (.inl (.inl upd_same)) (.cons (.int _) (.cons (.int _) .nil))) q
/-- sum, max, min, all, any of one list -/
@[reducible] def seqOf (d : D) (M : MM) : Option (List D) := match d with
  | .lst xs => some xs
  | .frz xs => some xs
  | .raw a => match M a with
    | some (.lst xs) => some xs
    | _ => none
  | _ => none
theorem seqOf_at {K : PySem.W.Frag} {F H : Hp} {v : V} {d : D} {xs : List D} (c : Con K F M H) (dv : Dn K F v d) (h : seqOf d M = some xs) : ∃ a vs, v = .ref a ∧ SqL K H a vs ∧ Dns K F vs xs := by
  cases dv with
  | @lst a ys ds k1 k2 => cases h; exact ⟨a, ys, rfl, SqL.of (c.sub _ _ k1), k2⟩
  | @frz a ys ds k1 k2 => cases h; exact ⟨a, ys, rfl, sqL_mono c.sub k1, k2⟩
  | raw a =>
    have h' : (match M a with | some (.lst xs) => some xs | _ => none) = some xs := h
    cases e : M a with
    | none => rw [e] at h'; cases h'
    | some m =>
      rw [e] at h'
      cases m with
      | lst ds =>
        cases h'
        obtain ⟨ys, k1, k2⟩ := c.lst e
        exact ⟨a, ys, rfl, SqL.of k1, k2⟩
      | tabs T => cases h'
      | ins C ns ds => cases h'
  | _ => cases h
theorem we_sum {e : Expr} {Q : D → MM → Prop} (hm : X.mg "sum" = none) (h : WE X e Γ M fun d M1 => ∃ ns : List Int, seqOf d M1 = some (ns.map .int) ∧ Q (.int ns.sum) M1) (hcm : X.calm = true := by rfl) (hs : starEach [e] X.env = [(false, eval e X.env)] := by rfl) (hg : Gl X "sum" := by rfl) : WE X (.Call (.Name "sum" p) [e] [] pos) Γ M Q := by
  refine we_cb1 (cr_sum hcm) hm (by decide +kernel) (fun d M ⟨ns, hd, q⟩ => ?_) h hs hg (by decide) (by decide)
  intro F H vs c dvs R hR
  obtain ⟨v, rfl, dv⟩ := dvs.one
  obtain ⟨a, ws, rfl, h1, h2⟩ := seqOf_at c dv hd
  rw [h2.ints] at h1
  exact ⟨a, ns, rfl, h1, hR F H M _ _ (Same.refl F) c (.int _) q⟩
theorem we_all {e : Expr} {Q : D → MM → Prop} (hm : X.mg "all" = none) (h : WE X e Γ M fun d M1 => ∃ bs : List Bool, seqOf d M1 = some (bs.map .bl) ∧ Q (.bl (bs.all id)) M1) (hcm : X.calm = true := by rfl) (hs : starEach [e] X.env = [(false, eval e X.env)] := by rfl) (hg : Gl X "all" := by rfl) : WE X (.Call (.Name "all" p) [e] [] pos) Γ M Q := by
  refine we_cb1 (cr_all hcm) hm (by decide +kernel) (fun d M ⟨ns, hd, q⟩ => ?_) h hs hg (by decide) (by decide)
  intro F H vs c dvs R hR
  obtain ⟨v, rfl, dv⟩ := dvs.one
  obtain ⟨a, ws, rfl, h1, h2⟩ := seqOf_at c dv hd
  rw [h2.bls] at h1
  exact ⟨a, ns, rfl, h1, hR F H M _ _ (Same.refl F) c (.bl _) q⟩
theorem we_any {e : Expr} {Q : D → MM → Prop} (hm : X.mg "any" = none) (h : WE X e Γ M fun d M1 => ∃ bs : List Bool, seqOf d M1 = some (bs.map .bl) ∧ Q (.bl (bs.any id)) M1) (hcm : X.calm = true := by rfl) (hs : starEach [e] X.env = [(false, eval e X.env)] := by rfl) (hg : Gl X "any" := by rfl) : WE X (.Call (.Name "any" p) [e] [] pos) Γ M Q := by
  refine we_cb1 (cr_any hcm) hm (by decide +kernel) (fun d M ⟨ns, hd, q⟩ => ?_) h hs hg (by decide) (by decide)
  intro F H vs c dvs R hR
  obtain ⟨v, rfl, dv⟩ := dvs.one
  obtain ⟨a, ws, rfl, h1, h2⟩ := seqOf_at c dv hd
  rw [h2.bls] at h1
  exact ⟨a, ns, rfl, h1, hR F H M _ _ (Same.refl F) c (.bl _) q⟩
theorem we_maxL {e : Expr} {Q : D → MM → Prop} (hm : X.mg "max" = none) (h : WE X e Γ M fun d M1 => ∃ ns : List Int, seqOf d M1 = some (ns.map .int) ∧ 0 < ns.length ∧ ∀ m, m ∈ ns → (∀ y, y ∈ ns → y ≤ m) → Q (.int m) M1) (hcm : X.calm = true := by rfl) (hs : starEach [e] X.env = [(false, eval e X.env)] := by rfl) (hg : Gl X "max" := by rfl) : WE X (.Call (.Name "max" p) [e] [] pos) Γ M Q := by
  refine we_cb1 (cr_max hcm) hm (by decide +kernel) (fun d M ⟨ns, hd, hl, q⟩ => ?_) h hs hg (by decide) (by decide)
  intro F H vs c dvs R hR
  obtain ⟨v, rfl, dv⟩ := dvs.one
  obtain ⟨a, ws, rfl, h1, h2⟩ := seqOf_at c dv hd
  rw [h2.ints] at h1
  exact ⟨a, ns, rfl, h1, hl, fun m h1 h2 => hR F H M _ _ (Same.refl F) c (.int _) (q m h1 h2)⟩
/-- type(e) is T -/
@[reducible] def tyD : D → Option String
  | .non => some "NoneType"
  | .bl _ => some "bool"
  | .int _ => some "int"
  | .str _ => some "str"
  | .lst _ => some "list"
  | .frz _ => some "list"
  | .tup _ => some "tuple"
  | .dct _ _ => some "dict"
  | _ => none
theorem tyD_of {K : PySem.W.Frag} {F H : Hp} {v : V} {d : D} {T : String} (e : Same F H) (dv : Dn K F v d) (h : tyD d = some T) : TyB K H v T := by
  cases dv with
  | non => cases h; exact .non
  | bl b => cases h; exact .bl b
  | int i => cases h; exact .int i
  | str s => cases h; exact .str s
  | dct k1 k2 k3 => cases h; exact .dK (e _ _ k1)
  | lst k1 k2 => cases h; exact .lst (SqL.of (e _ _ k1))
  | frz k1 k2 => cases h; exact .lst (sqL_mono e k1)
  | tup k1 k2 => cases h; exact .tup (sqT_mono e k1)
  | _ => cases h
theorem tTypeIs_wp {e : Expr} {T : String} {Q : D → MM → Prop} (f : Bool → Bool) {r : R2} (hr : ∀ a b H R, R (.bl (f (decide (a = b)))) H → r (.ty a) (.ty b) H R) (h : WE X e Γ M fun d M1 => ∃ t, tyD d = some t ∧ Q (.bl (f (decide (t = T)))) M1) {F : Hp} {σ : L2.St} {H : Hp} (he : EnvOk X.K F Γ σ) (hc : Con X.K F M H) {R : VK} (hR : Post X F Q R) :
    tOp r (tCB (rTyp X.K) (tCons (wpE X e) tNil)) (tC (.ty T)) σ H R := by
  refine h.run F σ H he hc _ fun F1 H1 M1 v d e1 c1 d1 ⟨t, ht, q⟩ => ?_
  exact ⟨v, t, rfl, tyD_of c1.sub d1 ht, hr _ _ _ _ (hR F1 H1 M1 _ _ e1 c1 (.bl _) q)⟩
theorem we_typeIs {e : Expr} {x : Str} {T : String} {p1 p2 p3 : Pos} {Q : D → MM → Prop} (hm : X.mg "type" = none) (hT : X.mg x = none) (hv : bootBuiltins x = some (.type T)) (h : WE X e Γ M fun d M1 => ∃ t, tyD d = some t ∧ Q (.bl (decide (t = T))) M1)
    (hs : starEach [e] X.env = [(false, eval e X.env)] := by rfl) (hg : Gl X "type" := by rfl) (hgT : Gl X x := by rfl) (hn : x ≠ "__name__" := by decide) (hdb : (x == ("__debug__" : Str)) = false := by decide) :
    WE X (.Compare (.Call (.Name "type" p1) [e] [] p2) [.Is] [.Name x p3] pos) Γ M Q := ⟨fun F σ H he hc R hR =>
  ⟨_, pe_cmpR op_isTyB (pe_callTy call_type1 hg hm (by decide +kernel) (pa_cons pe_wp pa_nil hs) (by decide) (by decide) hs) (pe_bltn (v := .ty T) hgT hT hv (show RelV (.ty T) (.type T) from rfl) hn hdb) (nomark _), tTypeIs_wp id (fun a b H R q => ⟨a, b, rfl, rfl, q⟩) h he hc hR⟩⟩
theorem we_typeNot {e : Expr} {x : Str} {T : String} {p1 p2 p3 : Pos} {Q : D → MM → Prop} (hm : X.mg "type" = none) (hT : X.mg x = none) (hv : bootBuiltins x = some (.type T)) (h : WE X e Γ M fun d M1 => ∃ t, tyD d = some t ∧ Q (.bl (!decide (t = T))) M1)
    (hs : starEach [e] X.env = [(false, eval e X.env)] := by rfl) (hg : Gl X "type" := by rfl) (hgT : Gl X x := by rfl) (hn : x ≠ "__name__" := by decide) (hdb : (x == ("__debug__" : Str)) = false := by decide) :
    WE X (.Compare (.Call (.Name "type" p1) [e] [] p2) [.IsNot] [.Name x p3] pos) Γ M Q := ⟨fun F σ H he hc R hR =>
  ⟨_, pe_cmpR op_notTyB (pe_callTy call_type1 hg hm (by decide +kernel) (pa_cons pe_wp pa_nil hs) (by decide) (by decide) hs) (pe_bltn (v := .ty T) hgT hT hv (show RelV (.ty T) (.type T) from rfl) hn hdb) (nomark _), tTypeIs_wp not (fun a b H R q => ⟨a, b, rfl, rfl, q⟩) h he hc hR⟩⟩
end
end DL

set_option Elab.async false
set_option linter.all false
set_option autoImplicit false
set_option maxRecDepth 100000
set_option maxHeartbeats 2000000
namespace DL
open PySem L2

theorem Room.u65 {k : Nat} {A : Around} (r : Room k A) : A.units + 65 < cLine := by have := r.un; omega

section
variable {X : Cx} {Γ : G} {M : MM} {Φ : Fi} {pos p apos : Pos} {rest : List Stmt}
/-! ### names of the module -/
theorem we_glob {x : Str} {v : V} {u : Value} {d : D} {Q : D → MM → Prop} (hm : X.mg x = some u) (r : RelV v u) (hd : ∀ F, Dn X.K F v d) (hq : Q d M) (hg : Gl X x := by rfl) (hdb : (x == ("__debug__" : Str)) = false := by decide) : WE X (.Name x pos) Γ M Q := ⟨fun F σ H he hc R hR =>
  ⟨_, pe_glob hg hm r hdb, hR F H M v d (Same.refl F) hc (hd F) hq⟩⟩
theorem we_globI {x : Str} {i : Int} {t : Tok} {Q : D → MM → Prop} (hm : X.mg x = some (.int i t)) (hq : Q (.int i) M) (hg : Gl X x := by rfl) (hdb : (x == ("__debug__" : Str)) = false := by decide) : WE X (.Name x pos) Γ M Q :=
  we_glob (v := .int i) hm ⟨t, rfl⟩ (fun F => .int i) hq hg hdb

/-! ### in, not in -/
def rInDT (K : PySem.W.Frag) (f : Bool → Bool) : R2 := fun x y H Q => ∃ d ds, Dp K H x d ∧ (Dp K H y (.list ds) ∨ Dp K H y (.tuple ds)) ∧ SeqAt.shaped d = true ∧ SeqAt.shaped (.list ds) = true ∧ Q (.bl (f (ds.any fun z => PyData.eqv z d))) H
theorem op_inDT (hu : X.A.units + 65 < cLine) : OpR X (compareOp .In) (rInDT X.K id) := by
  intro pins s σ H x y v u Q I rx ry h
  obtain ⟨d, ds, hd, he, sd, se, q⟩ := h
  obtain ⟨as, r1⟩ := Dp.reads I d x v hd rx
  rcases he with he | he
  · obtain ⟨bs, r2⟩ := Dp.reads I (.list ds) y u he ry
    exact SeqAt.in_list_reads r2 r1 (SeqAt.canLay_of_shaped se) (SeqAt.canLay_of_shaped sd) (PyProof.Rows.room_in_shaped sd hu) ⟨.bl _, H, I, rfl, q⟩
  · obtain ⟨bs, r2⟩ := Dp.reads I (.tuple ds) y u he ry
    exact SeqAt.in_tuple_reads r2 r1 (SeqAt.canLay_of_shaped se) (SeqAt.canLay_of_shaped sd) (PyProof.Rows.room_in_shaped sd hu) ⟨.bl _, H, I, rfl, q⟩
theorem op_notInDT (hu : X.A.units + 65 < cLine) : OpR X (compareOp .NotIn) (rInDT X.K not) := by
  intro pins s σ H x y v u Q I rx ry h
  obtain ⟨d, ds, hd, he, sd, se, q⟩ := h
  obtain ⟨as, r1⟩ := Dp.reads I d x v hd rx
  rcases he with he | he
  · obtain ⟨bs, r2⟩ := Dp.reads I (.list ds) y u he ry
    exact SeqAt.notIn_list_reads r2 r1 (SeqAt.canLay_of_shaped se) (SeqAt.canLay_of_shaped sd) (PyProof.Rows.room_in_shaped sd hu) ⟨.bl _, H, I, rfl, q⟩
  · obtain ⟨bs, r2⟩ := Dp.reads I (.tuple ds) y u he ry
    exact SeqAt.notIn_tuple_reads r2 r1 (SeqAt.canLay_of_shaped se) (SeqAt.canLay_of_shaped sd) (PyProof.Rows.room_in_shaped sd hu) ⟨.bl _, H, I, rfl, q⟩
/-- x among data -/
@[reducible] def InQ (x y : D) (M : MM) (Q : Bool → MM → Prop) : Prop := match y with
  | .lst ds => ∃ p qs, py x = some p ∧ pys ds = some qs ∧ SeqAt.shaped p = true ∧ SeqAt.shaped (.list qs) = true ∧ Q (qs.any fun z => PyData.eqv z p) M
  | .tup ds => ∃ p qs, py x = some p ∧ pys ds = some qs ∧ SeqAt.shaped p = true ∧ SeqAt.shaped (.list qs) = true ∧ Q (qs.any fun z => PyData.eqv z p) M
  | _ => False
theorem opd_in (f : Bool → Bool) {x y : D} {Q : D → MM → Prop} (hs : InQ x y M fun b M => Q (.bl (f b)) M) : OpD X (rInDT X.K f) x y M Q := by
  intro F H v u c dv du R hR
  cases du with
  | @lst a xs ds k1 k2 =>
    obtain ⟨p, qs, a1, a2, a3, a4, a5⟩ := hs
    exact ⟨p, qs, dp_of c.sub dv a1, .inl (.lst (.inl (.inl (c.sub _ _ k1))) (dps_of c.sub k2 a2)), a3, a4, hR F H M _ _ (Same.refl F) c (.bl _) a5⟩
  | @tup a xs ds k1 k2 =>
    obtain ⟨p, qs, a1, a2, a3, a4, a5⟩ := hs
    exact ⟨p, qs, dp_of c.sub dv a1, .inr (.tup (sqT_mono c.sub k1) (dps_of c.sub k2 a2)), a3, a4, hR F H M _ _ (Same.refl F) c (.bl _) a5⟩
  | _ => exact hs.elim
theorem InQ.imp {x y : D} {Q Q' : Bool → MM → Prop} (h : InQ x y M Q) (hq : ∀ b M, Q b M → Q' b M) : InQ x y M Q' := by
  cases y with
  | lst ds => obtain ⟨p, qs, a1, a2, a3, a4, a5⟩ := h; exact ⟨p, qs, a1, a2, a3, a4, hq _ _ a5⟩
  | tup ds => obtain ⟨p, qs, a1, a2, a3, a4, a5⟩ := h; exact ⟨p, qs, a1, a2, a3, a4, hq _ _ a5⟩
  | _ => exact h.elim
theorem we_in {a b : Expr} {Q : D → MM → Prop} (hu : X.A.units + 65 < cLine) (h : WE X a Γ M fun x M1 => WE X b Γ M1 fun y M2 => InQ x y M2 fun b M => Q (.bl b) M) (hm : behindInMarks .In b = false := by rfl) : WE X (.Compare a [.In] [b] pos) Γ M Q :=
  we_cmpR (S := fun x y M Q => InQ x y M fun b M => Q (.bl b) M) (op_inDT hu) (fun _ _ _ hs => opd_in id hs) hm h
theorem we_nin {a b : Expr} {Q : D → MM → Prop} (hu : X.A.units + 65 < cLine) (h : WE X a Γ M fun x M1 => WE X b Γ M1 fun y M2 => InQ x y M2 fun b M => Q (.bl (!b)) M) (hm : behindInMarks .NotIn b = false := by rfl) : WE X (.Compare a [.NotIn] [b] pos) Γ M Q :=
  we_cmpR (S := fun x y M Q => InQ x y M fun b M => Q (.bl (!b)) M) (op_notInDT hu) (fun _ _ _ hs => opd_in not hs) hm h
theorem wt_in {a b : Expr} {Q : Bool → MM → Prop} (hu : X.A.units + 65 < cLine) (h : WE X a Γ M fun x M1 => WE X b Γ M1 fun y M2 => InQ x y M2 Q) (hm : behindInMarks .In b = false := by rfl) : WT X (.Compare a [.In] [b] pos) Γ M Q :=
  wt_cmpR (S := fun x y M Q => InQ x y M fun b M => Q (.bl b) M) (op_inDT hu) (fun _ _ _ hs => opd_in id hs) hm (h.imp fun x M1 h1 => h1.imp fun y M2 h2 => h2.imp fun b M q => ⟨b, rfl, q⟩)
theorem wt_nin {a b : Expr} {Q : Bool → MM → Prop} (hu : X.A.units + 65 < cLine) (h : WE X a Γ M fun x M1 => WE X b Γ M1 fun y M2 => InQ x y M2 fun b M => Q (!b) M) (hm : behindInMarks .NotIn b = false := by rfl) : WT X (.Compare a [.NotIn] [b] pos) Γ M Q :=
  wt_cmpR (S := fun x y M Q => InQ x y M fun b M => Q (.bl (!b)) M) (op_notInDT hu) (fun _ _ _ hs => opd_in not hs) hm (h.imp fun x M1 h1 => h1.imp fun y M2 h2 => h2.imp fun b M q => ⟨!b, rfl, q⟩)

/-! ### methods of texts -/
theorem we_m0 {id : String} {name : Str} {o : Expr} {r : V → List V → Hp → VK → Prop} {Q : D → MM → Prop} {S : Str → MM → Prop} (slot : Slot "str" name id) (ty : typeOf (.builtin id) = pure (.type "method_descriptor")) (rule : MtR X id r)
    (hs : ∀ s M, S s M → ∀ (F H : Hp), Con X.K F M H → ∀ R : VK, Post X F Q R → r (.str s) [] H R) (h : WE X o Γ M fun x M1 => ∃ s, x = .str s ∧ S s M1)
    (hbase : attributeBase o name X.env (eval o X.env) = eval o X.env := by rfl) (hline : (apos.endLine == pos.line) = true := by rfl) : WE X (.Call (.Attribute o name apos) [] [] pos) Γ M Q := ⟨fun F σ H he hc R hR => by
  refine ⟨_, pe_m0 slot ty rule pe_wp hbase hline, h.run F σ H he hc _ fun F1 H1 M1 v x e1 c1 d1 ⟨s, hx, q⟩ => ?_⟩
  subst hx
  cases d1
  exact ⟨⟨s, rfl⟩, hs s M1 q F1 H1 c1 R fun F2 H2 M2 v d e2 c2 d2 q => hR F2 H2 M2 v d (e1.trans e2) c2 d2 q⟩⟩
theorem we_m1 {id : String} {name : Str} {o e : Expr} {r : V → List V → Hp → VK → Prop} {Q : D → MM → Prop} {S : Str → D → MM → Prop} (slot : Slot "str" name id) (ty : typeOf (.builtin id) = pure (.type "method_descriptor")) (rule : MtR X id r)
    (hs : ∀ s d M, S s d M → ∀ (F H : Hp) (v : V), Con X.K F M H → Dn X.K F v d → ∀ R : VK, Post X F Q R → r (.str s) [v] H R) (h : WE X o Γ M fun x M1 => ∃ s, x = .str s ∧ WE X e Γ M1 fun y M2 => S s y M2)
    (hst : starEach [e] X.env = [(false, eval e X.env)] := by rfl) (hbase : attributeBase o name X.env (eval o X.env) = eval o X.env := by rfl) (hline : (apos.endLine == pos.line) = true := by rfl) : WE X (.Call (.Attribute o name apos) [e] [] pos) Γ M Q := ⟨fun F σ H he hc R hR => by
  refine ⟨_, pe_m1 slot ty rule pe_wp pe_wp hst hbase hline, h.run F σ H he hc _ fun F1 H1 M1 v x e1 c1 d1 ⟨s, hx, q⟩ => ?_⟩
  subst hx
  cases d1
  refine ⟨⟨s, rfl⟩, q.run F1 σ H1 (he.mono e1) c1 _ fun F2 H2 M2 u y e2 c2 d2 q2 => ?_⟩
  exact hs s y M2 q2 F2 H2 u c2 d2 R fun F3 H3 M3 v d e3 c3 d3 q => hR F3 H3 M3 v d ((e1.trans e2).trans e3) c3 d3 q⟩
theorem we_split {o e : Expr} {Q : D → MM → Prop} (h : WE X o Γ M fun x M1 => ∃ s, x = .str s ∧ WE X e Γ M1 fun y M2 => ∃ t, y = .str t ∧ (t.length == 0) = false ∧ s.length + 2 ≤ sizeLine ∧ Q (.lst ((Txt.split s t).map .str)) M2)
    (hst : starEach [e] X.env = [(false, eval e X.env)] := by rfl) (hbase : attributeBase o "split" X.env (eval o X.env) = eval o X.env := by rfl) (hline : (apos.endLine == pos.line) = true := by rfl) : WE X (.Call (.Attribute o "split" apos) [e] [] pos) Γ M Q :=
  we_m1 (S := fun s y M => ∃ t, y = .str t ∧ (t.length == 0) = false ∧ s.length + 2 ≤ sizeLine ∧ Q (.lst ((Txt.split s t).map .str)) M) F.slot_str_split F.type_str_split mt_split (fun s d M ⟨t, hd, h1, h2, q⟩ => by
    subst hd
    intro F H v c dv R hR
    cases dv
    refine ⟨s, t, rfl, rfl, h1, h2, fun p hp => ?_⟩
    exact hR _ _ M _ _ (same_new (c.sub.free hp)) (c.new hp) (.lst upd_same (Dns.of_strs _)) q) h hst hbase hline
theorem we_join {o e : Expr} {Q : D → MM → Prop} (h : WE X o Γ M fun x M1 => ∃ s, x = .str s ∧ WE X e Γ M1 fun y M2 => ∃ ys : List Str, (y = .lst (ys.map .str) ∨ y = .tup (ys.map .str)) ∧ (ys.map (·.length)).sum + ys.length * s.length ≤ 16777216 ∧ Q (.str (Txt.join s ys)) M2)
    (hst : starEach [e] X.env = [(false, eval e X.env)] := by rfl) (hbase : attributeBase o "join" X.env (eval o X.env) = eval o X.env := by rfl) (hline : (apos.endLine == pos.line) = true := by rfl) : WE X (.Call (.Attribute o "join" apos) [e] [] pos) Γ M Q :=
  we_m1 (S := fun s y M => ∃ ys : List Str, (y = .lst (ys.map .str) ∨ y = .tup (ys.map .str)) ∧ (ys.map (·.length)).sum + ys.length * s.length ≤ 16777216 ∧ Q (.str (Txt.join s ys)) M) F.slot_str_join F.type_str_join mt_join (fun s d M ⟨ys, hd, h1, q⟩ => by
    intro F H v c dv R hR
    rcases hd with hd | hd
    · subst hd
      cases dv with
      | @lst a xs _ k1 k2 =>
        refine ⟨s, a, ys, rfl, rfl, .inl ?_, h1, hR F H M _ _ (Same.refl F) c (.str _) q⟩
        rw [← k2.strs]
        exact SqL.of (c.sub _ _ k1)
    · subst hd
      cases dv with
      | @tup a xs _ k1 k2 =>
        refine ⟨s, a, ys, rfl, rfl, .inr ?_, h1, hR F H M _ _ (Same.refl F) c (.str _) q⟩
        rw [← k2.strs]
        exact sqT_mono c.sub k1) h hst hbase hline
theorem we_removeprefix {o e : Expr} {Q : D → MM → Prop} (h : WE X o Γ M fun x M1 => ∃ s, x = .str s ∧ WE X e Γ M1 fun y M2 => ∃ t, y = .str t ∧ s.length ≤ sizeLine ∧ Q (.str (Txt.removeprefix s t)) M2)
    (hst : starEach [e] X.env = [(false, eval e X.env)] := by rfl) (hbase : attributeBase o "removeprefix" X.env (eval o X.env) = eval o X.env := by rfl) (hline : (apos.endLine == pos.line) = true := by rfl) : WE X (.Call (.Attribute o "removeprefix" apos) [e] [] pos) Γ M Q :=
  we_m1 (S := fun s y M => ∃ t, y = .str t ∧ s.length ≤ sizeLine ∧ Q (.str (Txt.removeprefix s t)) M) F.slot_str_removeprefix F.type_str_removeprefix mt_removeprefix (fun s d M ⟨t, hd, h1, q⟩ => by
    subst hd
    intro F H v c dv R hR
    cases dv
    exact ⟨s, t, rfl, rfl, h1, hR F H M _ _ (Same.refl F) c (.str _) q⟩) h hst hbase hline
theorem we_isdecimal {o : Expr} {Q : D → MM → Prop} (h : WE X o Γ M fun x M1 => ∃ s, x = .str s ∧ Q (.bl (Txt.isdecimal s)) M1)
    (hbase : attributeBase o "isdecimal" X.env (eval o X.env) = eval o X.env := by rfl) (hline : (apos.endLine == pos.line) = true := by rfl) : WE X (.Call (.Attribute o "isdecimal" apos) [] [] pos) Γ M Q :=
  we_m0 (S := fun s M => Q (.bl (Txt.isdecimal s)) M) F.slot_str_isdecimal F.type_str_isdecimal mt_isdecimal (fun s M q => by
    intro F H c R hR
    exact ⟨s, rfl, rfl, trivial, hR F H M _ _ (Same.refl F) c (.bl _) q⟩) h hbase hline

/-! ### lists that change -/
theorem we_append {o e : Expr} {Q : D → MM → Prop} (h : WE X o Γ M fun x M1 => ∃ a ds0, x = .raw a ∧ M1 a = some (.lst ds0) ∧ WE X e Γ M1 fun y M2 => ∃ ds, M2 a = some (.lst ds) ∧ ds.length < sizeLine ∧ Q .non (mupd M2 a (.lst (ds ++ [y]))))
    (hbase : attributeBase o "append" X.env (eval o X.env) = eval o X.env := by rfl)
    (hfew : ((backTo pos (starEach [e] X.env)).all (fun x => !x.1) && (backToKw pos (keywordEach [] X.env)).all (fun x => x.1.isSome)
      && decide ([e].length + ([] : List Keyword).length + (if ([] : List Keyword).isEmpty then 0 else 1) < 30)) = true := by rfl)
    (hline : (apos.endLine == pos.line) = true := by rfl) (hs : starEach [e] X.env = (false, eval e X.env) :: starEach [] X.env := by rfl) (hplain : (backTo pos (starEach [] X.env)).any (·.1) = false := by rfl) :
    WE X (.Call (.Attribute o "append" apos) [e] [] pos) Γ M Q := ⟨fun F σ H he hc R hR => by
  refine ⟨_, pe_bm PySem.F.plainAttrs_list PySem.F.slot_list_append PySem.F.type_list_append mt_append pe_wp (pa_cons pe_wp pa_nil hs) hbase hfew hline hs hplain, ?_⟩
  refine h.run F σ H he hc _ fun F1 H1 M1 v x e1 c1 d1 ⟨a, ds0, hx, hM, q⟩ => ?_
  subst hx
  cases d1
  obtain ⟨vs0, k1, _⟩ := c1.lst hM
  refine ⟨.inl ⟨rfl, vs0, SqL.of k1⟩, q.run F1 σ H1 (he.mono e1) c1 _ fun F2 H2 M2 u y e2 c2 d2 ⟨ds, hM2, hl, q2⟩ => ?_⟩
  obtain ⟨vs, z1, z2⟩ := c2.lst hM2
  exact ⟨a, vs, u, rfl, rfl, z1, by rw [z2.length]; exact hl, hR F2 _ _ _ _ (e1.trans e2) (c2.setL hM2 (z2.append (.cons d2 .nil))) .non q2⟩⟩
theorem we_pop {o : Expr} {Q : D → MM → Prop} (h : WE X o Γ M fun x M1 => ∃ a ds d, x = .raw a ∧ M1 a = some (.lst (ds ++ [d])) ∧ Q d (mupd M1 a (.lst ds)))
    (hbase : attributeBase o "pop" X.env (eval o X.env) = eval o X.env := by rfl) (hline : (apos.endLine == pos.line) = true := by rfl) : WE X (.Call (.Attribute o "pop" apos) [] [] pos) Γ M Q := ⟨fun F σ H he hc R hR => by
  refine ⟨_, pe_bm0 PySem.F.plainAttrs_list PySem.F.slot_list_pop PySem.F.type_list_pop mt_pop pe_wp hbase hline, ?_⟩
  refine h.run F σ H he hc _ fun F1 H1 M1 v x e1 c1 d1 ⟨a, ds, d, hx, hM, q⟩ => ?_
  subst hx
  cases d1
  obtain ⟨vs, k1, k2⟩ := c1.lst hM
  have hl := k2.length
  have hg : (ds ++ [d])[vs.length - 1]? = some d := by
    rw [hl]
    simp
  obtain ⟨w, z1, z2⟩ := k2.get hg
  refine ⟨.inl ⟨rfl, vs, SqL.of k1⟩, a, vs, w, rfl, rfl, k1, z1, hR F1 _ _ _ _ e1 (c1.setL hM ?_) z2 q⟩
  have := k2.take (vs.length - 1)
  rw [← List.dropLast_eq_take] at this
  have e : (ds ++ [d]).take (vs.length - 1) = ds := by
    rw [hl]
    simp
  rwa [e] at this⟩
end

/-! ### data of ints -/
theorem pys_ints : ∀ ns : List Int, pys (ns.map .int) = some (ns.map .int)
  | [] => rfl
  | n :: ns => by
    show (py (.int n)).bind (fun x => (pys (ns.map .int)).map fun xs => x :: xs) = _
    rw [pys_ints ns]
    rfl
theorem eqv_ints : ∀ ns ms : List Int, PyData.eqvAll (ns.map .int) (ms.map .int) = decide (ns = ms)
  | [], [] => rfl
  | [], m :: ms => rfl
  | n :: ns, [] => rfl
  | n :: ns, m :: ms => by
    show (PyData.eqv (.int n) (.int m) && PyData.eqvAll (ns.map .int) (ms.map .int)) = _
    rw [eqv_ints ns ms]
    show ((n == m) && decide (ns = ms)) = decide (n :: ns = m :: ms)
    by_cases h1 : n = m <;> by_cases h2 : ns = ms <;> simp [h1, h2]
theorem lay_ints : ∀ ns : List Int, PyData.canLayAll0 (ns.map .int) = true
  | [] => rfl
  | n :: ns => by
    show (PyData.canLay0 (.int n) && PyData.canLayAll0 (ns.map .int)) = true
    rw [lay_ints ns]
    rfl
theorem depth_ints : ∀ ns : List Int, PyData.depthAll (ns.map .int) ≤ 1
  | [] => by decide
  | n :: ns => by
    have := depth_ints ns
    simp only [List.map_cons, PyData.depthAll, PyData.depth]
    omega
theorem shaped_intsT (ns : List Int) : SeqAt.shaped (.tuple (ns.map .int)) = true := by
  unfold SeqAt.shaped
  have h1 : PyData.canLay0 (.tuple (ns.map .int)) = true := by simp only [PyData.canLay0]; exact lay_ints ns
  have h2 : PyData.depth (.tuple (ns.map .int)) ≤ 64 := by
    have := depth_ints ns
    simp only [PyData.depth]; omega
  rw [h1, decide_eq_true h2] <;> rfl
/-- a tuple of ints -/
abbrev tI (ns : List Int) : D := .tup (ns.map .int)
theorem eqQ_ints {M : MM} {Q : Bool → MM → Prop} {ns ms : List Int} (h : Q (decide (ns = ms)) M) : EqQ (tI ns) (tI ms) M Q := by
  refine ⟨.tuple (ns.map .int), .tuple (ms.map .int), ?_, ?_, shaped_intsT ns, shaped_intsT ms, ?_⟩
  · simp only [py, pys_ints]; rfl
  · simp only [py, pys_ints]; rfl
  · simp only [PyData.eqv, eqv_ints]; exact h
theorem atI_ints {ns : List Int} {i : Nat} {n : Int} (h : ns[i]? = some n) : atI (ns.map D.int) (i : Int) = some (.int n) := atI_nat (by rw [List.getElem?_map, h]; rfl)
end DL

set_option Elab.async false
set_option linter.all false
set_option autoImplicit false
set_option maxRecDepth 100000
set_option maxHeartbeats 2000000
/-! enumerate(a tuple) -/
namespace DL
open PySem L2 PyProof.Rows
open AutoSeq1 (wpAny_loadPart')

theorem meets_enumerate_newT (l : Addr) (items : Array Value) (n : Nat) (dct : Option Addr) (sl : Array (Option Value)) :
    Meets (Builtin.«enumerate.__new__» ⟨[.type "enumerate", .ref l], []⟩) (fun _ R s => s.heap.get? l = some { cls := .type "tuple", dict := dct, data := .seq items n, slots := sl } ∧
      R (.ok (.ret (.ref (s.heap.push { cls := .type "tuple_iterator", data := .fields #[.ref l, .int 0 0] }).objs.size)))
        { s with heap := (s.heap.push { cls := .type "tuple_iterator", data := .fields #[.ref l, .int 0 0] }).push { cls := .type "enumerate", data := .fields #[.none, .bool false, .ref s.heap.objs.size, rawInt 0, .none, .none] } }) :=
  .of_wp fun prog w A R s h => by
    obtain ⟨hp, g, d, tk, os⟩ := s; obtain ⟨lenIs, h⟩ := h
    have hsub := sub_enumerate
    have hL : Heap.IsTuple (Shared.heap ⟨hp, g, d, tk, os⟩) l items := ⟨_, lenIs, rfl, n, rfl⟩
    wp_walk using wpAny_loadPart' lenIs
    refine wpAny_stack_any fun state => wpAny_pure ?_
    split
    · rename_i c _ _ _ _ _
      cases (c == Value.type "enumerate")
      · wp_walk using wpAny_loadPart' lenIs, wpAny_pyIter_tuple hL
        exact ⟨_, rfl, h⟩
      · wp_walk using wpAny_loadPart' lenIs, wpAny_pyIter_tuple hL
        exact ⟨_, rfl, h⟩
    · wp_walk using wpAny_loadPart' lenIs, wpAny_pyIter_tuple hL
      exact ⟨_, rfl, h⟩
theorem call_enumerate_tuple {prog : Program} {w : World} {A : Around} {E : Value → Shared → Prop} {s : Shared} {l : Addr} {items : Array Value} {Q : Value → Shared → Prop} (hL : s.heap.IsTuple l items)
    (h : ∀ h', IsEnum h' (s.heap.objs.size + 1) s.heap.objs.size 0 .none → h'.IsTupleIter s.heap.objs.size l 0 → h'.objs.size = s.heap.objs.size + 2 →
      (∀ b o, s.heap.get? b = some o → h'.get? b = some o) → Q (.ref (s.heap.objs.size + 1)) { s with heap := h' }) :
    wpAny (model prog w) A (call (.type "enumerate") [.ref l]) Q E s := by
  obtain ⟨⟨c, dct, dt, sl⟩, lenIs, clsIs, n, dataIs⟩ := hL
  replace clsIs : c = .type "tuple" := clsIs
  replace dataIs : dt = .seq items n := dataIs
  subst clsIs dataIs
  refine callType_new F.called_enumerate (by decide) (F.typeCall_enumerate_1 _) (F.newCall_enumerate_1 _) (fun obj => F.args_object_init_2 obj _) F.entry_enumerate_new
    (meets_enumerate_newT l items n dct sl) ⟨lenIs, ?_⟩
  have size1 : (s.heap.push { cls := .type "tuple_iterator", data := .fields #[.ref l, .int 0 0] }).objs.size = s.heap.objs.size + 1 := Heap.size_push ..
  show _ ∧ _
  rw [size1]
  have enumAt : IsEnum ((s.heap.push { cls := .type "tuple_iterator", data := .fields #[.ref l, .int 0 0] }).push
      { cls := .type "enumerate", data := .fields #[.none, .bool false, .ref s.heap.objs.size, rawInt 0, .none, .none] }) (s.heap.objs.size + 1) s.heap.objs.size 0 .none := by
    have := Heap.get?_push_size (s.heap.push { cls := .type "tuple_iterator", data := .fields #[.ref l, .int 0 0] })
      (o := { cls := .type "enumerate", data := .fields #[.none, .bool false, .ref s.heap.objs.size, rawInt 0, .none, .none] }) rfl
    rw [size1] at this; exact this
  refine ⟨⟨_, enumAt, rfl⟩, h _ enumAt ⟨_, Heap.get?_push_of_some _ (Heap.get?_push_size _ rfl), rfl, rfl⟩ (by rw [Heap.size_push, size1]) fun b o x => Heap.get?_push_of_some _ (Heap.get?_push_of_some _ x)⟩

/-- the tuple at a, each item in a pair of its own -/
def IteT (K : PySem.W.Frag) (a : Addr) : It :=
  ⟨fun i H => ∃ (xs : List V) (x : V), SqT K H a xs ∧ xs[i]? = some x, fun i H v H' => ∃ T x, v = .ref T ∧ H T = none ∧ H' = upd H T (.tup [.int (i : Nat), x]) ∧ ∀ xs, SqT K H a xs → xs[i]? = some x, fun i H => ∃ xs : List V, SqT K H a xs ∧ xs.length = i⟩
theorem apart_it {h : Heap} {a it : Addr} {items : Array Value} {i : Nat} (p : h.IsTuple a items) (state : h.IsTupleIter it a i) : a ≠ it := by
  rintro rfl
  obtain ⟨o, h1, h2, _⟩ := p
  obtain ⟨o', h3, h4, _⟩ := state
  rw [h1] at h3
  cases h3
  rw [h2] at h4
  exact absurd h4 (by decide)
theorem turn_enumT {P : Program} {w : World} {K : PySem.W.Frag} {elts : List Expr} {kk : Nat} {tpos : Pos} (a e it : Addr) :
    Turn P w K (.Tuple elts kk tpos) (IteT K a) [e, it] e (fun i h => (∃ was, IsEnum h e it ((i : Nat) : Int) was) ∧ h.IsTupleIter it a i ∧ e ≠ it ∧ e ≠ a) where
  mem := by simp
  obj := fun i h state b hb => by
    obtain ⟨⟨was, enumAt⟩, ⟨o, ho, clsIs, dataIs⟩, _⟩ := state
    have which : b = e ∨ b = it := by simpa using hb
    rcases which with z | z
    · rw [z]; exact ⟨_, enumAt, fun v q => nomatch q⟩
    · rw [z]; exact ⟨o, ho, fun v q => by rw [dataIs] at q; cases q⟩
  keep := fun i h h' state k => let ⟨⟨was, enumAt⟩, idx, eNit⟩ := state; ⟨⟨was, k e (by simp) _ enumAt⟩, idx.at fun o q => k it (by simp) o q, eNit⟩
  item := by
    intro X hP hw hK clsIs i pn s σ H E I foot state hg
    subst hP hw hK
    obtain ⟨⟨was, enumAt⟩, iter, eNit, eNa⟩ := state
    obtain ⟨xs, x, seqAt, itemAt⟩ := hg
    obtain ⟨vals, rel, p, size1⟩ := I.tuple seqAt
    have tupA : s.heap.IsTuple a vals.toArray := p
    obtain ⟨u, itemV, relV⟩ := rel.get itemAt
    have lowE : e < s.heap.objs.size := Heap.lt_size enumAt
    have lowIt : it < s.heap.objs.size := by obtain ⟨_, q, _⟩ := iter; exact Heap.lt_size q
    have apart := apart_it tupA iter
    have inside : i < vals.toArray.size := by
      have := (List.getElem?_eq_some_iff.mp itemV).1
      simpa using this
    refine wpAny_pyNext_enum_itemD (Draws.tuple (A := X.A.in1) (I.ok.hd clsIs) it a apart vals.toArray) enumAt ⟨iter, tupA⟩ inside eNit (by simp [eNit, eNa]) fun v h' tk drew ho iter' hT size2 stays => ?_
    have same_ : v = u := by
      have h1 : vals.toArray[i]? = some u := by simpa using itemV
      rw [h1] at drew
      exact (Option.some.inj drew).symm
    subst same_
    refine ⟨_, rfl, wpAny_letOwnedTupleGo_enum (s := { s with heap := h', toks := tk + 1 }) ho fun h'' enumAt' rest2 => ?_⟩
    have pairAt : h''.get? s.heap.objs.size = some { cls := .type "tuple", data := .seq #[.int i tk, v] } := (rest2.2 _ (Nat.ne_of_gt lowE)).trans hT
    have pairOk : ObjOk X.prog X.w (upd H s.heap.objs.size (.tup [.int (i : Nat), x])) h'' s.heap.objs.size (.tup [.int (i : Nat), x]) :=
      ⟨by show 2 ≤ sizeLine; decide, [.int i tk, v], .cons ⟨_, rfl⟩ (.cons relV .nil), ⟨_, pairAt, rfl, _, rfl⟩⟩
    have J1 : Inv X pn σ (upd H s.heap.objs.size (.tup [.int (i : Nat), x])) { s with heap := h'', toks := tk + 1 } :=
      I.turnedNew (ch := [e, it]) (fun b ob hb q => (rest2.2 b (fun z => hb (by simp [z]))).trans (stays b ob (fun z => hb (by simp [z])) (fun z => hb (by simp [z])) q)) foot (Nat.le_refl _) pairOk
    refine ⟨.ref s.heap.objs.size, _, J1, rfl, ⟨_, x, rfl, I.hok.fresh (Nat.le_refl _), rfl, fun ys hy => by rw [I.tuple_inj hy seqAt]; exact itemAt⟩, ⟨⟨v, ?_⟩, iter'.1.at fun o q => (rest2.2 it (Ne.symm eNit)).trans q, eNit, eNa⟩, fun b hb => ?_⟩
    · have e1 : ((i + 1 : Nat) : Int) = (i : Int) + 1 := by omega
      rw [e1]; exact enumAt'
    · have low : b < s.heap.objs.size := by
        have which : b = e ∨ b = it := by simpa using hb
        rcases which with z | z
        · rw [z]; exact lowE
        · rw [z]; exact lowIt
      rw [upd_ne (Nat.ne_of_lt low)]
      exact (foot b hb).1
  done := by
    intro X hP hw hK clsIs i pn s σ H E I foot state hg
    subst hP hw hK
    obtain ⟨⟨was, enumAt⟩, iter, eNit, eNa⟩ := state
    obtain ⟨xs, seqAt, itemAt⟩ := hg
    obtain ⟨vals, rel, p, size1⟩ := I.tuple seqAt
    have tupA : s.heap.IsTuple a vals.toArray := p
    obtain ⟨g0, g1, g2, g3, g4, g5⟩ := foot it (by simp)
    have lenIs := rel.length
    have idx : i = vals.toArray.size := by simp; omega
    subst idx
    exact wpAny_pyNext_enum_endD (Draws.tuple (A := X.A.in1) (I.ok.hd clsIs) it a (apart_it tupA iter) vals.toArray) enumAt ⟨iter, tupA⟩ fun h' after => ⟨rfl, I.turned (t' := s.toks) (fun b o hb q => after b o hb q) g0 g1 g3 g4 g5⟩
  self := fun A i s Q E state h => let ⟨⟨_, enumAt⟩, _⟩ := state; wpAny_pyIter_enum enumAt h
def iEnumT (K : PySem.W.Frag) (ta : TA) : TI := fun σ H R => ta σ H fun vs H1 => ∃ a xs, vs = [.ref a] ∧ SqT K H1 a xs ∧ R (IteT K a) H1
theorem pi_enumT {X : Cx} {e : Expr} {ta : TA} {p pos tpos : Pos} {elts : List Expr} {kk : Nat} (hg : Gl X "enumerate") (hm : X.mg "enumerate" = none) (ha : PA X [e] ta) (hs : starEach [e] X.env = [(false, eval e X.env)] := by rfl) :
    PI X (.Tuple elts kk tpos) (.Call (.Name "enumerate" p) [e] [] pos) (iEnumT X.K ta) := by
  refine ⟨fun pn s σ H R I h => ?_⟩
  refine Call_ (ld_blt I hg hm boot_enumerate (PyProof.Rows.callWith_type1 (thn (ha.run pos pn s σ H _ I h) fun us s1 ⟨vs, H1, J1, r1, w1⟩ => ?_) hs rfl))
  obtain ⟨a, xs, isRef, seqAt, q⟩ := w1
  subst isRef
  cases r1 with
  | cons r rels =>
    cases rels
    cases r
    obtain ⟨vals, rel, p', size1⟩ := J1.tuple seqAt
    have tupA : s1.heap.IsTuple a vals.toArray := p'
    refine call_enumerate_tuple tupA fun h' enumAt iter size2 stays => wpAny_pyIter_enum enumAt ?_
    have J2 : Inv X pn σ H1 { s1 with heap := h' } := J1.kept (t' := s1.toks) stays
    have lowA : a < s1.heap.objs.size := by obtain ⟨o, z, _⟩ := tupA; exact Heap.lt_size z
    refine ⟨s1.heap.objs.size + 1, [s1.heap.objs.size + 1, s1.heap.objs.size], _, _, H1, rfl, J2, turn_enumT a (s1.heap.objs.size + 1) s1.heap.objs.size, ⟨⟨.none, enumAt⟩, iter, Nat.succ_ne_self _, Nat.ne_of_gt (Nat.lt_succ_of_lt lowA)⟩, fun b hb => ?_, q⟩
    have which : b = s1.heap.objs.size + 1 ∨ b = s1.heap.objs.size := by simpa using hb
    have above : s1.heap.objs.size ≤ b := by
      rcases which with z | z
      · rw [z]; exact Nat.le_add_right _ _
      · rw [z]; exact Nat.le_refl _
    exact J1.fpOk above (J1.hok.fresh above)
/-- for i, x in enumerate(a tuple) -/
theorem wi_enumT {X : Cx} {Γ : DL.G} {M : MM} {e : Expr} {p pos tpos : Pos} {elts : List Expr} {kk : Nat} {Q : Nat → (Nat → D) → (MM → Prop) → MM → Prop} (hm : X.mg "enumerate" = none) (h : WE X e Γ M fun x M1 => ∃ ds, x = .tup ds ∧ Q ds.length (fun i => .tup [.int (i : Nat), dAt ds i]) (fun _ => True) M1) (hg : Gl X "enumerate" := by rfl)
    (hs : starEach [e] X.env = [(false, eval e X.env)] := by rfl) : WI X (.Tuple elts kk tpos) (.Call (.Name "enumerate" p) [e] [] pos) Γ M Q := ⟨fun F σ H he hc R hR => by
  refine ⟨_, pi_enumT hg hm (pa_cons pe_wp pa_nil hs) hs, ?_⟩
  refine h.run F σ H he hc _ fun F1 H1 M1 v x e1 c1 d1 ⟨ds, hx, q⟩ => ?_
  subst hx
  cases d1 with
  | @tup a xs _ k1 k2 =>
    refine ⟨a, xs, rfl, sqT_mono c1.sub k1, hR F1 H1 M1 _ _ _ _ e1 c1 (fun F2 M2 H2 e c _ i => ?_) q⟩
    have hq : SqT X.K H2 a xs := sqT_mono c.sub (sqT_mono e k1)
    refine ⟨fun hi => ?_, fun hi => ⟨xs, hq, by rw [k2.length]; exact hi⟩⟩
    have hx : i < xs.length := by rw [k2.length]; exact hi
    refine ⟨⟨xs, xs[i], hq, by simp [hx]⟩, fun z H' ⟨T, x, hz, hT, hH, y1⟩ => ?_⟩
    subst hz
    subst hH
    obtain ⟨d, a1, a2⟩ := k2.getV (y1 xs hq)
    have s := same_new (o := .tup [.int (i : Nat), x]) (c.sub.free hT)
    exact ⟨_, s, c.new hT, by rw [dAt_of a1]; exact .tup (.inl (.inl upd_same)) (.cons (.int _) (.cons (a2.mono (e.trans s)) .nil))⟩⟩
end DL

set_option Elab.async false
set_option linter.all false
set_option autoImplicit false
set_option maxRecDepth 100000
set_option maxHeartbeats 2000000
/-! chains of three comparisons; keywords at calls -/
namespace DL
open PySem L2 PyProof.Rows

def tChain3 (r r' r2 : R2) (ta tb tc td : TE) : TE := fun σ H Q => ta σ H fun x H1 => tb σ H1 fun y H2 => r x y H2 fun z H3 => ∃ k, z = .bl k ∧
  (if k = true then tc σ H3 fun w' H4 => r' y w' H4 fun z H5 => ∃ k, z = .bl k ∧ (if k = true then td σ H5 fun u' H6 => r2 w' u' H6 Q else Q (.bl false) H5) else Q (.bl false) H3)
theorem pt_chain3 {X : Cx} {a b c d : Expr} {ta tb tc td : TE} {pos : Pos} {op op' op2 : CmpOp} {r r' r2 : R2} (ho : OpR X (compareOp op) r) (ho' : OpR X (compareOp op') r') (ho2 : OpR X (compareOp op2) r2) (ha : PE X a ta) (hb : PE X b tb) (hc : PE X c tc) (hd : PE X d td)
    (hm : lastMarks [op, op', op2] [b, c, d] = false := by with_unfolding_all rfl) : PT X (.Compare a [op, op', op2] [b, c, d] pos) (tTest (tChain3 r r' r2 ta tb tc td)) := by
  refine ⟨fun pins s σ H Q I h => ?_⟩
  refine isTrue_chain (thn (ha.run pins s σ H _ I h) fun v s1 ⟨x, H1, I1, r1, q1⟩ => test_link (thn (hb.run pins s1 σ H1 _ I1 q1) fun u s2 ⟨y, H2, I2, r2', q2⟩ =>
    thn (ho pins s2 σ H2 x y v u _ I2 r1 r2' q2) fun d' s3 ⟨z, H3, I3, r3, k, e, q3⟩ => ?_)) hm
  subst e
  cases r3
  refine wpAny_truthy_bool ?_
  cases k with
  | false =>
    rw [if_neg Bool.false_ne_true] at q3 ⊢
    obtain ⟨k', e', q'⟩ := q3
    cases e'
    exact ⟨H3, I3, q'⟩
  | true =>
    rw [if_pos rfl] at q3 ⊢
    refine test_link (thn (hc.run pins s3 σ H3 _ I3 q3) fun w' s4 ⟨z', H4, I4, r4, q4⟩ => thn (ho' pins s4 σ H4 y z' u w' _ I4 r2' r4 q4) fun d' s5 ⟨z2, H5, I5, r5, k2, e2, q5⟩ => ?_)
    subst e2
    cases r5
    refine wpAny_truthy_bool ?_
    cases k2 with
    | false =>
      rw [if_neg Bool.false_ne_true] at q5 ⊢
      obtain ⟨k', e', q'⟩ := q5
      cases e'
      exact ⟨H5, I5, q'⟩
    | true =>
      rw [if_pos rfl] at q5 ⊢
      refine test_last (thn (hd.run pins s5 σ H5 _ I5 q5) fun w2 s6 ⟨z3, H6, I6, r6, q6⟩ => thn (ho2 pins s6 σ H6 z' z3 w' w2 _ I6 r4 r6 q6) fun d2 s7 ⟨z4, H7, I7, r7, k3, e3, q7⟩ => ?_)
      subst e3
      cases r7
      exact wpAny_truthy_bool ⟨H7, I7, q7⟩
section
variable {X : Cx} {Γ : DL.G} {M : MM} {pos p apos : Pos}
theorem wt_chain3 {a b c d : Expr} {op op' op2 : CmpOp} {g g' g2 : Int → Int → Bool} {Q : Bool → MM → Prop} (k : CmpI op g) (k' : CmpI op' g') (k2 : CmpI op2 g2)
    (h : WE X a Γ M fun x M1 => WE X b Γ M1 fun y M2 => ∃ i j, x = .int i ∧ y = .int j ∧ (g i j = true → WE X c Γ M2 fun z M3 => ∃ l, z = .int l ∧ (g' j l = true → WE X d Γ M3 fun u M4 => ∃ m, u = .int m ∧ Q (g2 l m) M4) ∧ (g' j l = false → Q false M3)) ∧ (g i j = false → Q false M2))
    (hm : lastMarks [op, op', op2] [b, c, d] = false := by with_unfolding_all rfl) : WT X (.Compare a [op, op', op2] [b, c, d] pos) Γ M Q := ⟨fun F σ H he hc R hR => by
  refine ⟨_, pt_chain3 k.op k'.op k2.op pe_wp pe_wp pe_wp pe_wp hm, ?_⟩
  refine h.run F σ H he hc _ fun F1 H1 M1 v x e1 c1 d1 h1 => ?_
  refine h1.run F1 σ H1 (he.mono e1) c1 _ fun F2 H2 M2 u y e2 c2 d2 ⟨i, j, hx, hy, q1, q2⟩ => ?_
  subst hx
  subst hy
  cases d1
  cases d2
  refine ⟨i, j, rfl, rfl, g i j, rfl, ?_⟩
  cases hg : g i j with
  | false =>
    rw [if_neg Bool.false_ne_true]
    exact ⟨false, rfl, hR F2 H2 M2 false (e1.trans e2) c2 (q2 hg)⟩
  | true =>
    rw [if_pos rfl]
    refine (q1 hg).run F2 σ H2 (he.mono (e1.trans e2)) c2 _ fun F3 H3 M3 v z e3 c3 d3 ⟨l, hz, r1, r2⟩ => ?_
    subst hz
    cases d3
    refine ⟨j, l, rfl, rfl, g' j l, rfl, ?_⟩
    have e13 := (e1.trans e2).trans e3
    cases hg' : g' j l with
    | false =>
      rw [if_neg Bool.false_ne_true]
      exact ⟨false, rfl, hR F3 H3 M3 false e13 c3 (r2 hg')⟩
    | true =>
      rw [if_pos rfl]
      refine (r1 hg').run F3 σ H3 (he.mono e13) c3 _ fun F4 H4 M4 v z e4 c4 d4 ⟨m, hz, q⟩ => ?_
      subst hz
      cases d4
      exact ⟨l, m, rfl, rfl, g2 l m, rfl, hR F4 H4 M4 _ (e13.trans e4) c4 q⟩⟩
end

section
variable {X : Cx} {Γ : DL.G} {M : MM} {pos : Pos}
theorem wt_typeIs {e : Expr} {x : Str} {T : String} {p1 p2 p3 : Pos} {Q : Bool → MM → Prop} (hm : X.mg "type" = none) (hT : X.mg x = none) (hv : bootBuiltins x = some (.type T)) (h : WE X e Γ M fun d M1 => ∃ t, tyD d = some t ∧ Q (decide (t = T)) M1)
    (hs : starEach [e] X.env = [(false, eval e X.env)] := by rfl) (hg : Gl X "type" := by rfl) (hgT : Gl X x := by rfl) (hn : x ≠ "__name__" := by decide) (hdb : (x == ("__debug__" : Str)) = false := by decide) :
    WT X (.Compare (.Call (.Name "type" p1) [e] [] p2) [.Is] [.Name x p3] pos) Γ M Q := ⟨fun F σ H he hc R hR => by
  refine ⟨_, pt_cmpR op_isTyB (pe_callTy call_type1 hg hm (by decide +kernel) (pa_cons pe_wp pa_nil hs) (by decide) (by decide) hs) (pe_bltn (v := .ty T) hgT hT hv (show RelV (.ty T) (.type T) from rfl) hn hdb) (nomark _), ?_⟩
  exact tTypeIs_wp (X := X) (Q := asB Q) id (fun a b H R q => ⟨a, b, rfl, rfl, q⟩) (h.imp fun d M1 ⟨t, ht, q⟩ => ⟨t, ht, _, rfl, q⟩) he hc fun F' H' M' w z e c d ⟨b, hb, q⟩ => by
    subst hb
    cases d
    exact ⟨b, rfl, hR F' H' M' b e c q⟩⟩
theorem wt_typeNot {e : Expr} {x : Str} {T : String} {p1 p2 p3 : Pos} {Q : Bool → MM → Prop} (hm : X.mg "type" = none) (hT : X.mg x = none) (hv : bootBuiltins x = some (.type T)) (h : WE X e Γ M fun d M1 => ∃ t, tyD d = some t ∧ Q (!decide (t = T)) M1)
    (hs : starEach [e] X.env = [(false, eval e X.env)] := by rfl) (hg : Gl X "type" := by rfl) (hgT : Gl X x := by rfl) (hn : x ≠ "__name__" := by decide) (hdb : (x == ("__debug__" : Str)) = false := by decide) :
    WT X (.Compare (.Call (.Name "type" p1) [e] [] p2) [.IsNot] [.Name x p3] pos) Γ M Q := ⟨fun F σ H he hc R hR => by
  refine ⟨_, pt_cmpR op_notTyB (pe_callTy call_type1 hg hm (by decide +kernel) (pa_cons pe_wp pa_nil hs) (by decide) (by decide) hs) (pe_bltn (v := .ty T) hgT hT hv (show RelV (.ty T) (.type T) from rfl) hn hdb) (nomark _), ?_⟩
  exact tTypeIs_wp (X := X) (Q := asB Q) not (fun a b H R q => ⟨a, b, rfl, rfl, q⟩) (h.imp fun d M1 ⟨t, ht, q⟩ => ⟨t, ht, _, rfl, q⟩) he hc fun F' H' M' w z e c d ⟨b, hb, q⟩ => by
    subst hb
    cases d
    exact ⟨b, rfl, hR F' H' M' b e c q⟩⟩
end

/-! ### keywords -/
structure WK (X : Cx) (kws : List Keyword) (Γ : DL.G) (M : MM) (Q : List D → MM → Prop) : Prop where
  run : ∀ (F : Hp) (σ : L2.St) (H : Hp), EnvOk X.K F Γ σ → Con X.K F M H → ∀ R : List V → Hp → Prop,
    (∀ (F' H' : Hp) (M' : MM) (vs : List V) (ds : List D), Same F F' → Con X.K F' M' H' → Dns X.K F' vs ds → Q ds M' → R vs H') → ∃ t, PK X kws t ∧ t σ H R
def wpK (X : Cx) (kws : List Keyword) : TA := fun σ H Q => ∃ t, PK X kws t ∧ t σ H Q
theorem pk_wp {X : Cx} {kws : List Keyword} : PK X kws (wpK X kws) := ⟨fun pos pins s σ H Q I ⟨_, p, h⟩ => p.run pos pins s σ H Q I h⟩
section
variable {X : Cx} {Γ : DL.G} {M : MM} {pos p apos kpos : Pos} {k j : Nat} {x m : Str} {R : RD}
theorem wk_nil {Q : List D → MM → Prop} (h : Q [] M) : WK X [] Γ M Q := ⟨fun F σ H he hc R hR => ⟨_, pk_nil, hR F H M _ _ (Same.refl F) hc .nil h⟩⟩
theorem wk_cons {nm : Option Str} {e : Expr} {kws : List Keyword} {Q : List D → MM → Prop} (h : WE X e Γ M fun x M1 => WK X kws Γ M1 fun xs M2 => Q (x :: xs) M2) : WK X (⟨nm, e, kpos⟩ :: kws) Γ M Q := ⟨fun F σ H he hc R hR => by
  refine ⟨_, pk_cons pe_wp pk_wp, h.run F σ H he hc _ fun F1 H1 M1 v x e1 c1 d1 h1 => ?_⟩
  exact h1.run F1 σ H1 (he.mono e1) c1 _ fun F2 H2 M2 vs xs e2 c2 d2 q => hR F2 H2 M2 _ _ (e1.trans e2) c2 (.cons (d1.mono e2) d2) q⟩
/-- the parameters' order: g puts positional values and keywords' values in it; nothing else is bound -/
structure KB (K : PySem.W.Frag) (fd : FuncData) (ps ks : List Str) (g : {α : Type} → List α → List α → List α) : Prop where
  to : ∀ (s : Shared) (us ws : List Value), K.In s.heap → (g us ws).length = ps.length → BindsTo s fd ⟨us, ks.zip ws⟩ (ps.zip (g us ws))
  relV : ∀ {vs : List V} {us : List Value} {zs : List V} {ws : List Value}, Vals vs us → Vals zs ws → Vals (g vs zs) (g us ws)
  relD : ∀ {K : PySem.W.Frag} {F : Hp} {vs : List V} {ds : List D} {zs : List V} {es : List D}, Dns K F vs ds → Dns K F zs es → Dns K F (g vs zs) (g ds es)
/-- a def called with keywords -/
structure CalK (P : Program) (w : World) (K : PySem.W.Frag) (mg : Str → Option Value) (base : Heap) (k : Nat) (x : Str) (ks : List Str) (g : {α : Type} → List α → List α → List α) (R : RD) : Prop where
  ex : ∃ (f : Addr) (fd : FuncData) (ps : List Str), FnOk P w K mg base CX0 k f fd ps (SpD K R) ∧ mg x = some (.ref f) ∧ PySem.W.keepIn K (.ref f) = true ∧ KB K fd ps ks g
structure MetK (P : Program) (w : World) (K : PySem.W.Frag) (mg : Str → Option Value) (base : Heap) (k : Nat) (C : Addr) (m : Str) (ks : List Str) (g : {α : Type} → List α → List α → List α) (R : RD) : Prop where
  ex : ∃ (f : Addr) (fd : FuncData) (ps : List Str), Cls K C ∧ Meth K C m f ∧ FnOk P w K mg base CX0 k f fd ps (SpD K R) ∧ KB K fd ps ks g
/-- o.m(k = v, ..) -/
theorem pe_methK0 {C : Addr} {o : Expr} {ta : TE} {tk : TA} {kws : List Keyword} {ks : List Str} {f : Addr} {fd : FuncData} {ps : List Str} {sp : Sp} {E : XK} {CX : CXT} {g : List Value → List Value → List Value} {gV : List V → List V → List V} {pl : Sem Bool} (he : PE X o ta) (c : Cls X.K C) (hm : Meth X.K C m f) (F : FnOk X.prog X.w X.K X.mg X.base CX k f fd ps sp) (hr : Room k X.A) (hb : KBinds X.K fd ps ks g gV) (hx : Passes CX X E) (hkw : PK X kws tk)
    (hall : (backToKw pos (keywordEach kws X.env)).all (·.1.isSome) = true) (hks : (backToKw pos (keywordEach kws X.env)).filterMap (·.1) = ks)
    (hpl : ((backTo pos (starEach [] X.env)).any (·.1) || (backToKw pos (keywordEach kws X.env)).any (·.1.isNone)) = false)
    (ht : eval (.Call (.Attribute o m apos) [] kws pos) X.env = (do
      let ov ← eval o X.env
      standAt apos.atName
      let (f, first) ← holding [ov] (getMethod ov m pl)
      callWith pos f first (backTo pos (starEach [] X.env)) (backToKw pos (keywordEach kws X.env)))) :
    PE X (.Call (.Attribute o m apos) [] kws pos) (fun σ H Q => ta σ H fun x H1 => ∃ a dx fs, x = .ref a ∧ H1 a = some (.ins C dx fs) ∧ fs.lookup m = none ∧ tk σ H1 fun zs H2 => sp (gV [.ref a] zs) H2 Q E) := by
  refine ⟨fun pins s σ H Q I h => ?_⟩
  refine PySem.W.methodCall_KW (pl := pl) (thn (he.run pins s σ H _ I h) fun u s1 ⟨x, H1, I1, rx, a, dx, fs, ex, ea, l, q⟩ => ?_) ht
  subst ex
  obtain rfl : u = Value.ref a := rx
  refine getmeth_ok I1 ea c hm l ?_
  refine PySem.W.callWith_KW0 (first := [.ref a]) (h₀ := X.base) I.ok.mod.kin hm.kp hall (thn (hkw.run pos pins s1 σ H1 _ I1 q) fun ws s2 ⟨zs, H2, I2, rz, q2⟩ => ⟨I2.kIn, ?_⟩) hpl
  rw [hks]
  exact run_fnk (us := [.ref a]) (vs := [.ref a]) F hr hb hx I2 (.cons rfl .nil) rz q2
theorem we_methK {C : Addr} {o : Expr} {kws : List Keyword} {ks : List Str} {g : {α : Type} → List α → List α → List α} {pl : Sem Bool} {Q : D → MM → Prop} (c : MetK X.prog X.w X.K X.mg X.base k C m ks g R) (hr : Room j X.A) (hk : k ≤ j)
    (h : WE X o Γ M fun x M1 => InsOf M1 C m x ∧ WK X kws Γ M1 fun ds M2 => R (g [x] ds) M2 Q)
    (hall : (backToKw pos (keywordEach kws X.env)).all (·.1.isSome) = true := by rfl) (hks : (backToKw pos (keywordEach kws X.env)).filterMap (·.1) = ks := by rfl)
    (hpl : ((backTo pos (starEach [] X.env)).any (·.1) || (backToKw pos (keywordEach kws X.env)).any (·.1.isNone)) = false := by rfl)
    (ht : eval (.Call (.Attribute o m apos) [] kws pos) X.env = (do
      let ov ← eval o X.env
      standAt apos.atName
      let (f, first) ← holding [ov] (getMethod ov m pl)
      callWith pos f first (backTo pos (starEach [] X.env)) (backToKw pos (keywordEach kws X.env))) := by rfl) :
    WE X (.Call (.Attribute o m apos) [] kws pos) Γ M Q := ⟨fun F σ H ho hc W hR => by
  obtain ⟨f, fd, ps, hcl, hm, G, b⟩ := c.ex
  refine ⟨_, pe_methK0 (pl := pl) pe_wp hcl hm G (hr.mono hk) ⟨b.to, b.relV⟩ (L2.pass0 (X := X)) pk_wp hall hks hpl ht, h.run F σ H ho hc _ fun F1 H1 M1 v x e1 c1 d1 ⟨hi, h1⟩ => ?_⟩
  obtain ⟨a, dx, fs, rfl, ha, hl⟩ := hi.at c1 d1
  refine ⟨a, dx, fs, rfl, ha, hl, h1.run F1 σ H1 (ho.mono e1) c1 _ fun F2 H2 M2 vs ds e2 c2 d2 q => ?_⟩
  exact ⟨F2, g [x] ds, M2, Q, c2, b.relD (.cons (d1.mono e2) .nil) d2, q, fun F3 H3 M3 v d e3 c3 d3 q => hR F3 H3 M3 v d ((e1.trans e2).trans e3) c3 d3 q⟩⟩
end

/-! ### defs as they stand in the text -/
structure DefAt (K : PySem.W.Frag) (mg : Str → Option Value) (x : Str) (st : Stmt) (ps : List Str) : Prop where
  ex : ∃ (f : Addr) (fd : FuncData), Fun K x x st f fd ∧ mg x = some (.ref f) ∧ Binds K fd ps []
theorem DefAt.cal {P : Program} {w : World} {K : PySem.W.Frag} {mg : Str → Option Value} {base : Heap} {x : Str} {st : Stmt} {N ps : List Str} {k : Nat} {R : RD} (d : DefAt K mg x st ps) (S : FnScope N ps (defScope st)) (len : ∀ ds M Q, R ds M Q → ds.length = ps.length)
    (hbody : ∀ (f : Addr) (cdv : Value) (A : Around) (outer : List Env) (s : Shared) (H : Hp) (E : XK), Room k (A.deeper (PyProof.Rows.envOfC x (defScope st) s.heap.objs.size f cdv)) → ∀ (ds : List D) (M : MM) (Q : D → MM → Prop), R ds M Q →
      WS (cxOf CX0 P w K mg base N x (defScope st) f cdv A outer s H E).nox (defBody st) (startD N ds) M { nx := fun _ M' => Q .non M', rt := Q }) : Cal P w K mg base (k + 1) x R := by
  obtain ⟨f, fd, F, hm, b⟩ := d.ex
  exact ⟨f, fd, ps, fn_ok F S len (hbody f), hm, F.kp, b⟩
structure MetAt (K : PySem.W.Frag) (C : Addr) (m qual : Str) (st : Stmt) (ps : List Str) : Prop where
  ex : ∃ (f : Addr) (fd : FuncData), Cls K C ∧ Meth K C m f ∧ Fun K m qual st f fd ∧ Binds K fd ps []
theorem MetAt.met {P : Program} {w : World} {K : PySem.W.Frag} {mg : Str → Option Value} {base : Heap} {C : Addr} {m qual : Str} {st : Stmt} {N ps : List Str} {k : Nat} {R : RD} (d : MetAt K C m qual st ps) (S : FnScope N ps (defScope st)) (len : ∀ ds M Q, R ds M Q → ds.length = ps.length)
    (hbody : ∀ (f : Addr) (cdv : Value) (A : Around) (outer : List Env) (s : Shared) (H : Hp) (E : XK), Room k (A.deeper (PyProof.Rows.envOfC qual (defScope st) s.heap.objs.size f cdv)) → ∀ (ds : List D) (M : MM) (Q : D → MM → Prop), R ds M Q →
      WS (cxOf CX0 P w K mg base N qual (defScope st) f cdv A outer s H E).nox (defBody st) (startD N ds) M { nx := fun _ M' => Q .non M', rt := Q }) : Met P w K mg base (k + 1) C m R := by
  obtain ⟨f, fd, hc, hm, F, b⟩ := d.ex
  exact ⟨f, fd, ps, hc, hm, fn_ok F S len (hbody f), b⟩
structure PrpAt (K : PySem.W.Frag) (C : Addr) (m qual : Str) (st : Stmt) (ps : List Str) : Prop where
  ex : ∃ (p g : Addr) (fd : FuncData), Cls K C ∧ PropOf K C m p g ∧ Fun K m qual st g fd ∧ Binds K fd ps []
theorem PrpAt.prp {P : Program} {w : World} {K : PySem.W.Frag} {mg : Str → Option Value} {base : Heap} {C : Addr} {m qual : Str} {st : Stmt} {N ps : List Str} {k : Nat} {R : RD} (d : PrpAt K C m qual st ps) (S : FnScope N ps (defScope st)) (len : ∀ ds M Q, R ds M Q → ds.length = ps.length)
    (hbody : ∀ (f : Addr) (cdv : Value) (A : Around) (outer : List Env) (s : Shared) (H : Hp) (E : XK), Room k (A.deeper (PyProof.Rows.envOfC qual (defScope st) s.heap.objs.size f cdv)) → ∀ (ds : List D) (M : MM) (Q : D → MM → Prop), R ds M Q →
      WS (cxOf CX0 P w K mg base N qual (defScope st) f cdv A outer s H E).nox (defBody st) (startD N ds) M { nx := fun _ M' => Q .non M', rt := Q }) : Prp P w K mg base (k + 1) C m R := by
  obtain ⟨p, g, fd, hc, hm, F, b⟩ := d.ex
  exact ⟨p, g, fd, ps, hc, hm, fn_ok F S len (hbody g), b⟩
structure MakAt (K : PySem.W.Frag) (mg : Str → Option Value) (x : Str) (C : Addr) (qual : Str) (st : Stmt) (ps : List Str) : Prop where
  ex : ∃ (f : Addr) (fd : FuncData), Mk K C f ∧ Fun K "__init__" qual st f fd ∧ mg x = some (.ref C) ∧ Binds K fd ps []
theorem MakAt.mak {P : Program} {w : World} {K : PySem.W.Frag} {mg : Str → Option Value} {base : Heap} {x : Str} {C : Addr} {qual : Str} {st : Stmt} {N ps : List Str} {k : Nat} {R : RD} (d : MakAt K mg x C qual st ps) (S : FnScope N ps (defScope st)) (len : ∀ ds M Q, R ds M Q → ds.length = ps.length)
    (hbody : ∀ (f : Addr) (cdv : Value) (A : Around) (outer : List Env) (s : Shared) (H : Hp) (E : XK), Room k (A.deeper (PyProof.Rows.envOfC qual (defScope st) s.heap.objs.size f cdv)) → ∀ (ds : List D) (M : MM) (Q : D → MM → Prop), R ds M Q →
      WS (cxOf CX0 P w K mg base N qual (defScope st) f cdv A outer s H E).nox (defBody st) (startD N ds) M { nx := fun _ M' => Q .non M', rt := Q }) : Mak P w K mg base (k + 1) x C R := by
  obtain ⟨f, fd, hc, F, hm, b⟩ := d.ex
  exact ⟨f, fd, ps, hc, fn_ok F S len (hbody f), hm, b⟩
/-- the built-ins that the module does not bind anew -/
structure Blt (mg : Str → Option Value) : Prop where
  len : mg "len" = none
  max : mg "max" = none
  min : mg "min" = none
  abs : mg "abs" = none
  int : mg "int" = none
  str : mg "str" = none
  tuple : mg "tuple" = none
  list : mg "list" = none
  divmod : mg "divmod" = none
  range : mg "range" = none
  type : mg "type" = none
  enumerate : mg "enumerate" = none
  zip : mg "zip" = none
  isinstance : mg "isinstance" = none
  sum : mg "sum" = none
  all : mg "all" = none
  any : mg "any" = none
  bool : mg "bool" = none
  repr : mg "repr" = none
end DL

set_option Elab.async false
set_option linter.all false
set_option autoImplicit false
set_option maxRecDepth 100000
set_option maxHeartbeats 2000000
/-! data of strings; statements that catch what is not raised -/
namespace DL
open PySem L2

theorem pys_strs : ∀ xs : List Str, pys (xs.map .str) = some (xs.map .str)
  | [] => rfl
  | x :: xs => by
    show (py (.str x)).bind (fun y => (pys (xs.map .str)).map fun ys => y :: ys) = _
    rw [pys_strs xs]
    rfl
theorem eqv_strs : ∀ xs ys : List Str, PyData.eqvAll (xs.map .str) (ys.map .str) = decide (xs = ys)
  | [], [] => rfl
  | [], _ :: _ => rfl
  | _ :: _, [] => rfl
  | x :: xs, y :: ys => by
    show (PyData.eqv (.str x) (.str y) && PyData.eqvAll (xs.map .str) (ys.map .str)) = _
    rw [eqv_strs xs ys]
    show ((x == y) && decide (xs = ys)) = decide (x :: xs = y :: ys)
    by_cases h1 : x = y <;> by_cases h2 : xs = ys <;> simp [h1, h2]
theorem lay_strs : ∀ xs : List Str, (∀ x, x ∈ xs → PyData.canLay0 (.str x) = true) → PyData.canLayAll0 (xs.map .str) = true
  | [], _ => rfl
  | x :: xs, h => by
    show (PyData.canLay0 (.str x) && PyData.canLayAll0 (xs.map .str)) = true
    rw [lay_strs xs fun y hy => h y (List.mem_cons_of_mem _ hy), h x List.mem_cons_self]
    rfl
theorem depth_strs : ∀ xs : List Str, PyData.depthAll (xs.map .str) = 0
  | [] => rfl
  | x :: xs => by
    show max (PyData.depth (.str x)) (PyData.depthAll (xs.map .str)) = 0
    rw [depth_strs xs]
    rfl
theorem shaped_strsL {xs : List Str} (h : ∀ x, x ∈ xs → PyData.canLay0 (.str x) = true) : SeqAt.shaped (.list (xs.map .str)) = true := by
  unfold SeqAt.shaped
  have h1 : PyData.canLay0 (.list (xs.map .str)) = true := by simp only [PyData.canLay0]; exact lay_strs xs h
  have h2 : PyData.depth (.list (xs.map .str)) ≤ 64 := by simp only [PyData.depth, depth_strs]; decide
  rw [h1, decide_eq_true h2]
  rfl
theorem shaped_strsT {xs : List Str} (h : ∀ x, x ∈ xs → PyData.canLay0 (.str x) = true) : SeqAt.shaped (.tuple (xs.map .str)) = true := by
  unfold SeqAt.shaped
  have h1 : PyData.canLay0 (.tuple (xs.map .str)) = true := by simp only [PyData.canLay0]; exact lay_strs xs h
  have h2 : PyData.depth (.tuple (xs.map .str)) ≤ 64 := by simp only [PyData.depth, depth_strs]; decide
  rw [h1, decide_eq_true h2]
  rfl
/-- a list of strings -/
abbrev lS (xs : List Str) : D := .lst (xs.map .str)
abbrev tS (xs : List Str) : D := .tup (xs.map .str)
theorem eqQ_strsL {M : MM} {Q : Bool → MM → Prop} {xs ys : List Str} (hx : ∀ x, x ∈ xs → PyData.canLay0 (.str x) = true) (hy : ∀ x, x ∈ ys → PyData.canLay0 (.str x) = true) (h : Q (decide (xs = ys)) M) : EqQ (lS xs) (lS ys) M Q := by
  refine ⟨.list (xs.map .str), .list (ys.map .str), ?_, ?_, shaped_strsL hx, shaped_strsL hy, ?_⟩
  · simp only [py, pys_strs]; rfl
  · simp only [py, pys_strs]; rfl
  · simp only [PyData.eqv, eqv_strs]; exact h
section
variable {X : Cx} {Γ : DL.G} {M : MM} {pos : Pos}
/-- try, where nothing is raised -/
theorem ws_try {body rest : List Stmt} {h0 : ExceptHandler} {hs : List ExceptHandler} {Φ : Fi} (h : WS X.nox body Γ M { Φ with nx := fun Γ' M' => WS X rest Γ' M' Φ }) : WS X (.Try body (h0 :: hs) [] [] pos :: rest) Γ M Φ := ⟨fun F σ H he hc E hE => by
  refine ⟨_, pss_cons (ps_try_thru0 pss_wp) pss_wp, h.run F σ H he hc _ ⟨fun F' σ' H' Γ' M' a b c q => q.run F' σ' H' b c E (hE.mono a), hE.rt, hE.bk, hE.ct⟩⟩⟩
end
end DL

set_option Elab.async false
set_option linter.all false
set_option autoImplicit false
set_option maxRecDepth 100000
set_option maxHeartbeats 2000000
/-! a class that is held by a local name, made with *; classmethods; type(x) beside an own class -/
namespace DL
open PySem L2

/-- __init__(self, *v): the new instance and the tuple of all -/
def SpS (K : PySem.W.Frag) (R : RD) : Sp := fun vs H Q E => ∃ v rest, vs = v :: rest ∧ rest.length ≤ sizeLine ∧ ∀ p, H p = none → SpD K R [v, .ref p] (upd H p (.tup rest)) Q E
structure MakS (P : Program) (w : World) (K : PySem.W.Frag) (mg : Str → Option Value) (base : Heap) (k : Nat) (C : Addr) (R : RD) : Prop where
  ex : ∃ f : Addr, Mk K C f ∧ FnR P w K mg base CX0 k f (SpS K R)
/-- C.m, a classmethod -/
structure ClM (P : Program) (w : World) (K : PySem.W.Frag) (mg : Str → Option Value) (base : Heap) (k : Nat) (C : Addr) (m : Str) (R : RD) : Prop where
  ex : ∃ (mc : Value) (p g : Addr), ClX.CRead K C mc ∧ ClX.CMet K C mc m p g ∧ FnR P w K mg base CX0 k g (SpD K R)
section
variable {X : Cx} {Γ : DL.G} {M : MM} {pos p sp_ apos : Pos} {k j i : Nat} {x m : Str} {C : Addr} {R : RD} {e : Expr}
theorem pe_makeV {CX : CXT} {f : Addr} {sp : Sp} {E : XK} {te : TE} (Mm : Mk X.K C f) (F : FnR X.prog X.w X.K X.mg X.base CX k f sp) (hr : Room (k + 1) X.A) (hx : Passes CX X E) (hN : X.N[i]? = some x) (hv : Vis X.env.scope x) (he : PE X e te)
    (hd : (x == ("__debug__" : Str)) = false) (hcd : (x == ("__classdict__" : Str)) = false) (hst : starEach [.Starred e sp_] X.env = [(true, eval e X.env)]) :
    PE X (.Call (.Name x p) [.Starred e sp_] [] pos) (fun σ H Q => σ[i]? = some (some (.ref C)) ∧ te σ H fun y H1 => ∃ a xs, y = V.ref a ∧ (SqT X.K H1 a xs ∨ SqL X.K H1 a xs) ∧ ∀ z dx, H1 z = none → H1 dx = none → dx ≠ z → sp (V.ref z :: xs) (upd (upd H1 dx (.own z)) z (.ins C dx [])) (fun v H2 => v = .non ∧ Q (.ref z) H2) E) := by
  refine ⟨fun pins s σ H Q I ⟨hs, h⟩ => ?_⟩
  refine wpAny_Call_Name_kw (thn ((pe_var (pos := p) (i := i) hN hv hd hcd).run pins s σ H (fun v H1 => v = .ref C ∧ H1 = H) I ⟨.ref C, hs, rfl, rfl⟩) fun u s1 ⟨v, H1, I1, r1, ev, eH⟩ => ?_)
  subst ev
  rw [eH] at I1
  cases r1
  refine PySem.W.callWith_S (h₀ := X.base) I1.ok.mod.kin Mm.kp (thn (he.run pins s1 σ H _ I1 h) fun v s2 ⟨y, H2, I2, ry, a, xs, ey, hxs, q⟩ => ?_) hst
  subst ey
  obtain rfl : v = Value.ref a := ry
  exact StX.star_any I2 hxs fun us s3 I3 rv => ⟨I3.kIn, StX.run_makeR Mm F hr hx I3 rv q⟩
theorem we_makeS (i : Nat) {Q : D → MM → Prop} (c : MakS X.prog X.w X.K X.mg X.base k C R) (hr : Room j X.A) (hk : k + 1 ≤ j) (hΓ : Γ[i]? = some (some (.raw C)))
    (h : WE X e Γ M fun d M1 => ∃ ds, (d = .tup ds ∨ d = .lst ds) ∧ ds.length ≤ sizeLine ∧ ∀ a, M1 a = none → R [.raw a, .tup ds] (mupd M1 a (.ins C [] [])) fun d M2 => d = .non ∧ Q (.raw a) M2)
    (hN : X.N[i]? = some x := by rfl) (hv : Vis X.env.scope x := by first | exact Or.inl rfl | exact Or.inr (Or.inl rfl) | exact Or.inr (Or.inr rfl))
    (hd : (x == ("__debug__" : Str)) = false := by decide) (hcd : (x == ("__classdict__" : Str)) = false := by decide) (hst : starEach [.Starred e sp_] X.env = [(true, eval e X.env)] := by rfl) :
    WE X (.Call (.Name x p) [.Starred e sp_] [] pos) Γ M Q := ⟨fun F σ H ho hc W hR => by
  obtain ⟨f, hmk, G⟩ := c.ex
  obtain ⟨vC, hσ, hvC⟩ := ho.get i _ hΓ
  cases hvC
  refine ⟨_, pe_makeV hmk G (hr.mono hk) (L2.pass0 (X := X)) hN hv pe_wp hd hcd hst, hσ, h.run F σ H ho hc _ fun F1 H1 M1 v d e1 c1 d1 ⟨ds, hds, hz, h1⟩ => ?_⟩
  have fin : ∀ (b : Addr) (xs : List V), Dns X.K F1 xs ds → ∀ z dx, H1 z = none → H1 dx = none → dx ≠ z → SpS X.K R (V.ref z :: xs) (upd (upd H1 dx (.own z)) z (.ins C dx [])) (fun v H2 => v = .non ∧ W (.ref z) H2) (fun _ _ _ => False) := by
    intro b xs hxs a dx na nd ne
    have cA : Con X.K F1 M1 (upd H1 dx (.own a)) := c1.newH nd
    have na' : (upd H1 dx (.own a)) a = none := by rw [upd_ne (Ne.symm ne)]; exact na
    have cB : Con X.K F1 M1 (upd (upd H1 dx (.own a)) a (.ins C dx [])) := cA.newH na'
    have hMa : M1 a = none := c1.fresh na
    have cC : Con X.K F1 (mupd M1 a (.ins C [] [])) (upd (upd H1 dx (.own a)) a (.ins C dx [])) := by
      refine ⟨cB.sub, fun b m e => ?_, cB.ntb, one_mupd cB.one fun _ z => by cases z⟩
      by_cases hb : b = a
      · subst hb
        rw [mupd_same] at e
        cases e
        exact ⟨c1.sub.free na, dx, [], upd_same, by rw [upd_ne ne]; exact upd_same, c1.sub.free nd, rfl, .nil⟩
      · rw [mupd_ne hb] at e
        exact cB.chg b m e
    refine ⟨_, xs, rfl, by rw [hxs.length]; exact hz, fun q hq => ?_⟩
    have sq := same_new (o := .tup xs) (cC.sub.free hq)
    refine ⟨upd F1 q (.tup xs), [.raw a, .tup ds], _, _, cC.new hq, .cons (.raw a) (.cons (.tup (.inl (.inl upd_same)) (hxs.mono sq)) .nil), h1 a hMa, fun F2 H2 M2 v d e2 c2 d2 ⟨hd, q⟩ => ?_⟩
    subst hd
    cases d2
    exact ⟨rfl, hR F2 H2 M2 _ _ ((e1.trans sq).trans e2) c2 (.raw a) q⟩
  rcases hds with hds | hds
  · subst hds
    cases d1 with
    | @tup a xs _ k1 k2 => exact ⟨a, xs, rfl, .inl (sqT_mono c1.sub k1), fin a xs k2⟩
  · subst hds
    cases d1 with
    | @lst a xs _ k1 k2 => exact ⟨a, xs, rfl, .inr (SqL.of (c1.sub _ _ k1)), fin a xs k2⟩⟩
/-- C.m(e, ..), m a classmethod -/
theorem we_cmeth {o : Expr} {es : List Expr} {pl : Sem Bool} {Q : D → MM → Prop} (c : ClM X.prog X.w X.K X.mg X.base k C m R) (hr : Room j X.A) (hk : k ≤ j)
    (h : WE X o Γ M fun x M1 => x = .raw C ∧ WA X (e :: es) Γ M1 fun ds M2 => R (.raw C :: ds) M2 Q)
    (h1 : starEach (e :: es) X.env = (false, eval e X.env) :: starEach es X.env := by rfl) (h2 : (backTo pos (starEach es X.env)).any (·.1) = false := by rfl)
    (h3 : eval (.Call (.Attribute o m apos) (e :: es) [] pos) X.env = (do
      let ov ← eval o X.env
      standAt apos.atName
      let (f, first) ← holding [ov] (getMethod ov m pl)
      callWith pos f first (backTo pos (starEach (e :: es) X.env)) (backToKw pos (keywordEach [] X.env))) := by rfl) :
    WE X (.Call (.Attribute o m apos) (e :: es) [] pos) Γ M Q := ⟨fun F σ H ho hc W hR => by
  obtain ⟨mc, q, g, r, cm, G⟩ := c.ex
  refine ⟨_, ClX.pe_cmeth (pl := pl) pe_wp r cm G (hr.mono hk) (L2.pass0 (X := X)) pa_wp h1 h2 h3, h.run F σ H ho hc _ fun F1 H1 M1 v x e1 c1 d1 ⟨hx, h4⟩ => ?_⟩
  subst hx
  cases d1
  refine ⟨rfl, h4.run F1 σ H1 (ho.mono e1) c1 _ fun F2 H2 M2 vs ds e2 c2 d2 q => ?_⟩
  exact ⟨F2, _ :: ds, M2, Q, c2, .cons (.raw _) d2, q, fun F3 H3 M3 v d e3 c3 d3 q => hR F3 H3 M3 v d ((e1.trans e2).trans e3) c3 d3 q⟩⟩
end
end DL

set_option Elab.async false
set_option linter.all false
set_option autoImplicit false
set_option maxRecDepth 100000
set_option maxHeartbeats 2000000
/-! enumerate(a tuple, start = k); type(x) beside an own class -/
namespace DL
open PySem L2 PyProof.Rows
/-- the tuple at a, each item in a pair behind its number, from c on -/
def IteK (K : PySem.W.Frag) (a : Addr) (c : Int) : It :=
  ⟨fun i H => ∃ (xs : List V) (x : V), SqT K H a xs ∧ xs[i]? = some x, fun i H v H' => ∃ T x, v = .ref T ∧ H T = none ∧ H' = upd H T (.tup [.int (c + (i : Nat)), x]) ∧ ∀ xs, SqT K H a xs → xs[i]? = some x, fun i H => ∃ xs : List V, SqT K H a xs ∧ xs.length = i⟩
theorem turn_enumK {P : Program} {w : World} {K : PySem.W.Frag} {elts : List Expr} {kk : Nat} {tpos : Pos} (a e it : Addr) (c : Int) :
    Turn P w K (.Tuple elts kk tpos) (IteK K a c) [e, it] e (fun i h => (∃ was, IsEnum h e it (c + (i : Nat)) was) ∧ h.IsTupleIter it a i ∧ e ≠ it ∧ e ≠ a) where
  mem := by simp
  obj := fun i h state b hb => by
    obtain ⟨⟨was, enumAt⟩, ⟨o, ho, clsIs, dataIs⟩, _⟩ := state
    have which : b = e ∨ b = it := by simpa using hb
    rcases which with z | z
    · rw [z]; exact ⟨_, enumAt, fun v q => nomatch q⟩
    · rw [z]; exact ⟨o, ho, fun v q => by rw [dataIs] at q; cases q⟩
  keep := fun i h h' state k => let ⟨⟨was, enumAt⟩, idx, eNit⟩ := state; ⟨⟨was, k e (by simp) _ enumAt⟩, idx.at fun o q => k it (by simp) o q, eNit⟩
  item := by
    intro X hP hw hK clsIs i pn s σ H E I foot state hg
    subst hP hw hK
    obtain ⟨⟨was, enumAt⟩, iter, eNit, eNa⟩ := state
    obtain ⟨xs, x, seqAt, itemAt⟩ := hg
    obtain ⟨vals, rel, p, size1⟩ := I.tuple seqAt
    have tupA : s.heap.IsTuple a vals.toArray := p
    obtain ⟨u, itemV, relV⟩ := rel.get itemAt
    have lowE : e < s.heap.objs.size := Heap.lt_size enumAt
    have lowIt : it < s.heap.objs.size := by obtain ⟨_, q, _⟩ := iter; exact Heap.lt_size q
    have apart := apart_it tupA iter
    have inside : i < vals.toArray.size := by
      have := (List.getElem?_eq_some_iff.mp itemV).1
      simpa using this
    refine wpAny_pyNext_enum_itemC (Draws.tuple (A := X.A.in1) (I.ok.hd clsIs) it a apart vals.toArray) enumAt ⟨iter, tupA⟩ inside eNit (by simp [eNit, eNa]) fun v h' tk drew ho iter' hT size2 stays => ?_
    have same_ : v = u := by
      have h1 : vals.toArray[i]? = some u := by simpa using itemV
      rw [h1] at drew
      exact (Option.some.inj drew).symm
    subst same_
    refine ⟨_, rfl, wpAny_letOwnedTupleGo_enum (s := { s with heap := h', toks := tk + 1 }) ho fun h'' enumAt' rest2 => ?_⟩
    have pairAt : h''.get? s.heap.objs.size = some { cls := .type "tuple", data := .seq #[.int (c + (i : Nat)) tk, v] } := (rest2.2 _ (Nat.ne_of_gt lowE)).trans hT
    have pairOk : ObjOk X.prog X.w (upd H s.heap.objs.size (.tup [.int (c + (i : Nat)), x])) h'' s.heap.objs.size (.tup [.int (c + (i : Nat)), x]) :=
      ⟨by show 2 ≤ sizeLine; decide, [.int (c + (i : Nat)) tk, v], .cons ⟨_, rfl⟩ (.cons relV .nil), ⟨_, pairAt, rfl, _, rfl⟩⟩
    have J1 : Inv X pn σ (upd H s.heap.objs.size (.tup [.int (c + (i : Nat)), x])) { s with heap := h'', toks := tk + 1 } :=
      I.turnedNew (ch := [e, it]) (fun b ob hb q => (rest2.2 b (fun z => hb (by simp [z]))).trans (stays b ob (fun z => hb (by simp [z])) (fun z => hb (by simp [z])) q)) foot (Nat.le_refl _) pairOk
    refine ⟨.ref s.heap.objs.size, _, J1, rfl, ⟨_, x, rfl, I.hok.fresh (Nat.le_refl _), rfl, fun ys hy => by rw [I.tuple_inj hy seqAt]; exact itemAt⟩, ⟨⟨v, ?_⟩, iter'.1.at fun o q => (rest2.2 it (Ne.symm eNit)).trans q, eNit, eNa⟩, fun b hb => ?_⟩
    · have e1 : c + ((i + 1 : Nat) : Int) = c + (i : Int) + 1 := by omega
      rw [e1]; exact enumAt'
    · have low : b < s.heap.objs.size := by
        have which : b = e ∨ b = it := by simpa using hb
        rcases which with z | z
        · rw [z]; exact lowE
        · rw [z]; exact lowIt
      rw [upd_ne (Nat.ne_of_lt low)]
      exact (foot b hb).1
  done := by
    intro X hP hw hK clsIs i pn s σ H E I foot state hg
    subst hP hw hK
    obtain ⟨⟨was, enumAt⟩, iter, eNit, eNa⟩ := state
    obtain ⟨xs, seqAt, itemAt⟩ := hg
    obtain ⟨vals, rel, p, size1⟩ := I.tuple seqAt
    have tupA : s.heap.IsTuple a vals.toArray := p
    obtain ⟨g0, g1, g2, g3, g4, g5⟩ := foot it (by simp)
    have lenIs := rel.length
    have idx : i = vals.toArray.size := by simp; omega
    subst idx
    exact wpAny_pyNext_enum_endD (Draws.tuple (A := X.A.in1) (I.ok.hd clsIs) it a (apart_it tupA iter) vals.toArray) enumAt ⟨iter, tupA⟩ fun h' after => ⟨rfl, I.turned (t' := s.toks) (fun b o hb q => after b o hb q) g0 g1 g3 g4 g5⟩
  self := fun A i s Q E state h => let ⟨⟨_, enumAt⟩, _⟩ := state; wpAny_pyIter_enum enumAt h
/-- a built-in class called, keywords too -/
theorem at_type {M : Model} {A : Around} {E : Value → Shared → Prop} {s : Shared} {pos : Pos} {T : String} {as : List (Bool × Sem Value)} {kws : List (Option Str × Sem Value)} {Q : Value → Shared → Prop} (hpl : (as.any (·.1) || kws.any (·.1.isNone)) = false)
    (h : wpAny M A (evalArgs (.type T) true as kws) (fun z s1 => wpAny M A (call (.type T) ([] ++ z.pos) z.kw) Q E s1) E s) : wpAny M A (callWith pos (.type T) [] as kws) Q E s := by
  unfold callWith
  refine wpAny_bind (wpAny_holding (thn h fun z s1 h1 => wpAny_bind (wpAny_standAt ?_)))
  simp only [hpl]
  exact wpAny_bind (wpAny_pure (wpAny_bind (thn h1 fun r s2 hr => wpAny_bind (wpAny_holding (wpAny_point (wpAny_pure hr))))))
def iEnumK (K : PySem.W.Frag) (ta tk : TA) : TI := fun σ H R => ta σ H fun vs H1 => tk σ H1 fun zs H2 => ∃ a xs c, vs = [.ref a] ∧ zs = [.int c] ∧ -(2 ^ 62) ≤ c ∧ c < 2 ^ 62 ∧ SqT K H2 a xs ∧ R (IteK K a c) H2
theorem pi_enumK {X : Cx} {e : Expr} {kws : List Keyword} {ta tk : TA} {p pos tpos : Pos} {elts : List Expr} {kk : Nat} (hg : Gl X "enumerate") (hm : X.mg "enumerate" = none) (ha : PA X [e] ta) (hb : PK X kws tk) (hs : starEach [e] X.env = (false, eval e X.env) :: starEach [] X.env)
    (hall : (backToKw pos (keywordEach kws X.env)).all (·.1.isSome) = true) (hks : (backToKw pos (keywordEach kws X.env)).filterMap (·.1) = (["start"] : List Str))
    (hpl : ((backTo pos (starEach [e] X.env)).any (·.1) || (backToKw pos (keywordEach kws X.env)).any (·.1.isNone)) = false) :
    PI X (.Tuple elts kk tpos) (.Call (.Name "enumerate" p) [e] kws pos) (iEnumK X.K ta tk) := by
  refine ⟨fun pn s τ J R inv h => ?_⟩
  refine wpAny_Call_Name_kw (ld_blt inv hg hm boot_enumerate ?_)
  refine at_type hpl (evalArgs_kw2 hall (thn (ha.run pos pn s τ J _ inv h) fun us s1 ⟨vs, J1, inv1, r1, q1⟩ => thn (hb.run pos pn s1 τ J1 _ inv1 q1) fun ws s2 ⟨zs, J2, inv2, r2, a, xs, c, ev, ez, c0, c1, hq, q⟩ => ?_) hs)
  subst ev
  subst ez
  rw [hks]
  cases r1 with
  | cons r1 rr =>
    cases rr
    cases r1
    cases r2 with
    | cons r2 rr =>
      cases rr
      obtain ⟨tok, rfl⟩ := r2
      obtain ⟨vals, rel, tup, hz⟩ := inv2.tuple hq
      have tupA : s2.heap.IsTuple a vals.toArray := tup
      refine enum_begins_start (begins_tuple a vals.toArray) tupA (by omega) (by omega) fun h' enumAt itAt size2 stays => wpAny_pyIter_enum enumAt ?_
      have inv3 : Inv X pn τ J2 { s2 with heap := h' } := inv2.kept (t' := s2.toks) stays
      have lowA : a < s2.heap.objs.size := by obtain ⟨o, z, _⟩ := tupA; exact Heap.lt_size z
      have iter : h'.IsTupleIter s2.heap.objs.size a 0 := ⟨_, itAt, rfl, rfl⟩
      refine ⟨s2.heap.objs.size + 1, [s2.heap.objs.size + 1, s2.heap.objs.size], _, _, J2, rfl, inv3, turn_enumK a (s2.heap.objs.size + 1) s2.heap.objs.size c, ⟨⟨.none, ?_⟩, iter, Nat.succ_ne_self _, Nat.ne_of_gt (Nat.lt_succ_of_lt lowA)⟩, fun b hb => ?_, q⟩
      · have e0 : c + ((0 : Nat) : Int) = c := by omega
        rw [e0]
        exact enumAt
      · have which : b = s2.heap.objs.size + 1 ∨ b = s2.heap.objs.size := by simpa using hb
        have above : s2.heap.objs.size ≤ b := which.elim (fun z => z ▸ Nat.le_succ _) fun z => z ▸ Nat.le_refl _
        exact inv2.fpOk above (inv2.hok.fresh above)
/-- for i, x in enumerate(a tuple, start = c) -/
theorem wi_enumK {X : Cx} {Γ : DL.G} {M : MM} {e : Expr} {kws : List Keyword} {p pos tpos : Pos} {elts : List Expr} {kk : Nat} {Q : Nat → (Nat → D) → (MM → Prop) → MM → Prop} (hm : X.mg "enumerate" = none)
    (h : WE X e Γ M fun x M1 => WK X kws Γ M1 fun ys M2 => ∃ ds c, x = .tup ds ∧ ys = [.int c] ∧ -(2 ^ 62) ≤ c ∧ c < 2 ^ 62 ∧ Q ds.length (fun i => .tup [.int (c + (i : Nat)), dAt ds i]) (fun _ => True) M2) (hg : Gl X "enumerate" := by rfl)
    (hs : starEach [e] X.env = (false, eval e X.env) :: starEach [] X.env := by rfl) (hall : (backToKw pos (keywordEach kws X.env)).all (·.1.isSome) = true := by rfl) (hks : (backToKw pos (keywordEach kws X.env)).filterMap (·.1) = (["start"] : List Str) := by rfl)
    (hpl : ((backTo pos (starEach [e] X.env)).any (·.1) || (backToKw pos (keywordEach kws X.env)).any (·.1.isNone)) = false := by rfl) : WI X (.Tuple elts kk tpos) (.Call (.Name "enumerate" p) [e] kws pos) Γ M Q := ⟨fun F σ H he hc R hR => by
  refine ⟨_, pi_enumK hg hm (pa_cons pe_wp pa_nil hs) pk_wp hs hall hks hpl, ?_⟩
  refine h.run F σ H he hc _ fun F1 H1 M1 v x e1 c1 d1 h1 => ?_
  refine h1.run F1 σ H1 (he.mono e1) c1 _ fun F2 H2 M2 zs ys e2 c2 d2 ⟨ds, c, hx, hy, l0, l1, q⟩ => ?_
  subst hx
  subst hy
  cases d1 with
  | @tup a xs _ k1 k2 =>
    obtain ⟨z, rfl, dz⟩ := d2.one
    cases dz
    refine ⟨a, xs, c, rfl, rfl, l0, l1, sqT_mono c2.sub (sqT_mono e2 k1), hR F2 H2 M2 _ _ _ _ (e1.trans e2) c2 (fun F3 M3 H3 e cc _ i => ?_) q⟩
    have hq : SqT X.K H3 a xs := sqT_mono cc.sub (sqT_mono e (sqT_mono e2 k1))
    refine ⟨fun hi => ?_, fun hi => ⟨xs, hq, by rw [k2.length]; exact hi⟩⟩
    have hx : i < xs.length := by rw [k2.length]; exact hi
    refine ⟨⟨xs, xs[i], hq, by simp [hx]⟩, fun z H' ⟨T, x, hz, hT, hH, y1⟩ => ?_⟩
    subst hz
    subst hH
    obtain ⟨d, a1, a2⟩ := k2.getV (y1 xs hq)
    have s := same_new (o := .tup [.int (c + (i : Nat)), x]) (cc.sub.free hT)
    exact ⟨_, s, cc.new hT, by rw [dAt_of a1]; exact .tup (.inl (.inl upd_same)) (.cons (.int _) (.cons (a2.mono ((e2.trans e).trans s)) .nil))⟩⟩
/-- type(x) is not C, x an instance of C -/
theorem wt_typeNotC {X : Cx} {Γ : DL.G} {M : MM} {pos p1 p2 p3 : Pos} {e : Expr} {x : Str} {C : Addr} {Q : Bool → MM → Prop} (hm : X.mg "type" = none) (gC : X.mg x = some (.ref C)) (hK : ∃ om, X.K.lookup C = some om ∧ om.cls ≠ .type "tuple")
    (h : WE X e Γ M fun d M1 => ∃ a ns ds, d = .raw a ∧ M1 a = some (.ins C ns ds) ∧ Q false M1)
    (hs : starEach [e] X.env = [(false, eval e X.env)] := by rfl) (hg : Gl X "type" := by rfl) (hgC : Gl X x := by rfl) (hdb : (x == ("__debug__" : Str)) = false := by decide) :
    WT X (.Compare (.Call (.Name "type" p1) [e] [] p2) [.IsNot] [.Name x p3] pos) Γ M Q := ⟨fun F σ H he hc R hR => by
  refine ⟨_, pt_cmpR ItX.op_isnotK (pe_callTy NwS.call_typeC hg hm (by decide +kernel) (pa_cons pe_wp pa_nil hs) (by decide) (by decide) hs) (pe_glob hgC gC (show RelV (.ref C) (.ref C) from rfl) hdb) (nomark _), ?_⟩
  obtain ⟨om, h1, h2⟩ := hK
  refine h.run F σ H he hc _ fun F1 H1 M1 v d e1 c1 d1 ⟨a, ns, ds, hd, hM, q⟩ => ?_
  subst hd
  cases d1
  obtain ⟨_, dx, fs, k1, _⟩ := c1.chg a _ hM
  exact ⟨a, C, rfl, NwS.OfCls.ins k1, C, om, rfl, h1, h2, .inl ⟨rfl, false, rfl, hR F1 H1 M1 false e1 c1 q⟩⟩⟩
end DL
namespace DL
open PySem L2
theorem SlQ_imp {x : D} {lo hi : Option Int} {M : MM} {Q Q' : D → MM → Prop} (h : SlQ x lo hi M Q) (hq : ∀ d M', Q d M' → Q' d M') : SlQ x lo hi M Q' := by
  cases x with
  | lst ds => exact hq _ _ h
  | frz ds => exact hq _ _ h
  | tup ds => exact hq _ _ h
  | str s => exact ⟨h.1, hq _ _ h.2⟩
  | raw a => obtain ⟨ds, a1, a2⟩ := h; exact ⟨ds, a1, hq _ _ a2⟩
  | _ => exact h.elim
theorem AddQ_imp {x y : D} {M : MM} {Q Q' : D → MM → Prop} (h : AddQ x y M Q) (hq : ∀ d M', Q d M' → Q' d M') : AddQ x y M Q' := by
  cases x with
  | int i =>
    cases y with
    | int j => exact hq _ _ h
    | _ => exact h.elim
  | str i =>
    cases y with
    | str j => exact ⟨h.1, hq _ _ h.2⟩
    | _ => exact h.elim
  | tup i =>
    cases y with
    | tup j => exact ⟨h.1, hq _ _ h.2⟩
    | _ => exact h.elim
  | lst i =>
    cases y with
    | lst j => exact ⟨h.1, hq _ _ h.2⟩
    | _ => exact h.elim
  | _ => cases y <;> exact h.elim
end DL
namespace DL
open PySem L2
/-- def __init__(self, *v) as it stands in the text -/
theorem MakS.of {P : Program} {w : World} {K : PySem.W.Frag} {mg : Str → Option Value} {base : Heap} {C f : Addr} {fd : FuncData} {qual pv : Str} {st : Stmt} {N : List Str} {k : Nat} {R : RD} (m : Mk K C f) (F : Fun K "__init__" qual st f fd) (S : FnScope N ["self", pv] (defScope st))
    (hb : ∀ (kV doc pm : Value) (an : Option Addr) (cdv ct u : Value) (rest : List Value), bindArgs (PySem.W.fnOf "__init__" qual (defArgs st) (defBody st) (defScope st) .none kV doc pm an cdv ct) ⟨u :: rest, []⟩ = (newTuple rest >>= fun t => pure ([(("self" : Str), u), (pv, t)] : List (Str × Value))))
    (hbody : ∀ (cdv : Value) (A : Around) (outer : List Env) (s : Shared) (H : Hp) (E : XK), Room k (A.deeper (PyProof.Rows.envOfC qual (defScope st) s.heap.objs.size f cdv)) → ∀ (ds : List D) (M : MM) (Q : D → MM → Prop), R ds M Q →
      WS (cxOf CX0 P w K mg base N qual (defScope st) f cdv A outer s H E).nox (defBody st) (startD N ds) M { nx := fun _ M' => Q .non M', rt := Q }) : MakS P w K mg base (k + 1) C R := by
  obtain ⟨oc, od, kV, doc, pm, an, cdv, ct, osl, rfl, lk, hcd⟩ := F.ex
  refine ⟨f, m, ?_⟩
  have z := StX.fn_star (P := P) (w := w) (mg := mg) (base := base) (k := k) (N := N) (ps := ["self"]) (pv := pv) (sp := SpD K R) (CX := CX0) lk hcd S StX.cxUp_none (fun us rest hl => by
      match us, hl with
      | [u], _ => exact hb kV doc pm an cdv ct u rest) (fun A outer s H vs Q E hr ⟨F', ds, M, Qd, c, d, r, hq⟩ => by
      obtain ⟨z, hz, hw⟩ := (hbody cdv A outer s H E hr ds M Qd r).run F' (L2.start N vs) H (start_ok d) c { nx := fun _ H' => Q .non H', rt := Q }
        ⟨fun F2 σ' H' Γ' M' e _ c' q => hq F2 H' M' .non .non e c' .non q, fun F2 H' M' v d e c' dv q => hq F2 H' M' v d e c' dv q, fun _ _ _ _ _ _ _ _ h => h.elim, fun _ _ _ _ _ _ _ _ h => h.elim⟩
      exact ⟨z, hz.nox, hw⟩)
  exact z.imp fun vs H Q E ⟨v, rest, e, hl, h⟩ => ⟨[v], rest, e, rfl, hl, h⟩
/-- a classmethod as it stands in the text -/
theorem ClM.of {P : Program} {w : World} {K : PySem.W.Frag} {mg : Str → Option Value} {base : Heap} {C p f : Addr} {mc : Value} {fd : FuncData} {m qual : Str} {st : Stmt} {N ps : List Str} {k : Nat} {R : RD} (r : ClX.CRead K C mc) (c : ClX.CMet K C mc m p f) (F : Fun K m qual st f fd) (b : Binds K fd ps []) (S : FnScope N ps (defScope st)) (len : ∀ ds M Q, R ds M Q → ds.length = ps.length)
    (hbody : ∀ (cdv : Value) (A : Around) (outer : List Env) (s : Shared) (H : Hp) (E : XK), Room k (A.deeper (PyProof.Rows.envOfC qual (defScope st) s.heap.objs.size f cdv)) → ∀ (ds : List D) (M : MM) (Q : D → MM → Prop), R ds M Q →
      WS (cxOf CX0 P w K mg base N qual (defScope st) f cdv A outer s H E).nox (defBody st) (startD N ds) M { nx := fun _ M' => Q .non M', rt := Q }) : ClM P w K mg base (k + 1) C m R :=
  ⟨mc, p, f, r, c, ((fn_ok F S len hbody).raw b .nil).imp fun vs H Q E h => by rw [List.append_nil]; exact h⟩
end DL

set_option Elab.async false
set_option linter.all false
set_option autoImplicit false
set_option maxRecDepth 100000
set_option maxHeartbeats 4000000
namespace DL
open PySem L2 PySem.Spec PyProof.Rows HT
/-! a tuple's items from the last to the first: t[::-1] -/
section
variable {prog : Program} {w : World} {A : Around} {E : Value → Shared → Prop} {s : Shared}
theorem sliceApplied_back {sl : Addr} {vl vu vs : Value} {n : Nat} {Q : Int × Int × Nat → Shared → Prop} (hs : s.heap.IsSliceOf sl vl vu vs) (pl : IsPart vl none) (pu : IsPart vu none) (ps : IsPart vs (some (-1)))
    (h : Q ((n : Int) - 1, -1, n) s) : wpAny (model prog w) A (Builtin.Slice.sliceApplied (.ref sl) (pure (n : Int))) Q E s := by
  obtain ⟨os, hos, hcs, hds⟩ := id hs
  unfold Builtin.Slice.sliceApplied Builtin.Slice.sliceFields
  refine wpAny_bind (wpAny_bind (wpAny_field hos hds (x := vl) rfl (wpAny_bind (wpAny_field hos hds (x := vu) rfl (wpAny_bind (wpAny_field hos hds (x := vs) rfl (wpAny_pure ?_)))))))
  refine wpAny_bind (slicePart_ ps ?_)
  show wpAny _ _ (if ((-1 : Int) == 0) = true then _ else _) _ _ s
  rw [if_neg (by decide)]
  refine wpAny_bind (slicePart_ pl (wpAny_bind (slicePart_ pu (wpAny_bind (wpAny_pure ?_)))))
  have e2 : Builtin.Slice.slicePlaces ((n : Int) - 1) (-1) (-1) = n := by
    unfold Builtin.Slice.slicePlaces
    rw [if_neg (by decide), show -(-1 : Int) = 1 by decide, Int.ediv_one]
    split <;> omega
  show wpAny _ _ (pure ((n : Int) - 1, (-1 : Int), Builtin.Slice.slicePlaces ((n : Int) - 1) (-1) (-1))) _ _ s
  rw [e2]
  exact wpAny_pure h
theorem filterMap_like {α β : Type} {f g : α → Option β} : ∀ {l : List α}, (∀ a, a ∈ l → f a = g a) → l.filterMap f = l.filterMap g
  | [], _ => rfl
  | a :: l, h => by
    rw [List.filterMap_cons, List.filterMap_cons, h a List.mem_cons_self, filterMap_like fun b hb => h b (List.mem_cons_of_mem _ hb)]
theorem pick_back (xs : Array Value) : ((List.range xs.size).filterMap fun (k : Nat) => xs[((xs.size : Int) - 1 + (k : Int) * -1).toNat]?).toArray = xs.toList.reverse.toArray := by
  have h := pick_run xs.toList.reverse.toArray 0 xs.size
  have e : (List.range xs.size).filterMap (fun (k : Nat) => xs[((xs.size : Int) - 1 + (k : Int) * -1).toNat]?) = ((List.range xs.size).map (0 + ·)).filterMap (xs.toList.reverse.toArray[·]?) := by
    rw [List.filterMap_map]
    refine filterMap_like fun k hk => ?_
    rw [List.mem_range] at hk
    show xs[((xs.size : Int) - 1 + (k : Int) * -1).toNat]? = xs.toList.reverse.toArray[0 + k]?
    have hlen : k < xs.toList.length := by rw [Array.length_toList]; exact hk
    have e3 : xs.toList.reverse.toArray[0 + k]? = xs.toList.reverse[k]? := by rw [Nat.zero_add]; exact List.getElem?_toArray
    have e4 : ((xs.size : Int) - 1 + (k : Int) * -1).toNat = xs.size - 1 - k := by omega
    rw [e3, e4, List.getElem?_reverse hlen, Array.length_toList, Array.getElem?_toList]
  rw [e, h]
  show (xs.toList.reverse.take xs.size).toArray = xs.toList.reverse.toArray
  rw [List.take_of_length_le (by rw [List.length_reverse, Array.length_toList]; exact Nat.le_refl _)]
theorem getItem_tuple_back {t sl : Addr} {items : Array Value} {vl vu vs : Value} {Q : Value → Shared → Prop} (ht : IsTup s.heap t items) (hs : s.heap.IsSliceOf sl vl vu vs) (pl : IsPart vl none) (pu : IsPart vu none) (ps : IsPart vs (some (-1)))
    (h : Q (.ref s.heap.objs.size) { s with heap := s.heap.push { cls := .type "tuple", data := .seq items.toList.reverse.toArray } }) (hsz : items.size ≤ sizeLine) : wpAny (model prog w) A (getItem (.ref t) (.ref sl)) Q E s := by
  have htake : sizeOk (.seq items.toList.reverse.toArray) := by
    show items.toList.reverse.toArray.size ≤ sizeLine
    rw [List.size_toArray, List.length_reverse, Array.length_toList]
    exact hsz
  obtain ⟨os, hos, hcs, hds⟩ := id hs
  have hTs : s.TypeIs (.ref sl) "slice" := ⟨os, hos, hcs⟩
  unfold getItem
  try with_reducible refine wpAny_holding ?_
  first | refine wpAny_bind (wpAny_pure ?_) | skip
  refine wpAny_bind (wpAny_sequenceKey ht.typeIs (by decide) ?_)
  refine wpAny_bind (wpAny_callSpecial?_slot (name := Str.ofString "__getitem__") ht.typeIs PyProof.Rows.slot_tuple_getitem
    (wpAny_call_entry PyProof.Rows.slot_tuple_getitem ht.typeIs entry_tuple_getitem ?_ (args_tuple_getitem _ _)))
  show wpAny _ _ (Builtin.Tuple.tupleItemsOf (.ref t) >>= _) _ _ s
  refine wpAny_bind (tupleItemsOf_ ht ?_)
  refine wpAny_bind (wpAny_typeOf hTs ?_)
  rw [if_pos (by decide)]
  refine wpAny_bind (sliceApplied_back hs pl pu ps ?_)
  have hno : ¬ ((((items.size : Int) - 1) == 0 && (-1 : Int) == 1 && items.size == items.size) = true) := by
    intro q
    rw [Bool.and_eq_true, Bool.and_eq_true] at q
    exact absurd (eq_of_beq q.1.2) (by decide)
  show wpAny _ _ (if (((items.size : Int) - 1) == 0 && (-1 : Int) == 1 && items.size == items.size) = true then _ else _) _ _ s
  rw [if_neg hno, pick_back]
  first
    | exact wpAny_bind (m := Builtin.Tuple.tupleExact _) (wpAny_newObj_type (wpAny_pure ⟨_, rfl, wpAny_pure h⟩) htake)
    | exact wpAny_bind (m := Builtin.Tuple.tupleExact _) (wpAny_newObj_type (wpAny_bind (wpAny_pure (wpAny_pure ⟨_, rfl, wpAny_pure h⟩))) htake)
    | exact wpAny_bind (wpAny_bind (m := Builtin.Tuple.tupleExact _) (wpAny_newObj_type (wpAny_pure (wpAny_pure ⟨_, rfl, wpAny_pure h⟩)) htake))
    | exact wpAny_bind (wpAny_bind (m := Builtin.Tuple.tupleExact _) (wpAny_newObj_type (wpAny_pure ⟨_, rfl, wpAny_pure h⟩) htake))
end
section
variable {X : Cx} {Γ : G} {M : MM} {pos : Pos}
def tBackT (K : PySem.W.Frag) (te : TE) : TE := fun σ H Q => te σ H fun x H1 => ∃ a xs, x = .ref a ∧ SqT K H1 a xs ∧ ∀ p, H1 p = none → Q (.ref p) (upd H1 p (.tup xs.reverse))
theorem pe_backT {e : Expr} {te : TE} {k : Nat} {p1 p2 p3 pos : Pos} (he : PE X e te) : PE X (.Subscript e (.Slice none none (some (.UnaryOp .USub (.Constant (.int 1) k p1) p2)) p3) pos) (tBackT X.K te) := by
  refine ⟨fun pins s σ H Q I h => ?_⟩
  refine Subscript_ (thn (he.run pins s σ H _ I h) fun v s1 ⟨x, H1, I1, r1, q1⟩ => ?_)
  obtain ⟨a, xs, ex, hx, q⟩ := q1
  subst ex
  cases r1
  have hst : PO X (some (.UnaryOp .USub (.Constant (.int 1) k p1) p2)) (tPart (tUn (rU fun i => .int (-i)) (tC (.int 1)))) := po_some (pe_un un_neg pe_int)
  refine wpAny_Slice (thn (po_none.run pins s1 σ H1 (fun o H2 => o = none ∧ H2 = H1) I1 ⟨rfl, rfl⟩) fun vl s2 ⟨l, H2, I2, pl, el, e2⟩ => ?_)
  subst el e2
  refine thn (po_none.run pins s2 σ H2 (fun o H3 => o = none ∧ H3 = H2) I2 ⟨rfl, rfl⟩) fun vu s3 ⟨u, H3, I3, pu, eu, e3⟩ => ?_
  subst eu e3
  refine thn (hst.run pins s3 σ H3 (fun o H4 => o = some (-1) ∧ H4 = H3) I3 ⟨1, rfl, -1, rfl, rfl, rfl⟩) fun vs s4 ⟨o, H4, I4, ps, eo, e4⟩ => ?_
  subst eo e4
  have I5 : Inv X pins σ H4 { s4 with heap := s4.heap.push { cls := .type "slice", data := .fields #[vl, vu, vs] } } := I4.kept (t' := s4.toks) fun b ob q => Heap.get?_push_of_some _ q
  obtain ⟨its, r, ht, hz⟩ := I5.tuple hx
  have hlen := r.length
  show wpAny (model X.prog X.w) X.A (subscriptTail e (.Slice none none (some (.UnaryOp .USub (.Constant (.int 1) k p1) p2)) p3) (.ref a) (.ref s4.heap.objs.size)) (EP X pins σ Q) X.xe { s4 with heap := s4.heap.push { cls := .type "slice", data := .fields #[vl, vu, vs] } }
  refine tail_any (ops := [.ref a, .ref s4.heap.objs.size]) ht.typeIs (PyProof.Rows.slot_tuple_getitem.lookup) ?_ (by with_unfolding_all rfl)
  refine getItem_tuple_back ht (Heap.IsSliceOf.new _ vl vu vs) pl pu ps ?_ (by rw [List.size_toArray]; omega)
  refine ⟨.ref _, _, I5.laid (t' := s4.toks) (o := .tup xs.reverse) (fun b ob q => Heap.get?_push_of_some _ q) (Nat.le_refl _) ?_, rfl, q _ (I5.hok.fresh (Nat.le_refl _))⟩
  exact ⟨by rw [List.length_reverse]; exact hz, _, r.reverse, IsTup.new _ _⟩
/-- t[::-1], a tuple -/
theorem we_backT {e : Expr} {k : Nat} {p1 p2 p3 : Pos} {Q : D → MM → Prop} (h : WE X e Γ M fun x M1 => ∃ ds, x = .tup ds ∧ Q (.tup ds.reverse) M1) : WE X (.Subscript e (.Slice none none (some (.UnaryOp .USub (.Constant (.int 1) k p1) p2)) p3) pos) Γ M Q := ⟨fun F σ H he hc R hR => by
  refine ⟨_, pe_backT pe_wp, h.run F σ H he hc _ fun F1 H1 M1 v x e1 c1 d1 ⟨ds, hx, q⟩ => ?_⟩
  subst hx
  cases d1 with
  | @tup a xs _ k1 k2 =>
    refine ⟨a, xs, rfl, sqT_mono c1.sub k1, fun p hp => ?_⟩
    have s := same_new (o := .tup xs.reverse) (c1.sub.free hp)
    exact hR _ _ M1 _ _ (e1.trans s) (c1.new hp) (.tup (.inl (.inl upd_same)) (k2.reverse.mono s)) q⟩
end
end DL

set_option Elab.async false
set_option linter.all false
set_option autoImplicit false
set_option maxRecDepth 100000
set_option maxHeartbeats 4000000
namespace DL
open PySem L2 PySem.Spec PyProof.Rows
/-! len(o), o an instance of a class with a __len__ of its own -/
section
variable {X : Cx} {CX : CXT} {k : Nat} {C f : Addr} {fd : FuncData} {ps : List Str} {sp : Sp} {E : XK}
theorem call_lenOwn (hm : Meth X.K C "__len__" f) (F : FnOk X.prog X.w X.K X.mg X.base CX k f fd ps sp) (hr : Room (k + 1) X.A) (hb : Binds X.K fd ps []) (hx : Passes CX X E) :
    CallR X (.builtin "len") (fun xs H Q => ∃ a dx fs, xs = [.ref a] ∧ H a = some (.ins C dx fs) ∧ sp [.ref a] H (fun v H' => ∃ n : Int, v = .int n ∧ 0 ≤ n ∧ n < 2 ^ 63 ∧ Q (.int n) H') E) := by
  intro pins s σ H xs us Q I r h
  obtain ⟨a, dx, fs, rfl, ea, q⟩ := h
  obtain ⟨u, rfl, ru⟩ := vals1 r
  obtain rfl : u = Value.ref a := ru
  obtain ⟨mA, O, _, _, _, _⟩ := ins_get I.hok ea
  obtain ⟨od, J, _⟩ := O.look
  have hl : ([Value.ref a] ++ []).length = ps.length := (F.len _ _ _ _ q).symm ▸ rfl
  have run : wpAny (model X.prog X.w) X.A.in1 (call (.ref f) [.ref a]) (EP X pins σ fun v H' => ∃ n : Int, v = .int n ∧ 0 ≤ n ∧ n < 2 ^ 63 ∧ Q (.int n) H') X.xe s := by
    refine wpAny_call (codeAny_mono (F.run X.A.in1 X.stack s H ⟨[.ref a], []⟩ [.ref a] [.ref a] _ E hr.in1 I.env0.in1 (hb s [.ref a] I.kIn hl) (.cons rfl .nil) q) fun r s' hq => ?_)
    cases r with
    | error er => exact hx pins σ H s er s' I hq
    | ok fl =>
      cases fl with
      | ret u => exact I.after hq
      | next => exact False.elim hq
      | brk => exact False.elim hq
      | cont => exact False.elim hq
  refine Calls.call_function_entry kind_len plain_len entry_len (args_len1 _) ?_
  unfold Builtin.«len»
  refine wpAny_bind (m := oneArg "len" _) (wpAny_pure ?_)
  refine wpAny_bind (m := callSpecial? (.ref a) (Str.ofString "__len__")) (PySem.W.special_fn I.kIn J hm.at_ (beq_iff_eq.mp hm.fn) (thn run fun r s' hq => ?_))
  obtain ⟨v, H', I3, rv, n, rfl, h0, h1, q3⟩ := hq
  obtain ⟨t, rfl⟩ := rv
  refine wpAny_bind (wpAny_holding (wpAny_pure ?_))
  refine wpAny_bind (wpAny_letGo ?_)
  show wpAny _ _ (if n < 0 then _ else _) _ _ _
  rw [if_neg (by omega)]
  show wpAny _ _ (if n ≥ 2 ^ 63 then _ else _) _ _ _
  rw [if_neg (by omega)]
  exact wpAny_bind (wpAny_mkInt (wpAny_pure ⟨_, rfl, .int n, H', I3.tok _, ⟨_, rfl⟩, q3⟩))
end
section
variable {X : Cx} {Γ : G} {M : MM} {pos p : Pos} {k j : Nat} {C : Addr} {R : RD}
theorem we_lenI {e : Expr} {Q : D → MM → Prop} (c : Met X.prog X.w X.K X.mg X.base k C "__len__" R) (hr : Room j X.A) (hk : k + 1 ≤ j) (hm : X.mg "len" = none)
    (h : WE X e Γ M fun x M1 => InsOf M1 C "__len__" x ∧ R [x] M1 fun d M2 => ∃ n : Int, d = .int n ∧ 0 ≤ n ∧ n < 2 ^ 63 ∧ Q (.int n) M2) (hst : starEach [e] X.env = [(false, eval e X.env)] := by rfl) (hg : Gl X "len" := by rfl) : WE X (.Call (.Name "len" p) [e] [] pos) Γ M Q := ⟨fun F σ H he hc W hR => by
  obtain ⟨f, fd, ps, hcl, hmt, G, b⟩ := c.ex
  refine ⟨_, pe_callB (call_lenOwn hmt G (hr.mono hk) b (L2.pass0 (X := X))) hg hm PySem.boot_len (pa_cons pe_wp pa_nil hst) (by decide) (by decide) hst, h.run F σ H he hc _ fun F1 H1 M1 v x e1 c1 d1 ⟨hi, h1⟩ => ?_⟩
  obtain ⟨a, dx, fs, rfl, ha, hl⟩ := hi.at c1 d1
  refine ⟨a, dx, fs, rfl, ha, F1, [x], M1, _, c1, .cons d1 .nil, h1, fun F3 H3 M3 v d e3 c3 d3 ⟨n, e, h0, h1, q⟩ => ?_⟩
  subst e
  cases d3
  exact ⟨n, rfl, h0, h1, hR F3 H3 M3 _ _ (e1.trans e3) c3 (.int n) q⟩⟩
end
end DL

set_option Elab.async false
set_option linter.all false
set_option autoImplicit false
set_option maxRecDepth 100000
set_option maxHeartbeats 4000000
namespace DL
open PySem L2 PySem.Spec PyProof.Rows
/-! keywords in any order: n values by place, then the m keywords' values, each parameter behind the first n told by its keyword's number -/
def gKw (n m : Nat) (pm : List Nat) {α : Type} (us ws : List α) : List α := if us.length = n ∧ ws.length = m then us ++ pm.filterMap (ws[·]?) else []
theorem vals_pick {vs : List V} {us : List Value} (h : Vals vs us) : ∀ pm : List Nat, Vals (pm.filterMap (vs[·]?)) (pm.filterMap (us[·]?))
  | [] => .nil
  | i :: pm => by
    have ih := vals_pick h pm
    rw [List.filterMap_cons, List.filterMap_cons]
    by_cases hi : i < vs.length
    · obtain ⟨u, hu, r⟩ := h.get (List.getElem?_eq_getElem hi)
      rw [hu, List.getElem?_eq_getElem hi]
      exact .cons r ih
    · rw [List.getElem?_eq_none (by omega), List.getElem?_eq_none (by rw [← h.length]; omega)]
      exact ih
theorem dns_pick {K : PySem.W.Frag} {F : Hp} {vs : List V} {ds : List D} (h : Dns K F vs ds) : ∀ pm : List Nat, Dns K F (pm.filterMap (vs[·]?)) (pm.filterMap (ds[·]?))
  | [] => .nil
  | i :: pm => by
    have ih := dns_pick h pm
    rw [List.filterMap_cons, List.filterMap_cons]
    by_cases hi : i < vs.length
    · obtain ⟨d, hd, r⟩ := h.getV (List.getElem?_eq_getElem hi)
      rw [hd, List.getElem?_eq_getElem hi]
      exact .cons r ih
    · rw [List.getElem?_eq_none (by omega), List.getElem?_eq_none (by rw [← h.length]; omega)]
      exact ih
theorem kb_mk {K : PySem.W.Frag} {fd : FuncData} {ps ks : List Str} {n m : Nat} {pm : List Nat} (h0 : 0 < ps.length)
    (to : ∀ (s : Shared) (us ws : List Value), us.length = n → ws.length = m → BindsTo s fd ⟨us, ks.zip ws⟩ (ps.zip (us ++ pm.filterMap (ws[·]?)))) : KB K fd ps ks (gKw n m pm) where
  to := fun s us ws _ hl => by
    by_cases h : us.length = n ∧ ws.length = m
    · have e : gKw n m pm us ws = us ++ pm.filterMap (ws[·]?) := if_pos h
      rw [e]
      exact to s us ws h.1 h.2
    · have e : gKw n m pm us ws = [] := if_neg h
      rw [e] at hl
      simp at hl
      omega
  relV := fun {vs us zs ws} a b => by
    unfold gKw
    rw [a.length, b.length]
    by_cases h : us.length = n ∧ ws.length = m
    · rw [if_pos h, if_pos h]
      exact a.append (vals_pick b pm)
    · rw [if_neg h, if_neg h]
      exact .nil
  relD := fun {K F vs ds zs es} a b => by
    unfold gKw
    rw [a.length, b.length]
    by_cases h : ds.length = n ∧ es.length = m
    · rw [if_pos h, if_pos h]
      exact a.append (dns_pick b pm)
    · rw [if_neg h, if_neg h]
      exact .nil
section
variable {X : Cx} {Γ : G} {M : MM} {pos p apos kpos : Pos} {k j : Nat} {x m : Str} {R : RD}
theorem pe_callK0 {CX : CXT} {f : Addr} {fd : FuncData} {ps ks : List Str} {sp : Sp} {E : XK} {kws : List Keyword} {tk : TA} {g : List Value → List Value → List Value} {gV : List V → List V → List V} (F : FnOk X.prog X.w X.K X.mg X.base CX k f fd ps sp) (hr : Room k X.A) (hg : Gl X x) (hm : X.mg x = some (.ref f)) (hk : PySem.W.keepIn X.K (.ref f) = true) (hb : KBinds X.K fd ps ks g gV) (hx : Passes CX X E)
    (hkw : PK X kws tk) (hall : (backToKw pos (keywordEach kws X.env)).all (·.1.isSome) = true) (hks : (backToKw pos (keywordEach kws X.env)).filterMap (·.1) = ks) (hdb : (x == ("__debug__" : Str)) = false)
    (hpl : ((backTo pos (starEach [] X.env)).any (·.1) || (backToKw pos (keywordEach kws X.env)).any (·.1.isNone)) = false) :
    PE X (.Call (.Name x p) [] kws pos) (tCallK sp gV E tNil tk) := by
  refine ⟨fun pins s σ H Q I h => ?_⟩
  refine wpAny_Call_Name_kw (ld_glob I hg hm ?_ hdb)
  refine PySem.W.callWith_KW0 (h₀ := X.base) I.ok.mod.kin hk hall (thn (hkw.run pos pins s σ H _ I h) fun ws s2 ⟨zs, H2, I2, rz, q2⟩ => ⟨I2.kIn, ?_⟩) hpl
  rw [hks]
  exact run_fnk (us := []) (vs := []) F hr hb hx I2 .nil rz q2
/-- f(k = v, ..) -/
theorem we_callK0 {kws : List Keyword} {ks : List Str} {g : {α : Type} → List α → List α → List α} {Q : D → MM → Prop} (c : CalK X.prog X.w X.K X.mg X.base k x ks g R) (hr : Room j X.A) (hk : k ≤ j) (h : WK X kws Γ M fun ds M2 => R (g [] ds) M2 Q)
    (hg : Gl X x := by rfl) (hall : (backToKw pos (keywordEach kws X.env)).all (·.1.isSome) = true := by rfl) (hks : (backToKw pos (keywordEach kws X.env)).filterMap (·.1) = ks := by rfl) (hdb : (x == ("__debug__" : Str)) = false := by decide)
    (hpl : ((backTo pos (starEach [] X.env)).any (·.1) || (backToKw pos (keywordEach kws X.env)).any (·.1.isNone)) = false := by rfl) :
    WE X (.Call (.Name x p) [] kws pos) Γ M Q := ⟨fun F σ H ho hc W hR => by
  obtain ⟨f, fd, ps, G, hm, hkp, b⟩ := c.ex
  refine ⟨_, pe_callK0 G (hr.mono hk) hg hm hkp ⟨b.to, b.relV⟩ (L2.pass0 (X := X)) pk_wp hall hks hdb hpl, h.run F σ H ho hc _ fun F2 H2 M2 vs ds e2 c2 d2 q => ?_⟩
  exact ⟨F2, g [] ds, M2, Q, c2, b.relD .nil d2, q, fun F3 H3 M3 v d e3 c3 d3 q => hR F3 H3 M3 v d (e2.trans e3) c3 d3 q⟩⟩
/-- f(e, .., k = v, ..) -/
theorem we_callK {e : Expr} {es : List Expr} {kws : List Keyword} {ks : List Str} {g : {α : Type} → List α → List α → List α} {Q : D → MM → Prop} (c : CalK X.prog X.w X.K X.mg X.base k x ks g R) (hr : Room j X.A) (hk : k ≤ j) (h : WA X (e :: es) Γ M fun cs M1 => WK X kws Γ M1 fun ds M2 => R (g cs ds) M2 Q)
    (hg : Gl X x := by rfl) (hall : (backToKw pos (keywordEach kws X.env)).all (·.1.isSome) = true := by rfl) (hks : (backToKw pos (keywordEach kws X.env)).filterMap (·.1) = ks := by rfl) (hdb : (x == ("__debug__" : Str)) = false := by decide)
    (he : starEach (e :: es) X.env = (false, eval e X.env) :: starEach es X.env := by rfl)
    (hpl : ((backTo pos (starEach (e :: es) X.env)).any (·.1) || (backToKw pos (keywordEach kws X.env)).any (·.1.isNone)) = false := by rfl) :
    WE X (.Call (.Name x p) (e :: es) kws pos) Γ M Q := ⟨fun F σ H ho hc W hR => by
  obtain ⟨f, fd, ps, G, hm, hkp, b⟩ := c.ex
  refine ⟨_, pe_callK G (hr.mono hk) hg hm hkp ⟨b.to, b.relV⟩ (L2.pass0 (X := X)) pa_wp pk_wp hall hks hdb he hpl, h.run F σ H ho hc _ fun F1 H1 M1 us cs e1 c1 d1 h1 => ?_⟩
  refine h1.run F1 σ H1 (ho.mono e1) c1 _ fun F2 H2 M2 vs ds e2 c2 d2 q => ?_
  exact ⟨F2, g cs ds, M2, Q, c2, b.relD (d1.mono e2) d2, q, fun F3 H3 M3 v d e3 c3 d3 q => hR F3 H3 M3 v d ((e1.trans e2).trans e3) c3 d3 q⟩⟩
end
theorem WI.imp {X : Cx} {tg iter : Expr} {Γ : G} {M : MM} {Q Q' : Nat → (Nat → D) → (MM → Prop) → MM → Prop} (h : WI X tg iter Γ M Q) (hq : ∀ n it keep M1, Q n it keep M1 → Q' n it keep M1) : WI X tg iter Γ M Q' := ⟨fun F σ H he hc R hR => h.run F σ H he hc R fun F' H' M' J n it keep a b c q => hR F' H' M' J n it keep a b c (hq _ _ _ _ q)⟩
/-- the slots written anew, as one list -/
theorem WS.ctx {X : Cx} {sts : List Stmt} {Γ : G} {M : MM} {Φ : Fi} (Γ' : G) (w : WS X sts Γ' M Φ) (h : Γ = Γ' := by rfl) : WS X sts Γ M Φ := h ▸ w
/-! a classmethod, a class made with *, as they stand in the text -/
structure ClMAt (K : PySem.W.Frag) (C : Addr) (m qual : Str) (st : Stmt) (ps : List Str) : Prop where
  ex : ∃ (mc : Value) (p f : Addr) (fd : FuncData), ClX.CRead K C mc ∧ ClX.CMet K C mc m p f ∧ Fun K m qual st f fd ∧ Binds K fd ps []
theorem ClMAt.clm {P : Program} {w : World} {K : PySem.W.Frag} {mg : Str → Option Value} {base : Heap} {C : Addr} {m qual : Str} {st : Stmt} {N ps : List Str} {k : Nat} {R : RD} (d : ClMAt K C m qual st ps) (S : FnScope N ps (defScope st)) (len : ∀ ds M Q, R ds M Q → ds.length = ps.length)
    (hbody : ∀ (f : Addr) (cdv : Value) (A : Around) (outer : List Env) (s : Shared) (H : Hp) (E : XK), Room k (A.deeper (PyProof.Rows.envOfC qual (defScope st) s.heap.objs.size f cdv)) → ∀ (ds : List D) (M : MM) (Q : D → MM → Prop), R ds M Q →
      WS (cxOf CX0 P w K mg base N qual (defScope st) f cdv A outer s H E).nox (defBody st) (startD N ds) M { nx := fun _ M' => Q .non M', rt := Q }) : ClM P w K mg base (k + 1) C m R := by
  obtain ⟨mc, p, f, fd, r, c, F, b⟩ := d.ex
  exact ClM.of r c F b S len (hbody f)
structure MakSAt (K : PySem.W.Frag) (C : Addr) (qual : Str) (st : Stmt) (pv : Str) : Prop where
  ex : ∃ (f : Addr) (fd : FuncData), Mk K C f ∧ Fun K "__init__" qual st f fd ∧ ∀ (kV doc pm : Value) (an : Option Addr) (cdv ct u : Value) (rest : List Value), bindArgs (PySem.W.fnOf "__init__" qual (defArgs st) (defBody st) (defScope st) .none kV doc pm an cdv ct) ⟨u :: rest, []⟩ = (newTuple rest >>= fun t => pure ([(("self" : Str), u), (pv, t)] : List (Str × Value)))
theorem MakSAt.mak {P : Program} {w : World} {K : PySem.W.Frag} {mg : Str → Option Value} {base : Heap} {C : Addr} {qual pv : Str} {st : Stmt} {N : List Str} {k : Nat} {R : RD} (d : MakSAt K C qual st pv) (S : FnScope N ["self", pv] (defScope st))
    (hbody : ∀ (f : Addr) (cdv : Value) (A : Around) (outer : List Env) (s : Shared) (H : Hp) (E : XK), Room k (A.deeper (PyProof.Rows.envOfC qual (defScope st) s.heap.objs.size f cdv)) → ∀ (ds : List D) (M : MM) (Q : D → MM → Prop), R ds M Q →
      WS (cxOf CX0 P w K mg base N qual (defScope st) f cdv A outer s H E).nox (defBody st) (startD N ds) M { nx := fun _ M' => Q .non M', rt := Q }) : MakS P w K mg base (k + 1) C R := by
  obtain ⟨f, fd, m, F, hb⟩ := d.ex
  exact MakS.of m F S hb (hbody f)
/-- a def of which it is told which one it is, so that it may be called by keywords, too -/
structure CalF (P : Program) (w : World) (K : PySem.W.Frag) (mg : Str → Option Value) (base : Heap) (k : Nat) (x : Str) (st : Stmt) (ps : List Str) (R : RD) : Prop where
  ex : ∃ (f : Addr) (fd : FuncData), Fun K x x st f fd ∧ FnOk P w K mg base CX0 k f fd ps (SpD K R) ∧ mg x = some (.ref f) ∧ Binds K fd ps []
theorem DefAt.calF {P : Program} {w : World} {K : PySem.W.Frag} {mg : Str → Option Value} {base : Heap} {x : Str} {st : Stmt} {N ps : List Str} {k : Nat} {R : RD} (d : DefAt K mg x st ps) (S : FnScope N ps (defScope st)) (len : ∀ ds M Q, R ds M Q → ds.length = ps.length)
    (hbody : ∀ (f : Addr) (cdv : Value) (A : Around) (outer : List Env) (s : Shared) (H : Hp) (E : XK), Room k (A.deeper (PyProof.Rows.envOfC x (defScope st) s.heap.objs.size f cdv)) → ∀ (ds : List D) (M : MM) (Q : D → MM → Prop), R ds M Q →
      WS (cxOf CX0 P w K mg base N x (defScope st) f cdv A outer s H E).nox (defBody st) (startD N ds) M { nx := fun _ M' => Q .non M', rt := Q }) : CalF P w K mg base (k + 1) x st ps R := by
  obtain ⟨f, fd, F, hm, b⟩ := d.ex
  exact ⟨f, fd, F, fn_ok F S len (hbody f), hm, b⟩
theorem CalF.cal {P : Program} {w : World} {K : PySem.W.Frag} {mg : Str → Option Value} {base : Heap} {k : Nat} {x : Str} {st : Stmt} {ps : List Str} {R : RD} (c : CalF P w K mg base k x st ps R) : Cal P w K mg base k x R := by
  obtain ⟨f, fd, F, G, hm, b⟩ := c.ex
  exact ⟨f, fd, ps, G, hm, F.kp, b⟩
/-- how the parameters of the def st are bound by keywords -/
def KwFn (x qual : Str) (st : Stmt) (ps ks : List Str) (g : {α : Type} → List α → List α → List α) : Prop := ∀ (K : PySem.W.Frag) (f : Addr) (fd : FuncData), Fun K x qual st f fd → KB K fd ps ks g
theorem CalF.kw {P : Program} {w : World} {K : PySem.W.Frag} {mg : Str → Option Value} {base : Heap} {k : Nat} {x : Str} {st : Stmt} {ps ks : List Str} {g : {α : Type} → List α → List α → List α} {R : RD} (c : CalF P w K mg base k x st ps R) (b : KwFn x x st ps ks g) : CalK P w K mg base k x ks g R := by
  obtain ⟨f, fd, F, G, hm, _⟩ := c.ex
  exact ⟨f, fd, ps, G, hm, F.kp, b K f fd F⟩
/-- a method likewise -/
structure MetF (P : Program) (w : World) (K : PySem.W.Frag) (mg : Str → Option Value) (base : Heap) (k : Nat) (C : Addr) (m qual : Str) (st : Stmt) (ps : List Str) (R : RD) : Prop where
  ex : ∃ (f : Addr) (fd : FuncData), Cls K C ∧ Meth K C m f ∧ Fun K m qual st f fd ∧ FnOk P w K mg base CX0 k f fd ps (SpD K R) ∧ Binds K fd ps []
theorem MetAt.metF {P : Program} {w : World} {K : PySem.W.Frag} {mg : Str → Option Value} {base : Heap} {C : Addr} {m qual : Str} {st : Stmt} {N ps : List Str} {k : Nat} {R : RD} (d : MetAt K C m qual st ps) (S : FnScope N ps (defScope st)) (len : ∀ ds M Q, R ds M Q → ds.length = ps.length)
    (hbody : ∀ (f : Addr) (cdv : Value) (A : Around) (outer : List Env) (s : Shared) (H : Hp) (E : XK), Room k (A.deeper (PyProof.Rows.envOfC qual (defScope st) s.heap.objs.size f cdv)) → ∀ (ds : List D) (M : MM) (Q : D → MM → Prop), R ds M Q →
      WS (cxOf CX0 P w K mg base N qual (defScope st) f cdv A outer s H E).nox (defBody st) (startD N ds) M { nx := fun _ M' => Q .non M', rt := Q }) : MetF P w K mg base (k + 1) C m qual st ps R := by
  obtain ⟨f, fd, hc, hm, F, b⟩ := d.ex
  exact ⟨f, fd, hc, hm, F, fn_ok F S len (hbody f), b⟩
theorem MetF.met {P : Program} {w : World} {K : PySem.W.Frag} {mg : Str → Option Value} {base : Heap} {k : Nat} {C : Addr} {m qual : Str} {st : Stmt} {ps : List Str} {R : RD} (c : MetF P w K mg base k C m qual st ps R) : Met P w K mg base k C m R := by
  obtain ⟨f, fd, hc, hm, F, G, b⟩ := c.ex
  exact ⟨f, fd, ps, hc, hm, G, b⟩
theorem MetF.kw {P : Program} {w : World} {K : PySem.W.Frag} {mg : Str → Option Value} {base : Heap} {k : Nat} {C : Addr} {m qual : Str} {st : Stmt} {ps ks : List Str} {g : {α : Type} → List α → List α → List α} {R : RD} (c : MetF P w K mg base k C m qual st ps R) (b : KwFn m qual st ps ks g) : MetK P w K mg base k C m ks g R := by
  obtain ⟨f, fd, hc, hm, F, G, _⟩ := c.ex
  exact ⟨f, fd, ps, hc, hm, G, b K f fd F⟩
/-! the same def by place and by keywords -/
theorem CalK.of {P : Program} {w : World} {K : PySem.W.Frag} {mg : Str → Option Value} {base : Heap} {x : Str} {k : Nat} {R : RD} {f : Addr} {fd : FuncData} {ps ks : List Str} {g : {α : Type} → List α → List α → List α} (G : FnOk P w K mg base CX0 k f fd ps (SpD K R)) (hm : mg x = some (.ref f)) (hk : PySem.W.keepIn K (.ref f) = true) (b : KB K fd ps ks g) : CalK P w K mg base k x ks g R := ⟨f, fd, ps, G, hm, hk, b⟩
end DL

set_option Elab.async false
set_option linter.all false
set_option autoImplicit false
set_option maxRecDepth 100000
set_option maxHeartbeats 4000000
namespace DL
open PySem L2 PySem.Spec PyProof.Rows
section
variable {X : Cx} {Γ : G} {M : MM} {pos p : Pos} {k j : Nat}
/-- o.f among targets -/
def gFld (K : PySem.W.Frag) (to : TE) (f : Str) : TG := fun v σ H Q => to σ H fun x H1 => ∃ a C dx fs, x = .ref a ∧ H1 a = some (.ins C dx fs) ∧ Cls K C ∧ NoAttr K C f ∧ fs.length < 1000 ∧ Q σ (upd H1 a (.ins C dx (putF f v fs)))
theorem pg_fld {o : Expr} {f : Str} {to : TE} (ho : PE X o to) : PG X (.Attribute o f pos) (gFld X.K to f) := by
  refine ⟨fun pins s σ H v u Q I r h => ?_⟩
  rw [PySem.assign_Attribute]
  refine wpAny_bind (wpAny_holding (thn (ho.run pins s σ H _ I h) fun ov s1 ⟨x, H1, I1, r1, a, C, dx, fs, ex, ea, c, n, l, q⟩ => ?_))
  subst ex
  obtain rfl : ov = Value.ref a := r1
  refine wpAny_bind (wpAny_standAt (wpAny_bind (wpAny_holding (setattr_ok I1 ea c n l r fun s3 I3 => ?_))))
  exact wpAny_release ⟨σ, _, I3, q⟩
theorem wg_fld {C : Addr} {o : Expr} {f : Str} {d : D} {Q : G → MM → Prop} (hc : Cls X.K C) (hn : NoAttr X.K C f)
    (h : WE X o Γ M fun x M2 => ∃ a ns ds, x = .raw a ∧ M2 a = some (.ins C ns ds) ∧ ns.length < 1000 ∧ f ∈ ns ∧ Q Γ (mupd M2 a (.ins C ns (putN f d ns ds)))) : WG X (.Attribute o f pos) d Γ M Q := ⟨fun F σ H v he hco dv R hR => by
  refine ⟨_, pg_fld pe_wp, h.run F σ H he hco _ fun F2 H2 M2 u x e2 c2 d2 ⟨a, ns, ds, hx, hM, hl, q1, q2⟩ => ?_⟩
  subst hx
  cases d2
  obtain ⟨f0, dx, fs, k1, k2, k3, k4, k5⟩ := c2.chg a _ hM
  subst k4
  obtain ⟨z1, z2⟩ := putF_mem (dv.mono e2) q1 k5
  exact ⟨a, C, dx, fs, rfl, k1, hc, hn, by simpa using hl, hR F2 σ _ Γ _ e2 (he.mono e2) (c2.setI hM k1 z1 z2) q2⟩⟩
/-- a, b, .. = a list that stays -/
theorem wg_lst {ts : List Expr} {n : Nat} {ds : List D} {Q : G → MM → Prop} (h : WGs X ts ds Γ M Q) (hn : (assignEach ts X.env).length = ds.length := by rfl) (hst : (assignEach ts X.env).findIdx? (·.1) = none := by rfl) (hcm : X.calm = true := by rfl) : WG X (.Tuple ts n pos) (.lst ds) Γ M Q := ⟨fun F σ H v he hc dv R hR => by
  cases dv with
  | @lst a xs _ k1 k2 =>
    exact ⟨_, pg_unl hcm pgs_wp hn hst, a, xs, rfl, SqL.of (hc.sub _ _ k1), k2.length, h.run F σ H xs he hc k2 R hR⟩⟩
/-- C(e, ..), C a class whose __init__ takes *rows -/
theorem pe_makeG {CX : CXT} {C f : Addr} {x : Str} {sp : Sp} {E : XK} {e : Expr} {es : List Expr} {t : TA} (Mm : Mk X.K C f) (F : FnR X.prog X.w X.K X.mg X.base CX k f sp) (hr : Room (k + 1) X.A) (hx : Passes CX X E) (hg : Gl X x) (hm : X.mg x = some (.ref C))
    (ha : PA X (e :: es) t) (hdb : (x == ("__debug__" : Str)) = false) (he : starEach (e :: es) X.env = (false, eval e X.env) :: starEach es X.env) (hpl : (backTo pos (starEach es X.env)).any (·.1) = false) :
    PE X (.Call (.Name x p) (e :: es) [] pos) (fun σ H Q => t σ H fun xs H1 => ∀ z dx, H1 z = none → H1 dx = none → dx ≠ z → sp (V.ref z :: xs) (upd (upd H1 dx (.own z)) z (.ins C dx [])) (fun v H2 => v = .non ∧ Q (.ref z) H2) E) := by
  refine ⟨fun pins s σ H Q I h => ?_⟩
  refine wpAny_Call_Name_kw (ld_glob I hg hm ?_ hdb)
  refine PySem.W.callWith_K (h₀ := X.base) I.ok.mod.kin Mm.kp (thn (ha.run pos pins s σ H _ I h) fun us s1 ⟨vs, H1, I1, r, q⟩ => ⟨I1.kIn, ?_⟩) he hpl
  exact StX.run_makeR Mm F hr hx I1 r q
theorem we_makeG {C : Addr} {x : Str} {e : Expr} {es : List Expr} {R : RD} {Q : D → MM → Prop} (c : MakS X.prog X.w X.K X.mg X.base k C R) (hm : X.mg x = some (.ref C)) (hr : Room j X.A) (hk : k + 1 ≤ j)
    (h : WA X (e :: es) Γ M fun ds M1 => ds.length ≤ sizeLine ∧ ∀ a, M1 a = none → R [.raw a, .tup ds] (mupd M1 a (.ins C [] [])) fun d M2 => d = .non ∧ Q (.raw a) M2)
    (hg : Gl X x := by rfl) (hdb : (x == ("__debug__" : Str)) = false := by decide) (he : starEach (e :: es) X.env = (false, eval e X.env) :: starEach es X.env := by rfl) (hpl : (backTo pos (starEach es X.env)).any (·.1) = false := by rfl) :
    WE X (.Call (.Name x p) (e :: es) [] pos) Γ M Q := ⟨fun F σ H ho hc W hR => by
  obtain ⟨f, hmk, G⟩ := c.ex
  refine ⟨_, pe_makeG hmk G (hr.mono hk) (L2.pass0 (X := X)) hg hm pa_wp hdb he hpl, h.run F σ H ho hc _ fun F1 H1 M1 xs ds e1 c1 hxs ⟨hz, h1⟩ => ?_⟩
  intro a dx na nd ne
  have cA : Con X.K F1 M1 (upd H1 dx (.own a)) := c1.newH nd
  have na' : (upd H1 dx (.own a)) a = none := by rw [upd_ne (Ne.symm ne)]; exact na
  have cB : Con X.K F1 M1 (upd (upd H1 dx (.own a)) a (.ins C dx [])) := cA.newH na'
  have hMa : M1 a = none := c1.fresh na
  have cC : Con X.K F1 (mupd M1 a (.ins C [] [])) (upd (upd H1 dx (.own a)) a (.ins C dx [])) := by
    refine ⟨cB.sub, fun b m e => ?_, cB.ntb, one_mupd cB.one fun _ z => by cases z⟩
    by_cases hb : b = a
    · subst hb
      rw [mupd_same] at e
      cases e
      exact ⟨c1.sub.free na, dx, [], upd_same, by rw [upd_ne ne]; exact upd_same, c1.sub.free nd, rfl, .nil⟩
    · rw [mupd_ne hb] at e
      exact cB.chg b m e
  refine ⟨_, xs, rfl, by rw [hxs.length]; exact hz, fun q hq => ?_⟩
  have sq := same_new (o := .tup xs) (cC.sub.free hq)
  refine ⟨upd F1 q (.tup xs), [.raw a, .tup ds], _, _, cC.new hq, .cons (.raw a) (.cons (.tup (.inl (.inl upd_same)) (hxs.mono sq)) .nil), h1 a hMa, fun F2 H2 M2 v d e2 c2 d2 ⟨hd, q⟩ => ?_⟩
  subst hd
  cases d2
  exact ⟨rfl, hR F2 H2 M2 _ _ ((e1.trans sq).trans e2) c2 (.raw a) q⟩⟩
end
end DL

set_option Elab.async false
set_option linter.all false
set_option autoImplicit false
set_option maxRecDepth 100000
set_option maxHeartbeats 4000000
namespace DL
open PySem L2 PySem.Spec PyProof.Rows
/-! instances with __eq__, __repr__, __str__, __bool__ of their own; f-strings -/
section
variable {X : Cx} {CX : CXT} {k : Nat} {C f : Addr} {fd : FuncData} {ps : List Str} {sp : Sp} {E : XK}
/-- what type(y) is: a builtin type, or the class of an instance -/
def TyO (K : PySem.W.Frag) (H : Hp) (y : V) (tb : Value) : Prop := (∃ T, tb = .type T ∧ TyB K H y T) ∨ ∃ b dy gs C', tb = .ref C' ∧ y = .ref b ∧ H b = some (.ins C' dy gs)
theorem TyO.looks {M : Model} {pins : List (Addr × Obj)} {σ : L2.St} {H : Hp} {s : Shared} {y : V} {u tb : Value} (I : Inv X pins σ H s) (ry : RelV y u) (t : TyO X.K H y tb) : PySem.W.Looks M s.heap (typeOf u) tb := by
  rcases t with ⟨T, rfl, t⟩ | ⟨b, dy, gs, C', rfl, rfl, hb⟩
  · have h := t.is I ry
    intro A Q E s' k q
    cases u with
    | ref a =>
      obtain ⟨o, ho, hc⟩ := h
      exact wpAny_typeOf_ref (k _ _ ho) (by rw [hc]; exact q)
    | _ => exact wpAny_typeOf (s := s') (by exact h) q
  · cases ry
    obtain ⟨mB, J', _⟩ := ins_get I.hok hb
    obtain ⟨od', J', _⟩ := J'.look
    exact J'.type
/-- x == y, x an instance of the class at C with an __eq__ of its own -/
def rEqI (K : PySem.W.Frag) (C : Addr) (sp : Sp) (E : XK) : R2 := fun x y H Q => ∃ a dx fs tb, x = .ref a ∧ H a = some (.ins C dx fs) ∧ TyO K H y tb ∧ PySem.W.notFirst K C tb = true ∧ sp [x, y] H Q E
theorem op_eqI (hs : PySem.W.findIn X.K (.ref C) "__eq__" = some (some (.ref f))) (hf : PySem.W.isFn X.K (.ref f) = true) (F : FnOk X.prog X.w X.K X.mg X.base CX k f fd ps sp)
    (hr : Room k X.A) (hb : Binds X.K fd ps []) (hx : Passes CX X E) : OpR X (compareOp .Eq) (rEqI X.K C sp E) := by
  intro pins s σ H x y v u Q I rx ry h
  obtain ⟨a, dx, fs, tb, rfl, ha, ty, hn, q⟩ := h
  obtain rfl : v = Value.ref a := rx
  obtain ⟨mA, J, _⟩ := ins_get I.hok ha
  obtain ⟨od, J, _⟩ := J.look
  obtain ⟨m, hF⟩ := I.fr
  show wpAny (model X.prog X.w) X.A (richCompare .Eq (.ref a) u) (EP X pins σ Q) X.xe s
  refine PySem.W.cmp_K (op := .Eq) (tb := tb) hr.units0 hF I.ok.mod.kin J (ty.looks I ry) hn hs hf ?_
  refine wpAny_mono (run_fn (us := [.ref a, u]) (vs := [.ref a, y]) F hr hb .nil hx I (.cons rfl (.cons ry .nil)) q) (fun w s' z => ?_) fun _ _ x => x
  obtain ⟨z', H', I', rz, qz⟩ := z
  exact SlX.cmpback rz ⟨z', H', I', rz, qz⟩
/-- repr(o), by its own __repr__ -/
theorem call_reprOwn (hs : PySem.W.findIn X.K (.ref C) "__repr__" = some (some (.ref f))) (hf : PySem.W.isFn X.K (.ref f) = true) (F : FnOk X.prog X.w X.K X.mg X.base CX k f fd ps sp) (hr : Room (k + 1) X.A) (hb : Binds X.K fd ps []) (hx : Passes CX X E) :
    CallR X (.builtin "repr") (fun xs H Q => ∃ a dx fs, xs = [.ref a] ∧ H a = some (.ins C dx fs) ∧ sp [.ref a] H (fun v H' => ∃ x : Str, v = .str x ∧ Q (.str x) H') E) := by
  intro pins s σ H xs us Q I r h
  obtain ⟨a, dx, fs, rfl, ea, q⟩ := h
  obtain ⟨u, rfl, ru⟩ := vals1 r
  obtain rfl : u = Value.ref a := ru
  obtain ⟨mA, O, _, _, _, _⟩ := ins_get I.hok ea
  obtain ⟨od, J, _⟩ := O.look
  have hl : ([Value.ref a] ++ []).length = ps.length := (F.len _ _ _ _ q).symm ▸ rfl
  have run : wpAny (model X.prog X.w) X.A.in1 (call (.ref f) [.ref a]) (EP X pins σ fun v H' => ∃ x : Str, v = .str x ∧ Q (.str x) H') X.xe s := by
    refine wpAny_call (codeAny_mono (F.run X.A.in1 X.stack s H ⟨[.ref a], []⟩ [.ref a] [.ref a] _ E hr.in1 I.env0.in1 (hb s [.ref a] I.kIn hl) (.cons rfl .nil) q) fun r s' hq => ?_)
    cases r with
    | error er => exact hx pins σ H s er s' I hq
    | ok fl =>
      cases fl with
      | ret u => exact I.after hq
      | next => exact False.elim hq
      | brk => exact False.elim hq
      | cont => exact False.elim hq
  refine Calls.call_function_entry PySem.F.kind_repr PySem.F.plain_repr PySem.F.entry_repr (PySem.F.args_repr1 _) ?_
  unfold Builtin.«repr»
  refine wpAny_bind (m := oneArg "repr" _) (wpAny_pure ?_)
  refine wpAny_bind (m := cRoomFor _ _) (wpAny_cRoomFor (by have := hr.un; show X.A.units + 1 < cLine; omega) ?_)
  refine wpAny_bind (wpAny_bind (J.type.here ((PySem.W.looks_findIn I.kIn hs).here ?_)))
  refine wpAny_bind (m := callSpecialIfBound? (.ref a) (Str.ofString "__repr__")) (PySem.W.ifBound_K I.kIn J hs hf (wpAny_mono run (fun r s₁ h₁ => ?_) fun _ _ e => e))
  obtain ⟨v, H', I3, rv, x, rfl, q3⟩ := h₁
  obtain ⟨t, rfl⟩ := rv
  refine wpAny_bind (wpAny_isInstance (T := "str") (b := true) rfl isSubtype_str_str ?_)
  exact wpAny_pure ⟨_, rfl, .str x, H', I3, ⟨_, rfl⟩, q3⟩

section
variable {prog : Program} {w : World} {A : Around} {E : Value → Shared → Prop} {s : Shared} {K : PySem.W.Frag} {x C f : Addr} {ox : Obj} {od : Option Obj}
/-- str(o), at the model's level -/
theorem str_own {Q : Value → Shared → Prop} (hu : A.units + 2 < cLine) (X : K.In s.heap) (I : PySem.W.InstAt s.heap x ox C od) (hs : PySem.W.findIn K (.ref C) "__str__" = some (some (.ref f))) (hf : PySem.W.isFn K (.ref f) = true)
    (h : wpAny (model prog w) A.in1.in1 (call (.ref f) [.ref x]) (fun r s₁ => ∃ n u, r = Value.str n u ∧ Q r s₁) E s) : wpAny (model prog w) A (call (.type "str") [.ref x]) Q E s := by
  refine callType_codes (T := "str") (Bi := Builtin.«object.__init__») (Q₁ := fun r s₁ => ∃ n u, r = Value.str n u ∧ Q r s₁) PySem.F.called_str (PySem.F.typeCall_str_1 _) PySem.F.entry_object_init ?_ ?_
  · refine codeAny_of_tree ?_
    show wpAny _ A.in1.in1 (do checkBuiltinCall "str.__new__" ⟨[.type "str", .ref x], []⟩; again (.builtin "str.__new__" ⟨[.type "str", .ref x], []⟩)) _ _ s
    refine wpAny_bind (wpAny_of_eq (PySem.F.newCall_str_1 _) (wpAny_pure ⟨plainId_quiet (by decide +kernel) _, codeAny_builtin PySem.F.entry_str_new ?_⟩))
    rw [Around.under_plainId (by decide +kernel) _]
    rw [PySem.str_new_tree]
    refine wpAny_bind (wpAny_pure ?_)
    refine wpAny_bind (wpAny_of_eq isSubtype_str_str ?_)
    refine wpAny_bind (m := Builtin.Str.strOf (.ref x)) ?_
    unfold Builtin.Str.strOf
    refine PySem.W.KFB.if_not rfl ?_
    refine wpAny_bind (m := cRoomFor _ _) (wpAny_cRoomFor (by show A.units + 1 + 1 < cLine; omega) ?_)
    refine wpAny_bind (m := callSpecial? (.ref x) (Str.ofString "__str__")) (PySem.W.special_fn X I hs (beq_iff_eq.mp hf) (wpAny_mono h (fun r s₁ hr => ?_) fun _ _ y => y))
    obtain ⟨n, u, rfl, hq⟩ := hr
    exact wpAny_pure (wpAny_pure ⟨n, u, rfl, hq⟩)
  · rintro obj s₁ ⟨n, u, rfl, hq⟩
    exact ⟨typeIs_str _ _ _, PySem.F.args_object_init_2 _ _, object_init_meets PySem.F.called_str.init.lookup PySem.F.called_str.made (by decide) prog w A.in1 _ s₁ ⟨typeIs_str _ _ _, rfl, hq⟩⟩
/-- bool(o) -/
theorem bool_own {Q : Value → Shared → Prop} (X : K.In s.heap) (I : PySem.W.InstAt s.heap x ox C od) (hs : PySem.W.findIn K (.ref C) "__bool__" = some (some (.ref f))) (hf : PySem.W.isFn K (.ref f) = true)
    (h : wpAny (model prog w) A.in1.in1 (call (.ref f) [.ref x]) (fun r s₁ => ∃ n, r = Value.bool n ∧ Q r s₁) E s) : wpAny (model prog w) A (call (.type "bool") [.ref x]) Q E s := by
  refine callType_codes (T := "bool") (Bi := Builtin.«object.__init__») (Q₁ := fun r s₁ => ∃ n, r = Value.bool n ∧ Q r s₁) PySem.F.called_bool (PySem.F.typeCall_bool_1 _) PySem.F.entry_object_init ?_ ?_
  · refine codeAny_of_tree ?_
    show wpAny _ A.in1.in1 (do checkBuiltinCall "bool.__new__" ⟨[.type "bool", .ref x], []⟩; again (.builtin "bool.__new__" ⟨[.type "bool", .ref x], []⟩)) _ _ s
    refine wpAny_bind (wpAny_of_eq (PySem.F.newCall_bool_1 _) (wpAny_pure ⟨plainId_quiet (by decide +kernel) _, codeAny_builtin PySem.F.entry_bool_new ?_⟩))
    rw [Around.under_plainId (by decide +kernel) _]
    unfold Builtin.«bool.__new__»
    refine wpAny_bind (wpAny_of_eq (a := true) rfl ?_)
    refine PySem.W.KFB.if_not rfl ?_
    refine wpAny_bind (wpAny_of_eq (a := true) PySem.F.conv_sub_bool ?_)
    refine PySem.W.KFB.if_not rfl ?_
    refine wpAny_bind (wpAny_of_eq (a := [Value.ref x]) rfl ?_)
    refine wpAny_bind (m := truthy (.ref x)) ?_
    unfold truthy
    refine wpAny_bind (m := callSpecial? (.ref x) (Str.ofString "__bool__")) (PySem.W.special_fn X I hs (beq_iff_eq.mp hf) (wpAny_mono h (fun r s₁ hr => ?_) fun _ _ y => y))
    obtain ⟨n, rfl, hq⟩ := hr
    exact wpAny_pure (wpAny_pure ⟨n, rfl, hq⟩)
  · rintro obj s₁ ⟨n, rfl, hq⟩
    exact ⟨rfl, PySem.F.args_object_init_2 _ _, object_init_meets PySem.F.called_bool.init.lookup PySem.F.called_bool.made (by decide) prog w A.in1 _ s₁ ⟨rfl, rfl, hq⟩⟩
theorem ifBound_objNe {M : Model} {args : List Value} {Q : Option Value → Shared → Prop} (X : K.In s.heap) (I : PySem.W.InstAt s.heap x ox C od) (hs : PySem.W.findIn K (.ref C) "__ne__" = some (some (.builtin "object.__ne__")))
    (h : wpAny M A (call (.builtin "object.__ne__") (.ref x :: args)) (fun v => Q (some v)) E s) : wpAny M A (callSpecialIfBound? (.ref x) "__ne__" args) Q E s := by
  simp only [callSpecialIfBound?, bindSpecialIfBound?]
  refine wpAny_holding (wpAny_bind (wpAny_bind (wpAny_bind (I.type.here ((PySem.W.looks_findIn X hs).here ?_)))))
  refine wpAny_bind (wpAny_askSetting (wpAny_ite ?_))
  have fin : wpAny M A (call (.builtin "object.__ne__") ([.ref x] ++ args) >>= fun v => pure (some v)) Q E s := wpAny_bind (wpAny_mono h (fun v s' h' => wpAny_pure h') fun _ _ h' => h')
  split
  · exact wpAny_bind (wpAny_of_eq (PySem.F.cmp_object.ne.bind _) (wpAny_pure (by exact fin)))
  · exact wpAny_tryCatch (wpAny_bind (wpAny_of_eq (PySem.F.cmp_object.ne.bind _) (wpAny_pure (by exact fin))))
/-- x != y, x an instance with an __eq__ of its own and no __ne__ -/
theorem ne_own {Q : Value → Shared → Prop} {y tb : Value} (hu : A.units + 1 < cLine) (X : K.In s.heap) (I : PySem.W.InstAt s.heap x ox C od) (hb : PySem.W.Looks (model prog w) s.heap (typeOf y) tb) (hn : PySem.W.notFirst K C tb = true)
    (hm : PySem.W.mroIn K C (.type "object") = some true) (hne : PySem.W.findIn K (.ref C) "__ne__" = some (some (.builtin "object.__ne__"))) (hs : PySem.W.findIn K (.ref C) "__eq__" = some (some (.ref f))) (hf : PySem.W.isFn K (.ref f) = true)
    (h : wpAny (model prog w) A.in1 (call (.ref f) [.ref x, y]) (fun r s₁ => ∃ n, r = Value.bool n ∧ Q (.bool (!n)) s₁) E s) : wpAny (model prog w) A (richCompare .NotEq (.ref x) y) Q E s := by
  have body : wpAny (model prog w) A.in1 (Builtin.«object.__ne__» ⟨[.ref x, y], []⟩) (fun r s₁ => ∃ v, r = .done (.ret v) ∧ ∃ n, v = Value.bool n ∧ Q v s₁) E s := by
    unfold Builtin.«object.__ne__»
    refine wpAny_bind (wpAny_of_eq (a := (Value.ref x, [y])) rfl ?_)
    refine wpAny_bind (m := cRoomFor _ _) (wpAny_cRoomFor (by show A.units + 1 < cLine; exact hu) ?_)
    refine wpAny_bind (m := callSpecialIfBound? (.ref x) (Str.ofString "__eq__") [y]) (PySem.W.ifBound_K X I hs hf (wpAny_mono h (fun r s₁ hr => ?_) fun _ _ e => e))
    obtain ⟨n, rfl, hq⟩ := hr
    exact wpAny_bind (wpAny_truthy_bool (wpAny_pure ⟨_, rfl, _, rfl, hq⟩))
  have one : wpAny (model prog w) A (tryCompare (.ref x) "__ne__" y) (fun r s' => ∃ n, r = some (.bool n) ∧ Q (.bool n) s') E s := by
    unfold tryCompare
    refine wpAny_bind (ifBound_objNe X I hne (wpAny_call (codeAny_call_builtin PySem.F.cmp_object.ne.plain PySem.F.cmpEntry_ne (PySem.W.check_slot PySem.F.cmpKind_ne PySem.F.cmpSplit_ne (I.type.andThen (PySem.W.looks_mroIn X hm)) (PySem.F.cmpArgs_ne _ _) (wpAny_mono body (fun r s₁ hr => ?_) fun _ _ e => e)))))
    obtain ⟨v, rfl, n, rfl, hq⟩ := hr
    exact wpAny_pure ⟨n, rfl, hq⟩
  unfold richCompare
  simp only [oneThing_ref]
  refine wpAny_holding (wpAny_bind (wpAny_cRoomFor (by omega) ?_))
  refine wpAny_bind (I.type.here (wpAny_bind (hb.here ?_)))
  split
  · rename_i q
    have e : PySem.W.subIn K tb (.ref C) = some false := by
      rcases Bool.or_eq_true_iff.mp hn with e | e
      · rw [beq_iff_eq.mp e] at q; simp at q
      · exact beq_iff_eq.mp e
    refine wpAny_bind ((PySem.W.looks_subIn X e).here ?_)
    simp only [Bool.false_eq_true, if_false]
    refine wpAny_bind (wpAny_mono one (fun r s' z => ?_) fun _ _ e => e)
    obtain ⟨v, rfl, hq⟩ := z
    exact wpAny_pure hq
  · refine wpAny_bind (wpAny_pure ?_)
    simp only [Bool.false_eq_true, if_false]
    refine wpAny_bind (wpAny_mono one (fun r s' z => ?_) fun _ _ e => e)
    obtain ⟨v, rfl, hq⟩ := z
    exact wpAny_pure hq
end
end
end DL

set_option Elab.async false
set_option linter.all false
set_option autoImplicit false
set_option maxRecDepth 100000
set_option maxHeartbeats 4000000
namespace DL
open PySem L2 PySem.Spec PyProof.Rows
/-! own __eq__, __repr__, __str__, __bool__ over data; f-strings over data -/
theorem sub_bt {K : PySem.W.Frag} {C : Addr} {d : D} {T : String} (h : tyD d = some T) : PySem.W.subIn K (.type T) (.ref C) = some false := by
  have key : ∀ (T : String) (l : List Value), fastBuiltinMro T = some l → l.contains (.ref C) = false → PySem.W.subIn K (.type T) (.ref C) = some false := fun T l e1 e2 => by
    show (fastBuiltinMro T).map (·.contains (.ref C)) = some false
    rw [e1]
    show some (l.contains (.ref C)) = some false
    rw [e2]
  cases d <;> cases h
  · exact key "NoneType" [.type "NoneType", .type "object"] (by decide +kernel) (by first | rfl | simp)
  · exact key "bool" [.type "bool", .type "int", .type "object"] (by decide +kernel) (by first | rfl | simp)
  · exact key "int" [.type "int", .type "object"] (by decide +kernel) (by first | rfl | simp)
  · exact key "str" [.type "str", .type "object"] (by decide +kernel) (by first | rfl | simp)
  · exact key "list" [.type "list", .type "object"] (by decide +kernel) (by first | rfl | simp)
  · exact key "tuple" [.type "tuple", .type "object"] (by decide +kernel) (by first | rfl | simp)
  · exact key "list" [.type "list", .type "object"] (by decide +kernel) (by first | rfl | simp)
  · exact key "dict" [.type "dict", .type "object"] (by decide +kernel) (by first | rfl | simp)
/-- an instance of C, or of a builtin type -/
def TyC (M : MM) (C : Addr) : D → Prop
  | .raw a => ∃ ns ds, M a = some (.ins C ns ds)
  | .ins C' _ _ => C' = C
  | .pin _ _ => False
  | .exc _ _ _ => False
  | .xcp _ _ _ _ => False
  | _ => True
theorem notFirst_self {K : PySem.W.Frag} {C : Addr} : PySem.W.notFirst K C (.ref C) = true := by simp [PySem.W.notFirst]
theorem TyC.at {K : PySem.W.Frag} {F H : Hp} {M : MM} {C : Addr} {v : V} {d : D} (c : Con K F M H) (dv : Dn K F v d) (h : TyC M C d) : ∃ tb, TyO K H v tb ∧ PySem.W.notFirst K C tb = true := by
  have bt : ∀ T, tyD d = some T → ∃ tb, TyO K H v tb ∧ PySem.W.notFirst K C tb = true := fun T e => ⟨_, .inl ⟨T, rfl, tyD_of c.sub dv e⟩, by
    unfold PySem.W.notFirst
    rw [sub_bt e]
    simp⟩
  cases dv with
  | raw a =>
    obtain ⟨ns, ds, hM⟩ := h
    obtain ⟨_, dx, fs, h1, _⟩ := c.chg a _ hM
    exact ⟨_, .inr ⟨a, dx, fs, C, rfl, rfl, h1⟩, notFirst_self⟩
  | @ins a C' dx fs ns ds h1 h2 h3 =>
    have e : C' = C := h
    subst e
    exact ⟨_, .inr ⟨a, dx, fs, _, rfl, rfl, c.sub _ _ h1⟩, notFirst_self⟩
  | pin _ _ _ => exact h.elim
  | exc _ _ _ _ => exact h.elim
  | xcp _ _ _ => exact h.elim
  | _ => exact bt _ rfl
section
variable {X : Cx} {CX : CXT} {k : Nat} {C f : Addr} {fd : FuncData} {ps : List Str} {sp : Sp} {E : XK}
theorem run_own {A : Around} {pins : List (Addr × Obj)} {σ : L2.St} {H : Hp} {s : Shared} {Q : VK} {us : List Value} {vs : List V} (F : FnOk X.prog X.w X.K X.mg X.base CX k f fd ps sp) (hr : Room k A) (e0 : Env0 X.prog X.w X.K X.mg X.base A X.stack s H) (hb : Binds X.K fd ps []) (hx : Passes CX X E)
    (I : Inv X pins σ H s) (r : Vals vs us) (h : sp vs H Q E) : wpAny (model X.prog X.w) A (call (.ref f) us) (EP X pins σ Q) X.xe s := by
  have hl : (us ++ []).length = ps.length := by rw [List.append_nil, ← r.length]; exact F.len _ _ _ _ h
  refine wpAny_call (codeAny_mono (F.run A X.stack s H ⟨us, []⟩ (us ++ []) vs Q E hr e0 (hb s us I.kIn hl) (by rw [List.append_nil]; exact r) h) fun r s' hq => ?_)
  cases r with
  | error er => exact hx pins σ H s er s' I hq
  | ok fl =>
    cases fl with
    | ret u => exact I.after hq
    | next => exact False.elim hq
    | brk => exact False.elim hq
    | cont => exact False.elim hq
/-- no __ne__ of its own -/
structure NeOf (K : PySem.W.Frag) (C : Addr) : Prop where
  ne : PySem.W.findIn K (.ref C) "__ne__" = some (some (.builtin "object.__ne__"))
  ob : PySem.W.mroIn K C (.type "object") = some true
def rNeI (K : PySem.W.Frag) (C : Addr) (sp : Sp) (E : XK) : R2 := fun x y H Q => ∃ a dx fs tb, x = .ref a ∧ H a = some (.ins C dx fs) ∧ TyO K H y tb ∧ PySem.W.notFirst K C tb = true ∧ sp [x, y] H (fun v H' => ∃ n, v = .bl n ∧ Q (.bl (!n)) H') E
theorem op_neI (hn : NeOf X.K C) (hs : PySem.W.findIn X.K (.ref C) "__eq__" = some (some (.ref f))) (hf : PySem.W.isFn X.K (.ref f) = true) (F : FnOk X.prog X.w X.K X.mg X.base CX k f fd ps sp)
    (hr : Room (k + 1) X.A) (hb : Binds X.K fd ps []) (hx : Passes CX X E) : OpR X (compareOp .NotEq) (rNeI X.K C sp E) := by
  intro pins s σ H x y v u Q I rx ry h
  obtain ⟨a, dx, fs, tb, rfl, ha, ty, hnf, q⟩ := h
  obtain rfl : v = Value.ref a := rx
  obtain ⟨mA, J, _⟩ := ins_get I.hok ha
  obtain ⟨od, J, _⟩ := J.look
  show wpAny (model X.prog X.w) X.A (richCompare .NotEq (.ref a) u) (EP X pins σ Q) X.xe s
  refine ne_own (by have := hr.un; omega) I.kIn J (ty.looks I ry) hnf hn.ob hn.ne hs hf ?_
  refine wpAny_mono (run_own (us := [.ref a, u]) (vs := [.ref a, y]) F hr.in1 I.env0.in1 hb hx I (.cons rfl (.cons ry .nil)) q) (fun w s' z => ?_) fun _ _ x => x
  obtain ⟨z', H', I', rz, n, rfl, qz⟩ := z
  obtain rfl : w = Value.bool n := rz
  exact ⟨n, rfl, .bl (!n), H', I', rfl, qz⟩
theorem call_strOwn (hs : PySem.W.findIn X.K (.ref C) "__str__" = some (some (.ref f))) (hf : PySem.W.isFn X.K (.ref f) = true) (F : FnOk X.prog X.w X.K X.mg X.base CX k f fd ps sp) (hr : Room (k + 2) X.A) (hb : Binds X.K fd ps []) (hx : Passes CX X E) :
    CallR X (.type "str") (fun xs H Q => ∃ a dx fs, xs = [.ref a] ∧ H a = some (.ins C dx fs) ∧ sp [.ref a] H (fun v H' => ∃ x : Str, v = .str x ∧ Q (.str x) H') E) := by
  intro pins s σ H xs us Q I r h
  obtain ⟨a, dx, fs, rfl, ea, q⟩ := h
  obtain ⟨u, rfl, ru⟩ := vals1 r
  obtain rfl : u = Value.ref a := ru
  obtain ⟨mA, O, _, _, _, _⟩ := ins_get I.hok ea
  obtain ⟨od, J, _⟩ := O.look
  have hr2 : Room k X.A.in1.in1 := (show Room (k + 1) X.A.in1 from Room.in1 hr).in1
  refine str_own (by have := hr.un; omega) I.kIn J hs hf ?_
  refine wpAny_mono (run_own (us := [.ref a]) (vs := [.ref a]) F hr2 I.env0.in1.in1 hb hx I (.cons rfl .nil) q) (fun w s' z => ?_) fun _ _ x => x
  obtain ⟨z', H', I', rz, x, rfl, qz⟩ := z
  obtain ⟨t, rfl⟩ := rz
  exact ⟨x, t, rfl, .str x, H', I', ⟨t, rfl⟩, qz⟩
theorem call_boolOwn (hs : PySem.W.findIn X.K (.ref C) "__bool__" = some (some (.ref f))) (hf : PySem.W.isFn X.K (.ref f) = true) (F : FnOk X.prog X.w X.K X.mg X.base CX k f fd ps sp) (hr : Room (k + 2) X.A) (hb : Binds X.K fd ps []) (hx : Passes CX X E) :
    CallR X (.type "bool") (fun xs H Q => ∃ a dx fs, xs = [.ref a] ∧ H a = some (.ins C dx fs) ∧ sp [.ref a] H (fun v H' => ∃ n : Bool, v = .bl n ∧ Q (.bl n) H') E) := by
  intro pins s σ H xs us Q I r h
  obtain ⟨a, dx, fs, rfl, ea, q⟩ := h
  obtain ⟨u, rfl, ru⟩ := vals1 r
  obtain rfl : u = Value.ref a := ru
  obtain ⟨mA, O, _, _, _, _⟩ := ins_get I.hok ea
  obtain ⟨od, J, _⟩ := O.look
  have hr2 : Room k X.A.in1.in1 := (show Room (k + 1) X.A.in1 from Room.in1 hr).in1
  refine bool_own I.kIn J hs hf ?_
  refine wpAny_mono (run_own (us := [.ref a]) (vs := [.ref a]) F hr2 I.env0.in1.in1 hb hx I (.cons rfl .nil) q) (fun w s' z => ?_) fun _ _ x => x
  obtain ⟨z', H', I', rz, n, rfl, qz⟩ := z
  obtain rfl : w = Value.bool n := rz
  exact ⟨n, rfl, .bl n, H', I', rfl, qz⟩
end
section
variable {X : Cx} {Γ : G} {M : MM} {pos p : Pos} {k j : Nat} {C : Addr} {R : RD}
theorem we_eqI {a b : Expr} {Q : D → MM → Prop} (c : Met X.prog X.w X.K X.mg X.base k C "__eq__" R) (hr : Room j X.A) (hk : k ≤ j)
    (h : WE X a Γ M fun x M1 => WE X b Γ M1 fun y M2 => InsOf M2 C "__eq__" x ∧ TyC M2 C y ∧ R [x, y] M2 Q) : WE X (.Compare a [.Eq] [b] pos) Γ M Q := by
  obtain ⟨f, fd, ps, hcl, hm, G, b'⟩ := c.ex
  refine we_cmpR (S := fun x y M Q => InsOf M C "__eq__" x ∧ TyC M C y ∧ R [x, y] M Q) (op_eqI hm.at_ hm.fn G (hr.mono hk) b' (L2.pass0 (X := X))) (fun x y M2 hs => ?_) (nomark _) h
  intro F H v u cc dx dy W hW
  obtain ⟨hi, ht, q⟩ := hs
  obtain ⟨a1, dx1, fs, rfl, ha, _⟩ := hi.at cc dx
  obtain ⟨tb, t1, t2⟩ := ht.at cc dy
  exact ⟨a1, dx1, fs, tb, rfl, ha, t1, t2, F, [x, y], M2, _, cc, .cons dx (.cons dy .nil), q, fun F' H' M' v d e c' d' q => hW F' H' M' v d e c' d' q⟩
theorem we_neI {a b : Expr} {Q : D → MM → Prop} (c : Met X.prog X.w X.K X.mg X.base k C "__eq__" R) (hn : NeOf X.K C) (hr : Room j X.A) (hk : k + 1 ≤ j)
    (h : WE X a Γ M fun x M1 => WE X b Γ M1 fun y M2 => InsOf M2 C "__eq__" x ∧ TyC M2 C y ∧ R [x, y] M2 fun d M3 => ∃ n, d = .bl n ∧ Q (.bl (!n)) M3) : WE X (.Compare a [.NotEq] [b] pos) Γ M Q := by
  obtain ⟨f, fd, ps, hcl, hm, G, b'⟩ := c.ex
  refine we_cmpR (S := fun x y M Q => InsOf M C "__eq__" x ∧ TyC M C y ∧ R [x, y] M fun d M3 => ∃ n, d = .bl n ∧ Q (.bl (!n)) M3) (op_neI hn hm.at_ hm.fn G (hr.mono hk) b' (L2.pass0 (X := X))) (fun x y M2 hs => ?_) (nomark _) h
  intro F H v u cc dx dy W hW
  obtain ⟨hi, ht, q⟩ := hs
  obtain ⟨a1, dx1, fs, rfl, ha, _⟩ := hi.at cc dx
  obtain ⟨tb, t1, t2⟩ := ht.at cc dy
  refine ⟨a1, dx1, fs, tb, rfl, ha, t1, t2, F, [x, y], M2, _, cc, .cons dx (.cons dy .nil), q, fun F' H' M' v d e c' d' ⟨n, e1, q⟩ => ?_⟩
  subst e1
  cases d'
  exact ⟨n, rfl, hW F' H' M' _ _ e c' (.bl _) q⟩
theorem we_reprI {e : Expr} {Q : D → MM → Prop} (c : Met X.prog X.w X.K X.mg X.base k C "__repr__" R) (hr : Room j X.A) (hk : k + 1 ≤ j) (hm : X.mg "repr" = none)
    (h : WE X e Γ M fun x M1 => InsOf M1 C "__repr__" x ∧ R [x] M1 fun d M2 => ∃ n : Str, d = .str n ∧ Q (.str n) M2) (hst : starEach [e] X.env = [(false, eval e X.env)] := by rfl) (hg : Gl X "repr" := by rfl) : WE X (.Call (.Name "repr" p) [e] [] pos) Γ M Q := ⟨fun F σ H he hc W hR => by
  obtain ⟨f, fd, ps, hcl, hmt, G, b⟩ := c.ex
  refine ⟨_, pe_callB (call_reprOwn hmt.at_ hmt.fn G (hr.mono hk) b (L2.pass0 (X := X))) hg hm (by decide +kernel) (pa_cons pe_wp pa_nil hst) (by decide) (by decide) hst, h.run F σ H he hc _ fun F1 H1 M1 v x e1 c1 d1 ⟨hi, h1⟩ => ?_⟩
  obtain ⟨a, dx, fs, rfl, ha, hl⟩ := hi.at c1 d1
  refine ⟨a, dx, fs, rfl, ha, F1, [x], M1, _, c1, .cons d1 .nil, h1, fun F3 H3 M3 v d e3 c3 d3 ⟨n, e, q⟩ => ?_⟩
  subst e
  cases d3
  exact ⟨n, rfl, hR F3 H3 M3 _ _ (e1.trans e3) c3 (.str n) q⟩⟩
theorem we_strI {e : Expr} {Q : D → MM → Prop} (c : Met X.prog X.w X.K X.mg X.base k C "__str__" R) (hr : Room j X.A) (hk : k + 2 ≤ j) (hm : X.mg "str" = none)
    (h : WE X e Γ M fun x M1 => InsOf M1 C "__str__" x ∧ R [x] M1 fun d M2 => ∃ n : Str, d = .str n ∧ Q (.str n) M2) (hst : starEach [e] X.env = [(false, eval e X.env)] := by rfl) (hg : Gl X "str" := by rfl) : WE X (.Call (.Name "str" p) [e] [] pos) Γ M Q := ⟨fun F σ H he hc W hR => by
  obtain ⟨f, fd, ps, hcl, hmt, G, b⟩ := c.ex
  refine ⟨_, pe_callTy (call_strOwn hmt.at_ hmt.fn G (hr.mono hk) b (L2.pass0 (X := X))) hg hm (by decide +kernel) (pa_cons pe_wp pa_nil hst) (by decide) (by decide) hst, h.run F σ H he hc _ fun F1 H1 M1 v x e1 c1 d1 ⟨hi, h1⟩ => ?_⟩
  obtain ⟨a, dx, fs, rfl, ha, hl⟩ := hi.at c1 d1
  refine ⟨a, dx, fs, rfl, ha, F1, [x], M1, _, c1, .cons d1 .nil, h1, fun F3 H3 M3 v d e3 c3 d3 ⟨n, e, q⟩ => ?_⟩
  subst e
  cases d3
  exact ⟨n, rfl, hR F3 H3 M3 _ _ (e1.trans e3) c3 (.str n) q⟩⟩
theorem we_boolI {e : Expr} {Q : D → MM → Prop} (c : Met X.prog X.w X.K X.mg X.base k C "__bool__" R) (hr : Room j X.A) (hk : k + 2 ≤ j) (hm : X.mg "bool" = none)
    (h : WE X e Γ M fun x M1 => InsOf M1 C "__bool__" x ∧ R [x] M1 fun d M2 => ∃ n : Bool, d = .bl n ∧ Q (.bl n) M2) (hst : starEach [e] X.env = [(false, eval e X.env)] := by rfl) (hg : Gl X "bool" := by rfl) : WE X (.Call (.Name "bool" p) [e] [] pos) Γ M Q := ⟨fun F σ H he hc W hR => by
  obtain ⟨f, fd, ps, hcl, hmt, G, b⟩ := c.ex
  refine ⟨_, pe_callTy (call_boolOwn hmt.at_ hmt.fn G (hr.mono hk) b (L2.pass0 (X := X))) hg hm (by decide +kernel) (pa_cons pe_wp pa_nil hst) (by decide) (by decide) hst, h.run F σ H he hc _ fun F1 H1 M1 v x e1 c1 d1 ⟨hi, h1⟩ => ?_⟩
  obtain ⟨a, dx, fs, rfl, ha, hl⟩ := hi.at c1 d1
  refine ⟨a, dx, fs, rfl, ha, F1, [x], M1, _, c1, .cons d1 .nil, h1, fun F3 H3 M3 v d e3 c3 d3 ⟨n, e, q⟩ => ?_⟩
  subst e
  cases d3
  exact ⟨n, rfl, hR F3 H3 M3 _ _ (e1.trans e3) c3 (.bl n) q⟩⟩
/-- {e} -/
theorem we_fmt {e : Expr} {Q : D → MM → Prop} (h : WE X e Γ M fun d M1 => (∃ y : Str, d = .str y ∧ y.length ≤ sizeLine ∧ Q (.str y) M1) ∨ ∃ i : Int, d = .int i ∧ i.natAbs.log2 < 1920 ∧ Q (.str (toString i : String)) M1) : WE X (.FormattedValue e (-1) none pos) Γ M Q := ⟨fun F σ H he hc W hR => by
  refine ⟨_, pe_fmt pe_wp, h.run F σ H he hc _ fun F1 H1 M1 v x e1 c1 d1 h1 => ?_⟩
  rcases h1 with ⟨y, rfl, z, q⟩ | ⟨i, rfl, z, q⟩
  · cases d1
    exact .inl ⟨y, rfl, z, hR F1 H1 M1 _ _ e1 c1 (.str y) q⟩
  · cases d1
    exact .inr ⟨i, rfl, z, hR F1 H1 M1 _ _ e1 c1 (.str _) q⟩⟩
def wj (X : Cx) (Γ : G) : List Expr → Str → MM → (Str → MM → Prop) → Prop
  | [], acc, M, Q => Q acc M
  | e :: es, acc, M, Q => WE X e Γ M fun d M1 => ∃ y : Str, d = .str y ∧ (acc ++ y).length ≤ sizeLine ∧ wj X Γ es (acc ++ y) M1 Q
theorem pj_wp : ∀ es : List Expr, PJ X es (es.map (wpE X))
  | [] => .nil
  | _ :: es => .cons pe_wp (pj_wp es)
theorem wj_run {F0 : Hp} : ∀ (es : List Expr) (acc : Str) (M : MM) (Q : Str → MM → Prop) (F : Hp) (σ : L2.St) (H : Hp), Same F0 F → EnvOk X.K F Γ σ → Con X.K F M H → wj X Γ es acc M Q → ∀ W : Str → Hp → Prop,
    (∀ F' H' M' out, Same F0 F' → Con X.K F' M' H' → Q out M' → W out H') → tJs (es.map (wpE X)) acc σ H W
  | [], acc, M, Q, F, σ, H, e0, he, hc, h, W, hW => hW F H M acc e0 hc h
  | e :: es, acc, M, Q, F, σ, H, e0, he, hc, h, W, hW => by
    refine (show WE X e Γ M _ from h).run F σ H he hc _ fun F1 H1 M1 v d e1 c1 d1 ⟨y, hy, z, q⟩ => ?_
    subst hy
    cases d1
    exact ⟨y, rfl, z, wj_run es (acc ++ y) M1 Q F1 σ H1 (e0.trans e1) (he.mono e1) c1 q W hW⟩
/-- f'..' of two parts or more -/
theorem we_joined {v1 v2 : Expr} {rest : List Expr} {Q : D → MM → Prop} (h : wj X Γ (v1 :: v2 :: rest) Str.empty M fun out M1 => Q (.str out) M1) : WE X (.JoinedStr (v1 :: v2 :: rest) pos) Γ M Q := ⟨fun F σ H he hc W hR => by
  refine ⟨_, pe_joined (pj_wp _), ?_⟩
  exact wj_run _ _ M _ F σ H (Same.refl F) he hc h _ fun F' H' M' out e c q => hR F' H' M' _ _ e c (.str out) q⟩
end
end DL

set_option Elab.async false
set_option linter.all false
set_option autoImplicit false
set_option maxRecDepth 100000
set_option maxHeartbeats 4000000
namespace DL
open PySem L2 PySem.Spec PyProof.Rows
/-! defs that are called where no repr is under way: repr of lists and tuples -/
section
variable {X : Cx} {Γ : G} {M : MM} {pos p : Pos} {k j : Nat}
theorem call_reprG (hg : X.A.guards = some []) (hu : X.A.units + 200 < cLine) : CallR X (.builtin "repr") (fun xs H Q => ∃ a q, xs = [.ref a] ∧ Dp X.K H (.ref a) q ∧ q.showable = true ∧ q.hasDict = false ∧ q.shown.length ≤ sizeLine ∧ q.depth ≤ 100 ∧ Q (.str q.shown) H) := by
  intro pins s σ H xs us Q I r h
  obtain ⟨a, q, rfl, hd, hs, hn, hz, hp, hq⟩ := h
  obtain ⟨u, rfl, ru⟩ := vals1 r
  obtain rfl : u = Value.ref a := ru
  obtain ⟨as, rd⟩ := Dp.reads I q (.ref a) (.ref a) hd rfl
  refine repr_of_reads' rd hs (fun e => by rw [hn] at e; cases e) hg (by omega) (fun _ _ e => e) (fun h' u tk hk => ?_) hz
  exact ⟨.str q.shown, H, I.kept hk, ⟨u, rfl⟩, hq⟩
/-- repr(e), e a list or a tuple of data -/
theorem we_reprG {e : Expr} {Q : D → MM → Prop} (hgu : X.A.guards = some []) (hr : Room j X.A) (hm : X.mg "repr" = none)
    (h : WE X e Γ M fun x M1 => ∃ ds q, (x = .lst ds ∨ x = .tup ds) ∧ py x = some q ∧ q.showable = true ∧ q.hasDict = false ∧ q.shown.length ≤ sizeLine ∧ q.depth ≤ 100 ∧ Q (.str q.shown) M1)
    (hst : starEach [e] X.env = [(false, eval e X.env)] := by rfl) (hg : Gl X "repr" := by rfl) : WE X (.Call (.Name "repr" p) [e] [] pos) Γ M Q := ⟨fun F σ H he hc W hR => by
  refine ⟨_, pe_callB (call_reprG hgu (by have := hr.un; omega)) hg hm (by decide +kernel) (pa_cons pe_wp pa_nil hst) (by decide) (by decide) hst, h.run F σ H he hc _ fun F1 H1 M1 v x e1 c1 d1 ⟨ds, q, hx, hp, h1, h2, h3, h4, h5⟩ => ?_⟩
  have dp := dp_of c1.sub d1 hp
  have hv : ∃ a, v = .ref a := by rcases hx with rfl | rfl <;> cases d1 <;> exact ⟨_, rfl⟩
  obtain ⟨a, rfl⟩ := hv
  exact ⟨a, q, rfl, dp, h1, h2, h3, h4, hR F1 H1 M1 _ _ e1 c1 (.str _) h5⟩⟩
end
/-- a def's promise where no repr is under way -/
structure FnG (P : Program) (w : World) (K : PySem.W.Frag) (mg : Str → Option Value) (base : Heap) (k : Nat) (f : Addr) (fd : FuncData) (ps : List Str) (sp : Sp) : Prop where
  len : ∀ vs H Q E, sp vs H Q E → vs.length = ps.length
  run : ∀ (A : Around) (outer : List Env) (s : Shared) (H : Hp) (args : Args) (us : List Value) (vs : List V) (Q : VK) (E : XK), A.guards = some [] → Room k A → Env0 P w K mg base A outer s H → BindsTo s fd args (ps.zip us) → Vals vs us → sp vs H Q E →
    codeAny (model P w) A (.call (.ref f) args) (CR CX0 outer P w H s Q E) s
section
variable {P : Program} {w : World} {K : PySem.W.Frag} {mg : Str → Option Value} {base : Heap}
theorem fn_okG {x qual : Str} {st : Stmt} {f : Addr} {fd : FuncData} {N ps : List Str} {k : Nat} {R : RD} (F : Fun K x qual st f fd) (S : FnScope N ps (defScope st)) (len : ∀ ds M Q, R ds M Q → ds.length = ps.length)
    (hbody : ∀ (cdv : Value) (A : Around) (outer : List Env) (s : Shared) (H : Hp) (E : XK), A.guards = some [] → Room k (A.deeper (PyProof.Rows.envOfC qual (defScope st) s.heap.objs.size f cdv)) → ∀ (ds : List D) (M : MM) (Q : D → MM → Prop), R ds M Q →
      WS (cxOf CX0 P w K mg base N qual (defScope st) f cdv A outer s H E).nox (defBody st) (startD N ds) M { nx := fun _ M' => Q .non M', rt := Q }) : FnG P w K mg base (k + 1) f fd ps (SpD K R) := by
  obtain ⟨oc, od, kV, doc, pm, an, cdv, ct, osl, rfl, lk, hcd⟩ := F.ex
  have ln : ∀ vs H Q E, SpD K R vs H Q E → vs.length = ps.length := fun vs H Q E ⟨F, ds, M, Qd, c, d, r, _⟩ => d.length.trans (len ds M Qd r)
  refine ⟨ln, fun A outer s H args us vs Q E hg hr e0 hb r hsp => ?_⟩
  have kept : ∀ b o, base.get? b = some o → s.heap.get? b = some o := fun b o e => (e0.bs b o e).1
  have KX : K.In s.heap := e0.mod.kin.keeps kept
  refine codeAny_call_function hr.depth (KX _ _ lk) rfl S.co S.gen rfl (PySem.W.codeRec_of KX hcd) (hb _ _ _ _ ?_)
  refine wpAny_newFunctionEnv_cells S.kind (fun ⟨n, v⟩ hy => (S.par n (List.of_mem_zip hy).1).imp id fun q => ⟨q, PySem.W.cellsFrom_some _ _ _ (.inl q)⟩) fun env he s1 x => ?_
  subst he
  refine ⟨(e0.mod.nolimit.keeps kept).keeps x.toInCall.keep, codeAny_func ?_⟩
  have I : Inv (cxOf CX0 P w K mg base N qual (defScope st) f cdv A outer s H E) [] (L2.start N vs) H s1 := inv_start S hr.hd e0 (ln _ _ _ _ hsp) r x
  obtain ⟨F0, ds, M, Qd, c, d, hR, hq⟩ := hsp
  obtain ⟨t, ht, hT⟩ := (hbody cdv A outer s H E hg (hr.deeper _) ds M Qd hR).run F0 (L2.start N vs) H (start_ok d) c { nx := fun _ H' => Q .non H', rt := Q }
    ⟨fun F' σ' H' Γ' M' e _ c' q => hq F' H' M' .non .non e c' .non q, fun F' H' M' v d e c' dv q => hq F' H' M' v d e c' dv q, fun _ _ _ _ _ _ _ _ h => h.elim, fun _ _ _ _ _ _ _ _ h => h.elim⟩
  refine wpAny_mono (ht.nox.run [] s1 (L2.start N vs) H { nx := fun _ H' => Q .non H', rt := Q } I hT) (fun fl s' hs => ?_) fun e s' hs => hs
  cases fl with
  | ret u =>
    obtain ⟨v, σ', H', J, rv, q⟩ := hs
    exact ⟨v, H', J.os, J.bare, J.base, J.hok, rv, q⟩
  | next =>
    obtain ⟨σ', H', J, q⟩ := hs
    exact ⟨V.non, H', J.os, J.bare, J.base, J.hok, rfl, q⟩
  | brk =>
    obtain ⟨σ', H', J, q⟩ := hs
    exact q.elim
  | cont =>
    obtain ⟨σ', H', J, q⟩ := hs
    exact q.elim
/-- a def that may be called by its name, where no repr is under way -/
structure CalG (P : Program) (w : World) (K : PySem.W.Frag) (mg : Str → Option Value) (base : Heap) (k : Nat) (x : Str) (R : RD) : Prop where
  ex : ∃ (f : Addr) (fd : FuncData) (ps : List Str), FnG P w K mg base k f fd ps (SpD K R) ∧ mg x = some (.ref f) ∧ PySem.W.keepIn K (.ref f) = true ∧ Binds K fd ps []
end
section
variable {X : Cx} {Γ : G} {M : MM} {pos p : Pos} {k j : Nat} {x : Str} {R : RD} {f : Addr} {fd : FuncData} {ps : List Str} {sp : Sp}
theorem pe_callG {e : Expr} {es : List Expr} {t : TA} (F : FnG X.prog X.w X.K X.mg X.base k f fd ps sp) (hgu : X.A.guards = some []) (hr : Room k X.A) (hg : Gl X x) (hm : X.mg x = some (.ref f)) (hk : PySem.W.keepIn X.K (.ref f) = true) (hb : Binds X.K fd ps [])
    (ha : PA X (e :: es) t) (hdb : (x == ("__debug__" : Str)) = false) (he : starEach (e :: es) X.env = (false, eval e X.env) :: starEach es X.env) (hpl : (backTo pos (starEach es X.env)).any (·.1) = false) :
    PE X (.Call (.Name x p) (e :: es) [] pos) (tCall sp [] (fun _ _ _ => False) t) := by
  refine ⟨fun pins s σ H Q I h => ?_⟩
  refine wpAny_Call_Name_kw (ld_glob I hg hm ?_ hdb)
  refine PySem.W.callWith_K (h₀ := X.base) I.ok.mod.kin hk (thn (ha.run pos pins s σ H _ I h) fun us s1 ⟨vs, H1, I1, r, q⟩ => ⟨I1.kIn, ?_⟩) he hpl
  replace q : sp (vs ++ []) H1 Q (fun _ _ _ => False) := q
  rw [List.append_nil] at q
  have hl : (us ++ []).length = ps.length := by rw [List.append_nil, ← r.length]; exact F.len _ _ _ _ q
  refine wpAny_call (codeAny_mono (F.run X.A X.stack s1 H1 ⟨us, []⟩ (us ++ []) vs Q _ hgu hr I1.env0 (hb s1 us I1.kIn hl) (by rw [List.append_nil]; exact r) q) fun r s' hq => ?_)
  cases r with
  | error er => exact (L2.pass0 (X := X)) pins σ H1 s1 er s' I1 hq
  | ok fl =>
    cases fl with
    | ret u => exact I1.after hq
    | next => exact False.elim hq
    | brk => exact False.elim hq
    | cont => exact False.elim hq
theorem we_callG {e : Expr} {es : List Expr} {Q : D → MM → Prop} (c : CalG X.prog X.w X.K X.mg X.base k x R) (hgu : X.A.guards = some []) (hr : Room j X.A) (hk : k ≤ j) (h : WA X (e :: es) Γ M fun ds M1 => R ds M1 Q) (hg : Gl X x := by rfl)
    (hdb : (x == ("__debug__" : Str)) = false := by decide) (he : starEach (e :: es) X.env = (false, eval e X.env) :: starEach es X.env := by rfl) (hpl : (backTo pos (starEach es X.env)).any (·.1) = false := by rfl) :
    WE X (.Call (.Name x p) (e :: es) [] pos) Γ M Q := ⟨fun F σ H ho hc W hR => by
  obtain ⟨f, fd, ps, G, hm, kp, b⟩ := c.ex
  refine ⟨_, pe_callG G hgu (hr.mono hk) hg hm kp b pa_wp hdb he hpl, h.run F σ H ho hc _ fun F1 H1 M1 vs ds e1 c1 d1 h1 => ?_⟩
  rw [List.append_nil]
  exact ⟨F1, ds, M1, Q, c1, d1, h1, fun F2 H2 M2 v d e2 c2 d2 q => hR F2 H2 M2 v d (e1.trans e2) c2 d2 q⟩⟩
end
end DL

set_option Elab.async false
set_option linter.all false
set_option autoImplicit false
set_option maxRecDepth 100000
set_option maxHeartbeats 4000000
namespace DL
open PySem L2 PySem.Spec PyProof.Rows
/-! the law's call: no repr is under way there -/
theorem topHeap {P : Program} {w : World} {K : PySem.W.Frag} {h : Heap} {a : Addr} {vs : List Value} {ns : List Int} (KX : K.In h) (ha : h.get? a = some { cls := .type "list", data := .seq vs.toArray }) (hi : IntsAre vs ns) (hl : ns.length ≤ sizeLine) :
    ∃ H : Hp, Only H ∧ SqL K H a (ns.map V.int) ∧ HOk P w H h ∧ ∀ b u, H b = some u → b = a ∧ K.lookup a = none := by
  have rv := vals_ints hi
  cases hk : K.lookup a with
  | some o =>
    obtain rfl : o = { cls := .type "list", data := .seq vs.toArray } := by have e := KX a o hk; rw [ha] at e; exact (Option.some.inj e).symm
    exact ⟨fun _ => none, fun _ => .inl rfl, .inr ⟨_, vs.toArray, _, hk, rfl, rfl, rfl, by rw [List.size_toArray, hi.length]; exact hl, by simpa using rv⟩, (fun b u z => by cases (show (none : Option HO) = some u from z)), (fun b u z => by cases (show (none : Option HO) = some u from z))⟩
  | none =>
    refine ⟨fun b => if b = a then some (.frz { cls := .type "list", data := .seq vs.toArray } (.lst (ns.map V.int))) else none, fun b => ?_, .inl (.inr ⟨_, if_pos rfl⟩), fun b u z => ?_, fun b u z => ⟨?_, rfl⟩⟩
    · by_cases hb : b = a
      · exact .inr ⟨_, _, if_pos hb⟩
      · exact .inl (if_neg hb)
    · by_cases hb : b = a
      · subst hb
        cases (if_pos rfl).symm.trans z
        exact ⟨ha, by rw [List.length_map]; exact hl, vs, _, rv, ha⟩
      · cases (if_neg hb).symm.trans z
    · by_cases hb : b = a
      · exact hb
      · cases (if_neg hb).symm.trans z
theorem law_callG {P : Program} {w : World} {K : PySem.W.Frag} {mg mb : Str → Option Value} {k : Nat} {fa a : Addr} {fd : FuncData} {x : Str} {sp : Sp} {s₁ : Shared} {vs : List Value} {ns : List Int}
    (KX : K.In s₁.heap) (hns : s₁.heap.Ns mainGlobals mg) (hb : s₁.heap.Ns builtinsNs mb) (hbb : ∀ x : Str, x ≠ "__name__" → mb x = bootBuiltins x) (hlim : s₁.heap.NoLimit) (hg : s₁.gens = #[])
    (ha : s₁.heap.get? a = some { cls := .type "list", data := .seq vs.toArray }) (hi : IntsAre vs ns) (hl : ns.length ≤ sizeLine) (hr : Room k callerA)
    (F : ∀ base : Heap, K.In base → base.Ns mainGlobals mg → FnG P w K mg base k fa fd [x] sp) (hbind : ∀ (s : Shared) (u : Value), BindsTo s fd ⟨[u], []⟩ [(x, u)])
    (hsp : ∀ H : Hp, Only H → SqL K H a (ns.map V.int) → sp [.ref a] H (fun v _ => v = .bl true) fun _ _ _ => False) :
    codeAny (model P w) callerA (.call (.ref fa) ⟨[.ref a], []⟩) (fun r s' => r = .ok (.ret (.bool true)) ∧ OldK s₁.heap s'.heap ∧ s'.os = s₁.os ∧ AllBare s'.gens) s₁ := by
  obtain ⟨H, hO, hS, hok, hA⟩ := topHeap (P := P) (w := w) KX ha hi hl
  have free : ∀ {b : Addr}, b ≠ a → H b = none := fun {b} n => by
    cases q : H b with
    | none => rfl
    | some u => exact absurd (hA b u q).1 n
  have dict : ∀ {b : Addr} {o : Obj} {es : Array DictEntry} {ep : Nat}, s₁.heap.get? b = some o → o.data = .dict es ep → b ≠ a := fun e d n => by
    subst n
    rw [ha] at e
    cases e
    cases d
  have ns' : ∀ {b : Addr} {m : Str → Option Value}, s₁.heap.Ns b m → (hidT s₁.heap H).Ns b m := fun ⟨o, es, ep, e, d, r⟩ => ⟨o, es, ep, hidT_get e (free (dict e d)), d, r⟩
  have kin : K.In (hidT s₁.heap H) := fun b o e => hidT_get (KX b o e) (by
    cases q : H b with
    | none => rfl
    | some u =>
      obtain ⟨rfl, n⟩ := hA b u q
      rw [n] at e
      cases e)
  have md : Mod K mg (hidT s₁.heap H) := ⟨kin, ns' hns, ⟨mb, ns' hb, hbb⟩, hlim.elim fun mc z => ⟨mc, ns' z.1, z.2⟩⟩
  have nofr : ∀ b, b ∉ frs ([] : List Env) := fun b z => by cases z
  have e0 : Env0 P w K mg (hidT s₁.heap H) callerA [] s₁ H := ⟨rfl, md, fun b o e => of_hidT e, Nat.le_of_eq (hidT_size _ _), trivial, fun b z => absurd z (nofr b), hok, .of_eq hg⟩
  refine codeAny_mono ((F _ kin (ns' hns)).run callerA [] s₁ H ⟨[.ref a], []⟩ [.ref a] [.ref a] _ _ rfl hr e0 (hbind s₁ (.ref a)) (.cons rfl .nil) (hsp H hO hS)) fun r s' z => ?_
  cases r with
  | error e => exact False.elim z
  | ok fl =>
    cases fl with
    | ret u =>
      obtain ⟨v, H', os, bare, un, hok', rv, q⟩ := z
      obtain rfl : v = .bl true := q
      obtain rfl : u = Value.bool true := rv
      refine ⟨rfl, OldK.of_keep fun b o e => ?_, os, bare⟩
      cases q : H b with
      | none => exact un.keep b o e q (nofr b) (by simp)
      | some u =>
        rcases hO b with z | ⟨ob, xs, z⟩
        · rw [z] at q; cases q
        · have e1 := (hok b _ z).1
          have e2 := (hok' b _ (un.frzs b ob _ z)).1
          rw [e] at e1
          cases e1
          exact e2
    | next => exact False.elim z
    | brk => exact False.elim z
    | cont => exact False.elim z
theorem walk_ofG {l : PySem.W.OpenLaw} {n k : Nat} {q : Program} {loose : List Str} {XP : (Str → Option Value) → Heap → Prop} {YP : World → Heap → Prop} {d : DefRec} {K : Params → PySem.W.Frag} {sp : World → Sp} {x : Str}
    (hn : l.most = some n) (hn2 : n ≤ sizeLine) (hdf : d.params.defaults = []) (hr : Room k callerA)
    (hY : ∀ (w : World) (h : Heap), YP w h → (K w.params).In h)
    (F : ∀ (w : World) (mg : Str → Option Value) (fa : Addr) (h : Heap), (K w.params).In h → h.Ns mainGlobals mg → mg d.name = some (.ref fa) →
      ∃ fd : FuncData, (∀ (s : Shared) (u : Value), BindsTo s fd ⟨[u], []⟩ [(x, u)]) ∧
        ∀ base : Heap, (K w.params).In base → base.Ns mainGlobals mg → FnG l.prog w (K w.params) mg base k fa fd [x] (sp w))
    (hsp : ∀ (w : World) (H : Hp) (a : Addr) (ns : List Int), ns.length ≤ n → Only H → SqL (K w.params) H a (ns.map V.int) → sp w [.ref a] H (fun v _ => v = .bl true) fun _ _ _ => False) :
    PySem.W.WalkO q loose XP YP l.row.toRowW d [] (fun f vs => PySem.call f vs) := by
  refine Att.attach_call hn hdf fun w s₀ s₁ mg mb fa o pm cd doc a vs ns G Y ho hd hcd hmg hobj hints hlen hg => ?_
  have KX := hY w _ Y
  obtain ⟨fd, hb, hF⟩ := F w mg fa _ KX G.T.g hmg
  exact law_callG KX G.T.g G.T.b G.T.builtins G.T.nolimit hg hobj hints (Nat.le_trans hlen hn2) hr hF hb fun H hO hS => hsp w H a ns hlen hO hS
end DL

set_option Elab.async false
set_option linter.all false
set_option autoImplicit false
set_option maxRecDepth 100000
set_option maxHeartbeats 4000000
namespace DL
open PySem L2 PySem.Spec PyProof.Rows
/-! type(x) is C; C(e, ..) with *rows; C.m(k = e); list * int -/
theorem call_typeO {X : Cx} : CallR X (.type "type") (fun xs H Q => (∃ (y C : Addr), xs = [.ref y] ∧ NwS.OfCls X C H y ∧ Q (.ref C) H) ∨ ∃ x T, xs = [x] ∧ TyB X.K H x T ∧ Q (.ty T) H) := by
  intro pins s σ H xs us Q I r h
  rcases h with h | h
  · exact NwS.call_typeC pins s σ H xs us Q I r h
  · exact call_type1 pins s σ H xs us Q I r h
section
variable {X : Cx} {Γ : G} {M : MM} {pos p p1 p2 p3 : Pos} {C : Addr} {x : Str}
theorem we_typeIsC {e : Expr} {Q : D → MM → Prop} (hm : X.mg "type" = none) (gC : X.mg x = some (.ref C)) (hK : ∃ om, X.K.lookup C = some om ∧ om.cls ≠ .type "tuple")
    (h : WE X e Γ M fun d M1 => (∃ a ns ds, d = .raw a ∧ M1 a = some (.ins C ns ds) ∧ Q (.bl true) M1) ∨ ∃ T, tyD d = some T ∧ Q (.bl false) M1)
    (hs : starEach [e] X.env = [(false, eval e X.env)] := by rfl) (hg : Gl X "type" := by rfl) (hgC : Gl X x := by rfl) (hdb : (x == ("__debug__" : Str)) = false := by decide) :
    WE X (.Compare (.Call (.Name "type" p1) [e] [] p2) [.Is] [.Name x p3] pos) Γ M Q := ⟨fun F σ H he hc R hR => by
  refine ⟨_, pe_cmpR ItX.op_isK (pe_callTy call_typeO hg hm (by decide +kernel) (pa_cons pe_wp pa_nil hs) (by decide) (by decide) hs) (pe_glob hgC gC (show RelV (.ref C) (.ref C) from rfl) hdb) (nomark _), ?_⟩
  obtain ⟨om, h1, h2⟩ := hK
  refine h.run F σ H he hc _ fun F1 H1 M1 v d e1 c1 d1 hd => ?_
  rcases hd with ⟨a, ns, ds, hd, hM, q⟩ | ⟨T, hT, q⟩
  · subst hd
    cases d1
    obtain ⟨_, dx, fs, k1, _⟩ := c1.chg a _ hM
    exact .inl ⟨a, C, rfl, NwS.OfCls.ins k1, C, om, rfl, h1, h2, .inl ⟨rfl, hR F1 H1 M1 _ _ e1 c1 (.bl _) q⟩⟩
  · exact .inr ⟨v, T, rfl, tyD_of c1.sub d1 hT, C, om, rfl, h1, h2, .inr ⟨trivial, hR F1 H1 M1 _ _ e1 c1 (.bl _) q⟩⟩⟩
end
/-- a classmethod of which it is told which def it is, so that it may be called by keywords, too -/
structure ClMF (P : Program) (w : World) (K : PySem.W.Frag) (mg : Str → Option Value) (base : Heap) (k : Nat) (C : Addr) (m qual : Str) (st : Stmt) (ps : List Str) (R : RD) : Prop where
  ex : ∃ (mc : Value) (p f : Addr) (fd : FuncData), ClX.CRead K C mc ∧ ClX.CMet K C mc m p f ∧ Fun K m qual st f fd ∧ FnOk P w K mg base CX0 k f fd ps (SpD K R)
/-- C.m, a classmethod, by keywords -/
structure ClMK (P : Program) (w : World) (K : PySem.W.Frag) (mg : Str → Option Value) (base : Heap) (k : Nat) (C : Addr) (m : Str) (ks : List Str) (g : {α : Type} → List α → List α → List α) (R : RD) : Prop where
  ex : ∃ (mc : Value) (p f : Addr) (fd : FuncData) (ps : List Str), ClX.CRead K C mc ∧ ClX.CMet K C mc m p f ∧ FnOk P w K mg base CX0 k f fd ps (SpD K R) ∧ KB K fd ps ks g
section
variable {P : Program} {w : World} {K : PySem.W.Frag} {mg : Str → Option Value} {base : Heap} {C : Addr} {m qual : Str} {st : Stmt} {N ps ks : List Str} {k : Nat} {R : RD} {g : {α : Type} → List α → List α → List α}
theorem ClMAt.clmF (d : ClMAt K C m qual st ps) (S : FnScope N ps (defScope st)) (len : ∀ ds M Q, R ds M Q → ds.length = ps.length)
    (hbody : ∀ (f : Addr) (cdv : Value) (A : Around) (outer : List Env) (s : Shared) (H : Hp) (E : XK), Room k (A.deeper (PyProof.Rows.envOfC qual (defScope st) s.heap.objs.size f cdv)) → ∀ (ds : List D) (M : MM) (Q : D → MM → Prop), R ds M Q →
      WS (cxOf CX0 P w K mg base N qual (defScope st) f cdv A outer s H E).nox (defBody st) (startD N ds) M { nx := fun _ M' => Q .non M', rt := Q }) : ClMF P w K mg base (k + 1) C m qual st ps R := by
  obtain ⟨mc, p, f, fd, r, c, F, b⟩ := d.ex
  exact ⟨mc, p, f, fd, r, c, F, fn_ok F S len (hbody f)⟩
theorem ClMF.kw (c : ClMF P w K mg base k C m qual st ps R) (b : KwFn m qual st ps ks g) : ClMK P w K mg base k C m ks g R := by
  obtain ⟨mc, p, f, fd, r, cm, F, G⟩ := c.ex
  exact ⟨mc, p, f, fd, ps, r, cm, G, b K f fd F⟩
end
section
variable {X : Cx} {Γ : G} {M : MM} {pos apos : Pos} {k j : Nat} {C p f : Addr} {m : Str} {R : RD} {mc : Value}
def tCMethK (C : Addr) (sp : Sp) (gV : List V → List V → List V) (ta : TE) (tk : TA) : TE := fun σ H Q => ta σ H fun x H1 => x = .ref C ∧ tk σ H1 fun zs H2 => sp (gV [.ref C] zs) H2 Q fun _ _ _ => False
theorem pe_cmethK0 {o : Expr} {kws : List Keyword} {ta : TE} {tk : TA} {fd : FuncData} {ps ks : List Str} {sp : Sp} {g : List Value → List Value → List Value} {gV : List V → List V → List V} {pl : Sem Bool} (he : PE X o ta) (r : ClX.CRead X.K C mc) (c : ClX.CMet X.K C mc m p f)
    (F : FnOk X.prog X.w X.K X.mg X.base CX0 k f fd ps sp) (hr : Room k X.A) (hb : KBinds X.K fd ps ks g gV) (hkw : PK X kws tk)
    (hall : (backToKw pos (keywordEach kws X.env)).all (·.1.isSome) = true) (hks : (backToKw pos (keywordEach kws X.env)).filterMap (·.1) = ks)
    (hpl : ((backTo pos (starEach [] X.env)).any (·.1) || (backToKw pos (keywordEach kws X.env)).any (·.1.isNone)) = false)
    (ht : eval (.Call (.Attribute o m apos) [] kws pos) X.env = (do
      let ov ← eval o X.env
      standAt apos.atName
      let (f, first) ← holding [ov] (getMethod ov m pl)
      callWith pos f first (backTo pos (starEach [] X.env)) (backToKw pos (keywordEach kws X.env)))) :
    PE X (.Call (.Attribute o m apos) [] kws pos) (tCMethK C sp gV ta tk) := by
  refine ⟨fun pins s σ H Q I h => ?_⟩
  refine PySem.W.methodCall_KW (pl := pl) (thn (he.run pins s σ H _ I h) fun u s1 ⟨x, H1, I1, rx, ex, q⟩ => ?_) ht
  subst ex
  obtain rfl : u = Value.ref C := rx
  refine ClX.getmethcm_ok I1 r c fun s2 I2 => ?_
  refine PySem.W.callWith_of (P := PySem.W.MethP X.K s1.heap.objs.size f (.ref C)) hpl (PySem.W.keeps_M c.fi) (PyProof.Rows.evalArgs_kw2_nil hall (thn (hkw.run pos _ s2 σ H1 _ I2 q) fun ws s3 ⟨zs, H2, I3, rz, q2⟩ => ⟨⟨ClX.pin_at I3, I3.kIn⟩, ?_⟩))
  rw [hks]
  have rr : Vals [V.ref C] [Value.ref C] := .cons rfl .nil
  have r2 := hb.rel rr rz
  have hl : (g [.ref C] ws).length = ps.length := by rw [← r2.length]; exact F.len _ _ _ _ q2
  have z : wpAny (model X.prog X.w) X.A (call (.ref s1.heap.objs.size) [] (ks.zip ws)) (EP X ((s1.heap.objs.size, PySem.W.methodObj (.ref f) (.ref C)) :: pins) σ Q) X.xe s3 := by
    refine wpAny_call (PySem.W.method_call (ClX.pin_at I3) (codeAny_mono (F.run X.A X.stack s3 H2 ⟨[.ref C], ks.zip ws⟩ (g [.ref C] ws) (gV [.ref C] zs) Q _ hr I3.env0 (hb.to s3 [.ref C] ws I3.kIn hl) r2 q2) fun r s' hq => ?_))
    cases r with
    | error e => exact hq.elim
    | ok fl =>
      cases fl with
      | ret u => exact I3.after hq
      | next => exact False.elim hq
      | brk => exact False.elim hq
      | cont => exact False.elim hq
  exact thn z fun _ _ y => ClX.unpinE y
theorem we_cmethK {o : Expr} {kws : List Keyword} {ks : List Str} {g : {α : Type} → List α → List α → List α} {pl : Sem Bool} {Q : D → MM → Prop} (c : ClMK X.prog X.w X.K X.mg X.base k C m ks g R) (hr : Room j X.A) (hk : k ≤ j)
    (h : WE X o Γ M fun x M1 => x = .raw C ∧ WK X kws Γ M1 fun ds M2 => R (g [.raw C] ds) M2 Q)
    (hall : (backToKw pos (keywordEach kws X.env)).all (·.1.isSome) = true := by rfl) (hks : (backToKw pos (keywordEach kws X.env)).filterMap (·.1) = ks := by rfl)
    (hpl : ((backTo pos (starEach [] X.env)).any (·.1) || (backToKw pos (keywordEach kws X.env)).any (·.1.isNone)) = false := by rfl)
    (ht : eval (.Call (.Attribute o m apos) [] kws pos) X.env = (do
      let ov ← eval o X.env
      standAt apos.atName
      let (f, first) ← holding [ov] (getMethod ov m pl)
      callWith pos f first (backTo pos (starEach [] X.env)) (backToKw pos (keywordEach kws X.env))) := by rfl) :
    WE X (.Call (.Attribute o m apos) [] kws pos) Γ M Q := ⟨fun F σ H ho hc W hR => by
  obtain ⟨mc, p, f, fd, ps, r, cm, G, b⟩ := c.ex
  refine ⟨_, pe_cmethK0 (pl := pl) pe_wp r cm G (hr.mono hk) ⟨b.to, b.relV⟩ pk_wp hall hks hpl ht, h.run F σ H ho hc _ fun F1 H1 M1 v x e1 c1 d1 ⟨hx, h1⟩ => ?_⟩
  subst hx
  cases d1
  refine ⟨rfl, h1.run F1 σ H1 (ho.mono e1) c1 _ fun F2 H2 M2 vs ds e2 c2 d2 q => ?_⟩
  exact ⟨F2, g [.raw C] ds, M2, Q, c2, b.relD (.cons (.raw C) .nil) d2, q, fun F3 H3 M3 v d e3 c3 d3 q => hR F3 H3 M3 v d ((e1.trans e2).trans e3) c3 d3 q⟩⟩
/-- list * int -/
theorem rep_dns {K : PySem.W.Frag} {F : Hp} {vs : List V} {ds : List D} (h : Dns K F vs ds) : ∀ n : Nat, Dns K F (List.replicate n vs).flatten (List.replicate n ds).flatten
  | 0 => .nil
  | n + 1 => by
    rw [List.replicate_succ, List.replicate_succ, List.flatten_cons, List.flatten_cons]
    exact h.append (rep_dns h n)
theorem we_rep {a b : Expr} {Q : D → MM → Prop} (h : WE X a Γ M fun x M1 => ∃ ds, x = .lst ds ∧ WE X b Γ M1 fun y M2 => ∃ n : Nat, y = .int (n : Int) ∧ n < 1000 ∧ ds.length * n ≤ sizeLine ∧ Q (.lst (List.replicate n ds).flatten) M2) : WE X (.BinOp a .Mult b pos) Γ M Q :=
  we_bin (S := fun x y M Q => ∃ ds, ∃ n : Nat, x = .lst ds ∧ y = .int (n : Int) ∧ n < 1000 ∧ ds.length * n ≤ sizeLine ∧ Q (.lst (List.replicate n ds).flatten) M) op_rep (fun x y M2 ⟨ds, n, hx, hy, hn, hz, q⟩ => by
    subst hx hy
    intro F H v u c dv du R hR
    cases du
    cases dv with
    | @lst l xs ds k1 k2 =>
      refine ⟨l, _, xs, rfl, rfl, c.sub _ _ k1, by omega, by omega, by rw [Int.toNat_natCast, k2.length]; exact hz, fun p hp => ?_⟩
      have s := same_new (o := .lst (List.replicate (Int.toNat (n : Int)) xs).flatten) (c.sub.free hp)
      exact hR (upd F p _) _ M2 _ _ s (c.new hp) (.lst upd_same (by rw [Int.toNat_natCast]; exact rep_dns (k2.mono (by rw [Int.toNat_natCast] at s; exact s)) n)) q)
    (h.imp fun x M1 ⟨ds, hx, h1⟩ => h1.imp fun y M2 ⟨n, hy, hn, hz, q⟩ => ⟨ds, n, hx, hy, hn, hz, q⟩)
end
end DL

set_option Elab.async false
set_option linter.all false
set_option autoImplicit false
set_option maxRecDepth 100000
set_option maxHeartbeats 4000000
namespace DL
open PySem L2 PySem.Spec PyProof.Rows
theorem DefAt.calG {P : Program} {w : World} {K : PySem.W.Frag} {mg : Str → Option Value} {base : Heap} {x : Str} {st : Stmt} {N ps : List Str} {k : Nat} {R : RD} (d : DefAt K mg x st ps) (S : FnScope N ps (defScope st)) (len : ∀ ds M Q, R ds M Q → ds.length = ps.length)
    (hbody : ∀ (f : Addr) (cdv : Value) (A : Around) (outer : List Env) (s : Shared) (H : Hp) (E : XK), A.guards = some [] → Room k (A.deeper (PyProof.Rows.envOfC x (defScope st) s.heap.objs.size f cdv)) → ∀ (ds : List D) (M : MM) (Q : D → MM → Prop), R ds M Q →
      WS (cxOf CX0 P w K mg base N x (defScope st) f cdv A outer s H E).nox (defBody st) (startD N ds) M { nx := fun _ M' => Q .non M', rt := Q }) : CalG P w K mg base (k + 1) x R := by
  obtain ⟨f, fd, F, hm, b⟩ := d.ex
  exact ⟨f, fd, ps, fn_okG F S len (hbody f), hm, F.kp, b⟩
section
variable {X : Cx} {Γ : G} {M : MM} {pos p : Pos} {k j : Nat} {C : Addr} {R : RD}
theorem wt_eqI {a b : Expr} {Q : Bool → MM → Prop} (c : Met X.prog X.w X.K X.mg X.base k C "__eq__" R) (hr : Room j X.A) (hk : k ≤ j)
    (h : WE X a Γ M fun x M1 => WE X b Γ M1 fun y M2 => InsOf M2 C "__eq__" x ∧ TyC M2 C y ∧ R [x, y] M2 (asB Q)) : WT X (.Compare a [.Eq] [b] pos) Γ M Q := by
  obtain ⟨f, fd, ps, hcl, hm, G, b'⟩ := c.ex
  refine wt_cmpR (S := fun x y M Q => InsOf M C "__eq__" x ∧ TyC M C y ∧ R [x, y] M Q) (op_eqI hm.at_ hm.fn G (hr.mono hk) b' (L2.pass0 (X := X))) (fun x y M2 hs => ?_) (nomark _) h
  intro F H v u cc dx dy W hW
  obtain ⟨hi, ht, q⟩ := hs
  obtain ⟨a1, dx1, fs, rfl, ha, _⟩ := hi.at cc dx
  obtain ⟨tb, t1, t2⟩ := ht.at cc dy
  exact ⟨a1, dx1, fs, tb, rfl, ha, t1, t2, F, [x, y], M2, _, cc, .cons dx (.cons dy .nil), q, fun F' H' M' v d e c' d' q => hW F' H' M' v d e c' d' q⟩
end
end DL

set_option Elab.async false
set_option linter.all false
set_option autoImplicit false
set_option maxRecDepth 100000
set_option maxHeartbeats 4000000
namespace DL
open PySem L2 PySem.Spec PyProof.Rows
/-! defs that raise: what they wish of an exception, over data -/
/-- of an exception that leaves: its class, its fields' names, what they hold -/
abbrev ED := Value → List Str → List D → MM → Prop
abbrev RX := List D → MM → (D → MM → Prop) → ED → Prop
def postE (K : PySem.W.Frag) (F : Hp) (Ed : ED) (E : XK) : Prop := ∀ (F' H' : Hp) (M' : MM) (cls : Value) (d : Option Addr) (fs : List (Str × V)) (es : List D),
  Same F F' → Con K F' M' H' → ExX H' d fs → Dns K F' (fs.map (·.2)) es → Ed cls (fs.map (·.1)) es M' → E cls d H'
theorem postE.mono {K : PySem.W.Frag} {F F1 : Hp} {Ed : ED} {E : XK} (h : postE K F Ed E) (e : Same F F1) : postE K F1 Ed E := fun F' H' M' cls d fs es a => h F' H' M' cls d fs es (e.trans a)
theorem postE.imp {K : PySem.W.Frag} {F : Hp} {Ed Ed' : ED} {E : XK} (h : postE K F Ed E) (q : ∀ c ns es M, Ed' c ns es M → Ed c ns es M) : postE K F Ed' E := fun F' H' M' cls d fs es a b c e z => h F' H' M' cls d fs es a b c e (q _ _ _ _ z)
def SpX (K : PySem.W.Frag) (R : RX) : Sp := fun vs H Q E => ∃ (F : Hp) (ds : List D) (M : MM) (Qd : D → MM → Prop) (Ed : ED), Con K F M H ∧ Dns K F vs ds ∧ R ds M Qd Ed ∧
  (∀ (F' H' : Hp) (M' : MM) (v : V) (d : D), Same F F' → Con K F' M' H' → Dn K F' v d → Qd d M' → Q v H') ∧ postE K F Ed E
/-- the first parameter carries what stood at the def's entry -/
def pinD (F : Hp) (d : D) : D := if noPin d = true then .pin F d else d
def startP (N : List Str) (F : Hp) : List D → G
  | [] => startD N []
  | d :: r => startD N (pinD F d :: r)
theorem pinD_ok {K : PySem.W.Frag} {F : Hp} {v : V} {d : D} (h : Dn K F v d) : Dn K F v (pinD F d) := by
  unfold pinD
  by_cases n : noPin d = true
  · rw [if_pos n]
    exact .pin (Same.refl F) n h
  · rw [if_neg n]
    exact h
theorem startP_ok {K : PySem.W.Frag} {F : Hp} {N : List Str} {vs : List V} {ds : List D} (h : Dns K F vs ds) : EnvOk K F (startP N F ds) (L2.start N vs) := by
  cases h with
  | nil => exact start_ok .nil
  | cons a b => exact start_ok (.cons (pinD_ok a) b)
theorem pin_same {K : PySem.W.Frag} {F F0 : Hp} {Γ : G} {σ : L2.St} {i : Nat} {d : D} (h : EnvOk K F Γ σ) (hi : Γ[i]? = some (some (.pin F0 d))) : Same F0 F := by
  obtain ⟨v, _, hv⟩ := h.get i _ hi
  cases hv with
  | pin s _ _ => exact s
/-- what is raised here is taken as Ed tells, told of what stood at F -/
def TakesD (X : Cx) (F : Hp) (Ed : ED) : Prop := ∃ E : XK, Takes X (fun cls d _ H => E cls d H) ∧ postE X.K F Ed E
theorem TakesD.imp {X : Cx} {F : Hp} {Ed Ed' : ED} (t : TakesD X F Ed) (h : ∀ c ns es M, Ed' c ns es M → Ed c ns es M) : TakesD X F Ed' := let ⟨E, a, b⟩ := t; ⟨E, a, b.imp h⟩
theorem takes_len {X : Cx} {W : WX} (t : Takes X W) : Takes X (fun cls d σ H => σ.length = X.N.length → W cls d σ H) := fun u s' ⟨a, B, sI, pins, σ, H, cls, d, e, I, nb, up, sky, na, os, ag, w⟩ =>
  t u s' ⟨a, B, sI, pins, σ, H, cls, d, e, I, nb, up, sky, na, os, ag, w I.len⟩
section
variable {P : Program} {w : World} {K : PySem.W.Frag} {mg : Str → Option Value} {base : Heap}
/-- THE RULE for a def that may raise -/
theorem fn_okX {x qual : Str} {st : Stmt} {f : Addr} {fd : FuncData} {N ps : List Str} {k : Nat} {R : RX} (F : Fun K x qual st f fd) (S : FnScope N ps (defScope st)) (len : ∀ ds M Q E, R ds M Q E → ds.length = ps.length)
    (hbody : ∀ (cdv : Value) (A : Around) (outer : List Env) (s : Shared) (H : Hp) (E : XK), Room k (A.deeper (PyProof.Rows.envOfC qual (defScope st) s.heap.objs.size f cdv)) → ∀ (F0 : Hp) (ds : List D) (M : MM) (Q : D → MM → Prop) (Ed : ED), R ds M Q Ed →
      TakesD (cxOf (L2.CX P w) P w K mg base N qual (defScope st) f cdv A outer s H E) F0 Ed →
      PassesOwn (model P w) (cxOf (L2.CX P w) P w K mg base N qual (defScope st) f cdv A outer s H E).A (cxOf (L2.CX P w) P w K mg base N qual (defScope st) f cdv A outer s H E).env (cxOf (L2.CX P w) P w K mg base N qual (defScope st) f cdv A outer s H E).xe →
      WS (cxOf (L2.CX P w) P w K mg base N qual (defScope st) f cdv A outer s H E) (defBody st) (startP N F0 ds) M { nx := fun _ M' => Q .non M', rt := Q }) : FnOk P w K mg base (L2.CX P w) (k + 1) f fd ps (SpX K R) := by
  refine F.okX S (fun vs H Q E ⟨F, ds, M, Qd, Ed, c, d, r, _⟩ => d.length.trans (len ds M Qd Ed r)) fun cdv A outer s H vs Q E hr ⟨F, ds, M, Qd, Ed, c, d, r, hq, he⟩ => ?_
  exact (hbody cdv A outer s H E hr F ds M Qd Ed r ⟨E, takes_of rfl rfl rfl rfl, he⟩ (passes_of rfl)).run F (L2.start N vs) H (startP_ok d) c _
    ⟨fun F' σ' H' Γ' M' e _ c' q => hq F' H' M' .non .non e c' .non q, fun F' H' M' v d e c' dv q => hq F' H' M' v d e c' dv q, fun _ _ _ _ _ _ _ _ h => h.elim, fun _ _ _ _ _ _ _ _ h => h.elim⟩
structure CalX (P : Program) (w : World) (K : PySem.W.Frag) (mg : Str → Option Value) (base : Heap) (k : Nat) (x : Str) (R : RX) : Prop where
  ex : ∃ (f : Addr) (fd : FuncData) (ps : List Str), FnOk P w K mg base (L2.CX P w) k f fd ps (SpX K R) ∧ mg x = some (.ref f) ∧ PySem.W.keepIn K (.ref f) = true ∧ Binds K fd ps []
structure MetX (P : Program) (w : World) (K : PySem.W.Frag) (mg : Str → Option Value) (base : Heap) (k : Nat) (C : Addr) (m : Str) (R : RX) : Prop where
  ex : ∃ (f : Addr) (fd : FuncData) (ps : List Str), Cls K C ∧ Meth K C m f ∧ FnOk P w K mg base (L2.CX P w) k f fd ps (SpX K R) ∧ Binds K fd ps []
structure MetKX (P : Program) (w : World) (K : PySem.W.Frag) (mg : Str → Option Value) (base : Heap) (k : Nat) (C : Addr) (m : Str) (ks : List Str) (g : {α : Type} → List α → List α → List α) (R : RX) : Prop where
  ex : ∃ (f : Addr) (fd : FuncData) (ps : List Str), Cls K C ∧ Meth K C m f ∧ FnOk P w K mg base (L2.CX P w) k f fd ps (SpX K R) ∧ KB K fd ps ks g
structure MakX (P : Program) (w : World) (K : PySem.W.Frag) (mg : Str → Option Value) (base : Heap) (k : Nat) (x : Str) (C : Addr) (R : RX) : Prop where
  ex : ∃ (f : Addr) (fd : FuncData) (ps : List Str), Mk K C f ∧ FnOk P w K mg base (L2.CX P w) k f fd ps (SpX K R) ∧ mg x = some (.ref C) ∧ Binds K fd ps []
theorem CalX.imp {k : Nat} {x : Str} {R R' : RX} (c : CalX P w K mg base k x R) (h : ∀ ds M Q E, R' ds M Q E → R ds M Q E) : CalX P w K mg base k x R' := by
  obtain ⟨f, fd, ps, F, a⟩ := c.ex
  exact ⟨f, fd, ps, ⟨fun vs H Q E ⟨F0, ds, M, Qd, Ed, a, b, c, d⟩ => F.len vs H Q E ⟨F0, ds, M, Qd, Ed, a, b, h _ _ _ _ c, d⟩, fun A outer s H args us vs Q E h1 h2 h3 h4 ⟨F0, ds, M, Qd, Ed, a, b, c, d⟩ => F.run A outer s H args us vs Q E h1 h2 h3 h4 ⟨F0, ds, M, Qd, Ed, a, b, h _ _ _ _ c, d⟩⟩, a⟩
end
section
variable {X : Cx} {Γ : G} {M : MM} {pos p apos : Pos} {k j i : Nat} {x m : Str} {R : RX} {F0 : Hp} {d0 : D} {Ed : ED}
theorem passD {E : XK} (tk : Takes X (fun cls d _ H => E cls d H)) : Passes (L2.CX X.prog X.w) X E := passes_call tk fun _ _ _ _ h => h
/-- the name of a pinned slot -/
theorem we_varP (i : Nat) {Q : D → MM → Prop} (hΓ : Γ[i]? = some (some (.pin F0 d0))) (hq : Q d0 M) (hN : X.N[i]? = some x := by rfl) (hv : Vis X.env.scope x := by first | exact Or.inl rfl | exact Or.inr (Or.inl rfl) | exact Or.inr (Or.inr rfl))
    (hd : (x == ("__debug__" : Str)) = false := by decide) (hcd : (x == ("__classdict__" : Str)) = false := by decide) : WE X (.Name x pos) Γ M Q := ⟨fun F σ H he hc W hR => by
  obtain ⟨v, hσ, hv'⟩ := he.get i _ hΓ
  cases hv' with
  | pin s n h => exact ⟨_, pe_var hN hv hd hcd, v, hσ, hR F H M v d0 (Same.refl F) hc h hq⟩⟩
/-- a call of a def that may raise -/
theorem we_callX {e : Expr} {es : List Expr} {Q : D → MM → Prop} (c : CalX X.prog X.w X.K X.mg X.base k x R) (tk : TakesD X F0 Ed) (i : Nat) (hΓ : Γ[i]? = some (some (.pin F0 d0))) (hr : Room j X.A) (hk : k ≤ j) (h : WA X (e :: es) Γ M fun ds M1 => R ds M1 Q Ed) (hg : Gl X x := by rfl)
    (hdb : (x == ("__debug__" : Str)) = false := by decide) (he : starEach (e :: es) X.env = (false, eval e X.env) :: starEach es X.env := by rfl) (hpl : (backTo pos (starEach es X.env)).any (·.1) = false := by rfl) :
    WE X (.Call (.Name x p) (e :: es) [] pos) Γ M Q := ⟨fun F σ H ho hc W hR => by
  obtain ⟨f, fd, ps, G, hm, kp, b⟩ := c.ex
  obtain ⟨E, tke, px⟩ := tk
  have s0 := pin_same ho hΓ
  refine ⟨_, pe_call G (hr.mono hk) hg hm kp b .nil (passD tke) pa_wp hdb he hpl, h.run F σ H ho hc _ fun F1 H1 M1 vs ds e1 c1 d1 h1 => ?_⟩
  rw [List.append_nil]
  exact ⟨F1, ds, M1, Q, Ed, c1, d1, h1, fun F2 H2 M2 v d e2 c2 d2 q => hR F2 H2 M2 v d (e1.trans e2) c2 d2 q, px.mono (s0.trans e1)⟩⟩
theorem we_methX {C : Addr} {o e : Expr} {es : List Expr} {pl : Sem Bool} {Q : D → MM → Prop} (c : MetX X.prog X.w X.K X.mg X.base k C m R) (tk : TakesD X F0 Ed) (i : Nat) (hΓ : Γ[i]? = some (some (.pin F0 d0))) (hr : Room j X.A) (hk : k ≤ j)
    (h : WE X o Γ M fun x M1 => InsOf M1 C m x ∧ WA X (e :: es) Γ M1 fun ds M2 => R (x :: ds) M2 Q Ed)
    (hst : starEach (e :: es) X.env = (false, eval e X.env) :: starEach es X.env := by rfl) (hpl : (backTo pos (starEach es X.env)).any (·.1) = false := by rfl)
    (ht : eval (.Call (.Attribute o m apos) (e :: es) [] pos) X.env = (do
      let ov ← eval o X.env
      standAt apos.atName
      let (f, first) ← holding [ov] (getMethod ov m pl)
      callWith pos f first (backTo pos (starEach (e :: es) X.env)) (backToKw pos (keywordEach [] X.env))) := by rfl) :
    WE X (.Call (.Attribute o m apos) (e :: es) [] pos) Γ M Q := ⟨fun F σ H ho hc W hR => by
  obtain ⟨f, fd, ps, hcl, hm, G, b⟩ := c.ex
  obtain ⟨E, tke, px⟩ := tk
  have s0 := pin_same ho hΓ
  refine ⟨_, pe_meth (pl := pl) pe_wp hcl hm G (hr.mono hk) b .nil (passD tke) pa_wp hst hpl ht, h.run F σ H ho hc _ fun F1 H1 M1 v x e1 c1 d1 ⟨hi, h1⟩ => ?_⟩
  obtain ⟨a, dx, fs, rfl, ha, hl⟩ := hi.at c1 d1
  refine ⟨a, dx, fs, rfl, ha, hl, h1.run F1 σ H1 (ho.mono e1) c1 _ fun F2 H2 M2 vs ds e2 c2 d2 q => ?_⟩
  rw [List.append_nil]
  exact ⟨F2, x :: ds, M2, Q, Ed, c2, .cons (d1.mono e2) d2, q, fun F3 H3 M3 v d e3 c3 d3 q => hR F3 H3 M3 v d ((e1.trans e2).trans e3) c3 d3 q, px.mono ((s0.trans e1).trans e2)⟩⟩
theorem we_meth0X {C : Addr} {o : Expr} {pl : Sem Bool} {Q : D → MM → Prop} (c : MetX X.prog X.w X.K X.mg X.base k C m R) (tk : TakesD X F0 Ed) (i : Nat) (hΓ : Γ[i]? = some (some (.pin F0 d0))) (hr : Room j X.A) (hk : k ≤ j)
    (h : WE X o Γ M fun x M1 => InsOf M1 C m x ∧ R [x] M1 Q Ed)
    (ht : eval (.Call (.Attribute o m apos) [] [] pos) X.env = (do
      let ov ← eval o X.env
      standAt apos.atName
      let (f, first) ← holding [ov] (getMethod ov m pl)
      callWith pos f first (backTo pos (starEach [] X.env)) (backToKw pos (keywordEach [] X.env))) := by rfl) :
    WE X (.Call (.Attribute o m apos) [] [] pos) Γ M Q := ⟨fun F σ H ho hc W hR => by
  obtain ⟨f, fd, ps, hcl, hm, G, b⟩ := c.ex
  obtain ⟨E, tke, px⟩ := tk
  have s0 := pin_same ho hΓ
  refine ⟨_, pe_meth0 (pl := pl) pe_wp hcl hm G (hr.mono hk) b .nil (passD tke) ht, h.run F σ H ho hc _ fun F1 H1 M1 v x e1 c1 d1 ⟨hi, h1⟩ => ?_⟩
  obtain ⟨a, dx, fs, rfl, ha, hl⟩ := hi.at c1 d1
  exact ⟨a, dx, fs, rfl, ha, hl, F1, [x], M1, Q, Ed, c1, .cons d1 .nil, h1, fun F3 H3 M3 v d e3 c3 d3 q => hR F3 H3 M3 v d (e1.trans e3) c3 d3 q, px.mono (s0.trans e1)⟩⟩
theorem we_methKX {C : Addr} {o : Expr} {kws : List Keyword} {ks : List Str} {g : {α : Type} → List α → List α → List α} {pl : Sem Bool} {Q : D → MM → Prop} (c : MetKX X.prog X.w X.K X.mg X.base k C m ks g R) (tk : TakesD X F0 Ed) (i : Nat) (hΓ : Γ[i]? = some (some (.pin F0 d0))) (hr : Room j X.A) (hk : k ≤ j)
    (h : WE X o Γ M fun x M1 => InsOf M1 C m x ∧ WK X kws Γ M1 fun ds M2 => R (g [x] ds) M2 Q Ed)
    (hall : (backToKw pos (keywordEach kws X.env)).all (·.1.isSome) = true := by rfl) (hks : (backToKw pos (keywordEach kws X.env)).filterMap (·.1) = ks := by rfl)
    (hpl : ((backTo pos (starEach [] X.env)).any (·.1) || (backToKw pos (keywordEach kws X.env)).any (·.1.isNone)) = false := by rfl)
    (ht : eval (.Call (.Attribute o m apos) [] kws pos) X.env = (do
      let ov ← eval o X.env
      standAt apos.atName
      let (f, first) ← holding [ov] (getMethod ov m pl)
      callWith pos f first (backTo pos (starEach [] X.env)) (backToKw pos (keywordEach kws X.env))) := by rfl) :
    WE X (.Call (.Attribute o m apos) [] kws pos) Γ M Q := ⟨fun F σ H ho hc W hR => by
  obtain ⟨f, fd, ps, hcl, hm, G, b⟩ := c.ex
  obtain ⟨E, tke, px⟩ := tk
  have s0 := pin_same ho hΓ
  refine ⟨_, pe_methK0 (pl := pl) pe_wp hcl hm G (hr.mono hk) ⟨b.to, b.relV⟩ (passD tke) pk_wp hall hks hpl ht, h.run F σ H ho hc _ fun F1 H1 M1 v x e1 c1 d1 ⟨hi, h1⟩ => ?_⟩
  obtain ⟨a, dx, fs, rfl, ha, hl⟩ := hi.at c1 d1
  refine ⟨a, dx, fs, rfl, ha, hl, h1.run F1 σ H1 (ho.mono e1) c1 _ fun F2 H2 M2 vs ds e2 c2 d2 q => ?_⟩
  exact ⟨F2, g [x] ds, M2, Q, Ed, c2, b.relD (.cons (d1.mono e2) .nil) d2, q, fun F3 H3 M3 v d e3 c3 d3 q => hR F3 H3 M3 v d ((e1.trans e2).trans e3) c3 d3 q, px.mono ((s0.trans e1).trans e2)⟩⟩
/-- raise e, e an expression that makes an exception -/
theorem ws_raise {e : Expr} {t : L2.St → Hp → XK → Prop} {rest : List Stmt} {Φ : Fi} (hcm : X.calm = true) (tk : TakesD X F0 Ed) (i : Nat) (hΓ : Γ[i]? = some (some (.pin F0 d0))) (he : PMk X e t)
    (h : ∀ (F : Hp) (σ : L2.St) (H : Hp), EnvOk X.K F Γ σ → Con X.K F M H → ∀ W : XK, postE X.K F Ed W → t σ H W) : WS X (.Raise (some e) none pos :: rest) Γ M Φ := ⟨fun F σ H ho hc E hE => by
  obtain ⟨Ex, tkx, px⟩ := tk
  have s0 := pin_same ho hΓ
  exact ⟨_, pss_cons (ps_raise hcm tkx he) pss_wp, h F σ H ho hc _ (px.mono s0)⟩⟩
end
end DL

set_option Elab.async false
set_option linter.all false
set_option autoImplicit false
set_option maxRecDepth 100000
set_option maxHeartbeats 4000000
namespace DL
open PySem L2 PySem.Spec PyProof.Rows
/-! own classes of errors with an __init__ of their own, over any of Python's -/
/-- what the written part says of such a class -/
structure OexB (K : PySem.W.Frag) (C : Addr) (B newId initId : String) (bmB : List Value) : Prop where
  base : ExcBaseFacts B newId initId bmB
  store : PySem.StoreFacts B bmB "object.__setattr__" "object"
  cls : ∃ nm q N bs bm sn sub ab col dd k0 k1 k2 k3 k5, K.lookup C = some (excClassObj nm q C N bs bm true sn sub ab col dd k0 k1 k2 k3 k5 newId) ∧ PySem.W.excTail bmB bm = true
  over : PySem.W.excOver K C bmB = true
  sa : PySem.W.findIn K (.ref C) "__setattr__" = some (some (.builtin "object.__setattr__"))
  exC : PySem.W.subIn K (.ref C) (.type "BaseException") = some true
  tyC : PySem.W.typeIn K (.ref C) = some (.type "type")
  kC : PySem.W.keepIn K (.ref C) = true
section
open Builtin Builtin.ObjectAttr
variable {prog : Program} {w : World} {A : Around} {E : Value → Shared → Prop} {R : Result → Shared → Prop} {hp : Heap} {g : Array GenState} {d : Drawn} {t : Nat} {os : OsState} {K : PySem.W.Frag} {B newId initId : String} {bmB : List Value}
/-- the first field of a new exception -/
theorem first_field {name : Str} {tk : Tok} {v : Value} {x C : Addr} {fv : Array Value} (T : OexB K C B newId initId bmB) (X : K.In hp) (hx : hp.get? x = some { cls := .ref C, data := .fields fv }) (ha : PySem.W.findIn K (.ref C) name = some none)
    (hq : ∀ h' tk' dx, (∀ b o, b ≠ x → hp.get? b = some o → h'.get? b = some o) → hp.objs.size ≤ dx → dx ≠ x → h'.get? x = some { cls := .ref C, dict := some dx, data := .fields fv } →
      h'.Ns1 dx (fun y => if y = name then some v else none) → R (.ok (.ret .none)) ⟨h', g, d, tk', os⟩) :
    codeAny (model prog w) A (.call (.builtin "object.__setattr__") ⟨[.ref x, .str name tk, v], []⟩) R ⟨hp, g, d, t, os⟩ := by
  obtain ⟨nm, q, N, bs, bm, sn, sub, ab, col, dd, k0, k1, k2, k3, k5, hC, hbm⟩ := T.cls
  have hcl : PySem.W.clsIn K C = some { name := nm, bases := bs, mro := .ref C :: bm, ns := N, qualname := q, hasDict := true, slotNames := sn, subclasses := sub, abstract := ab, collection := col, hasDel := false } := by unfold PySem.W.clsIn; rw [hC] <;> rfl
  have tkr : PySem.W.takerIn K C name = some none := by unfold PySem.W.takerIn; rw [ha]; rfl
  have hxs : x ≠ hp.objs.size := Nat.ne_of_lt (Heap.lt_size hx)
  have looks := PySem.W.looks_clsIn (M := model prog w) X hcl
  refine PySem.W.osa_openX (od := none) T.store X ⟨hx, rfl, rfl, trivial⟩ T.over tkr fun b => ?_
  show wpAny _ _ (storeInOwnDict (.ref x) (.ref C) (.str name tk) name v b) _ _ _
  unfold storeInOwnDict ownDictForStores
  repeat (first | with_reducible refine PySem.HandSPX.store_in_new ?_ ?_ | with_reducible refine wpAny_loadPart_at hx ?_ | with_reducible refine looks.at ?_ | wp_step)
  case refine_1 => exact ⟨_, #[], _, (Heap.get?_update_ne _ _ _ _ hxs.symm).trans (Heap.get?_push_at rfl rfl), rfl, fun e he => absurd he (by simp), fun _ => rfl⟩
  case refine_2 =>
    intro h' tk' hn' hs
    have there := Heap.get?_push_of_some { cls := .type "dict", data := .dict #[] } hx
    exact hq h' tk' hp.objs.size (fun b o hb ho => (hs.2 b (Nat.ne_of_lt (Heap.lt_size ho))).trans ((Heap.get?_update_ne _ _ _ _ hb).trans (Heap.get?_push_of_some _ ho))) (Nat.le_refl _) hxs.symm ((hs.2 x hxs).trans (Heap.get?_update_self _ there rfl)) hn'
end
section
variable {X : Cx} {pins : List (Addr × Obj)} {σ : L2.St} {H : Hp} {s : Shared} {a C : Addr} {f : Str} {y : V} {u : Value} {Q : Unit → Shared → Prop} {E : Value → Shared → Prop} {A : Around} {B newId initId : String} {bmB : List Value}
theorem field_new (T : OexB X.K C B newId initId bmB) (I : Inv X pins σ H s) (e : H a = some (exo a C none)) (hno : PySem.W.findIn X.K (.ref C) f = some none) (ry : RelV y u)
    (h : ∀ dx s', H dx = none → dx ≠ a → Inv X pins σ (upd (upd H dx (exd dx [(f, y)])) a (exo a C (some dx))) s' → Q () s') : wpAny (model X.prog X.w) A (setAttr (.ref a) f u) Q E s := by
  obtain ⟨t1, ho⟩ := exo_at I.hok e
  obtain ⟨hp, g, d, t, os⟩ := s
  refine PySem.W.set_plain I.kIn (ox := { cls := .ref C, dict := none, data := .fields #[.ref t1, .none, .none, .none, .bool false, .none] }) (od := none) ⟨ho, rfl, rfl, trivial⟩ T.sa ?_
  refine first_field T I.kIn ho hno fun h' tk' dx k dn dne hx hn => ?_
  have hnd : H dx = none := I.hok.fresh dn
  have off : ∀ {b : Addr} {o : Obj}, hp.get? b = some o → b ≠ dx := fun q => Nat.ne_of_lt (Nat.lt_of_lt_of_le (Heap.lt_size q) dn)
  have other : ∀ {b : Addr}, H b = none → b ≠ a := fun n z => by subst z; rw [e] at n; cases n
  have same : ∀ {b : Addr} {o : HO}, H b = some o → exo a C none ≠ o → upd (upd H dx (exd dx [(f, y)])) a (exo a C (some dx)) b = some o := fun q n => by rw [upd_ne (at_ne e q n), upd_ne (ne_of_none q hnd)]; exact q
  have U : Un X.fs [] H (upd (upd H dx (exd dx [(f, y)])) a (exo a C (some dx))) hp h' := {
    keep := fun b o q n _ _ => k b o (other n) q
    slot := fun b o q n _ _ => ⟨o.slots, k b o (other n) q⟩
    free := fun b o q n _ => by rw [upd_ne (other n), upd_ne (off q)]; exact n
    there := fun b o q _ => by
      by_cases hb : b = a
      · subst hb; exact ⟨_, hx⟩
      · exact ⟨o, k b o hb q⟩
    tups := fun b xs q => same q exo_tup
    frzs := fun b o v q => same q exo_frz
    tbls := fun b ps q => ⟨#[], by rw [same q exo_tbl]; simp⟩ }
  refine h dx _ hnd dne (I.un (t' := tk') U fun b o q => ?_)
  by_cases hb : b = a
  · subst hb
    rw [upd_same] at q
    cases q
    exact exo_ok hx
  rw [upd_ne hb] at q
  by_cases hd : b = dx
  · subst hd
    rw [upd_same] at q
    cases q
    exact exd_ok hn (relO_put (fs := []) ry fun g => True.intro)
  rw [upd_ne hd] at q
  refine (I.hok b o q).stay (fun c v hc z => k c v ?_ z) (fun c hc => same hc exo_own) (fun c xs hc => same hc exo_tup)
  rcases hc with hc | hc
  · rw [hc]
    exact hb
  · exact at_ne e hc exo_own
end
/-- self.f = e of a new exception of the class at C -/
def tFst (K : PySem.W.Frag) (C : Addr) (f : Str) (to te : TE) : TS := fun D σ H => te σ H fun y H1 => to σ H1 fun x H2 => ∃ a : Addr, x = .ref a ∧ PySem.W.findIn K (.ref C) f = some none ∧ H2 a = some (exo a C none) ∧
  ∀ dx, H2 dx = none → dx ≠ a → D.nx σ (upd (upd H2 dx (exd dx [(f, y)])) a (exo a C (some dx)))
theorem ps_fst {X : Cx} {C : Addr} {f : Str} {o e : Expr} {to te : TE} {p' pos : Pos} {B newId initId : String} {bmB : List Value} (T : OexB X.K C B newId initId bmB) (ho : PE X o to) (he : PE X e te) (hs : swapsWith e (some (.Attribute o f p')) pos.line X.env = pure false := by rfl) :
    PS X (.Assign [.Attribute o f p'] e pos) (tFst X.K C f to te) := by
  refine ⟨fun pins s σ H D I h => ?_⟩
  refine plainObj_wpAny_Assign_Attribute (thn (he.run pins s σ H _ I h) fun v s1 ⟨y, H1, I1, r1, q1⟩ => thn (ho.run pins s1 σ H1 _ I1 q1) fun u s2 ⟨x, H2, I2, r2, a, ex, hno, ea, q⟩ => ?_) hs
  subst ex
  obtain rfl : u = Value.ref a := r2
  exact field_new T I2 ea hno r1 fun dx s' n ne J => ⟨σ, _, J, q dx n ne⟩
/-- __init__(self, v) of such a class, which keeps v as f -/
def spInit (C : Addr) (f : Str) : Sp := fun vs H Q _ => ∃ (a : Addr) (v : V), vs = [.ref a, v] ∧ H a = some (exo a C none) ∧ ∀ dx, H dx = none → dx ≠ a → Q .non (upd (upd H dx (exd dx [(f, v)])) a (exo a C (some dx)))
/-- a class that may be raised as C(e) -/
structure Rz (P : Program) (w : World) (K : PySem.W.Frag) (mg : Str → Option Value) (base : Heap) (x : Str) (C : Addr) (f : Str) : Prop where
  ex : ∃ (B newId initId : String) (bmB : List Value) (fI : Addr) (fd : FuncData) (ps : List Str), OexB K C B newId initId bmB ∧ mg x = some (.ref C) ∧ PySem.W.findIn K (.ref C) "__init__" = some (some (.ref fI)) ∧ PySem.W.typeIn K (.ref fI) = some (.type "function") ∧
    FnOk P w K mg base CX0 1 fI fd ps (spInit C f) ∧ Binds K fd ps []
def tMk1 (C : Addr) (f : Str) (ta : TA) : L2.St → Hp → XK → Prop := fun σ H Q => ta σ H fun vs H1 => ∃ v, vs = [v] ∧ ∀ d, H1 d = none → Q (.ref C) (some d) (upd H1 d (.xd [(f, v)]))
theorem pmk_1 {X : Cx} {x : Str} {C : Addr} {f : Str} {e : Expr} {ta : TA} {j : Nat} {p pos : Pos} (R : Rz X.prog X.w X.K X.mg X.base x C f) (hr : Room j X.A) (hk : 2 ≤ j) (ha : PA X [e] ta) (hg : Gl X x := by rfl)
    (hdb : (x == ("__debug__" : Str)) = false := by decide) (he : starEach [e] X.env = (false, eval e X.env) :: starEach [] X.env := by rfl) (hpl : (backTo pos (starEach [] X.env)).any (·.1) = false := by rfl) :
    PMk X (.Call (.Name x p) [e] [] pos) (tMk1 C f ta) := by
  obtain ⟨B, newId, initId, bmB, fI, fd, ps, T, hm, iC, tI, F, hb⟩ := R.ex
  intro pins s σ H Q I h
  obtain ⟨nm, q, N, bs, bm, sn, sub, ab, col, dd, k0, k1, k2, k3, k5, hC, hbm⟩ := T.cls
  refine wpAny_Call_Name_kw (ld_glob I hg hm ?_ hdb)
  refine PySem.W.callWith_K (h₀ := X.base) I.ok.mod.kin T.kC (thn (ha.run pos pins s σ H _ I h) fun us s1 ⟨vs, H1, I1, r1, v, ev, q1⟩ => ⟨I1.kIn, ?_⟩) he hpl
  subst ev
  obtain ⟨u, rfl, ru⟩ := vals1 r1
  show wpAny _ _ (call (.ref C) [u]) _ _ _
  obtain ⟨hp, g, dr, tk, os⟩ := s1
  have fresh : ∀ {b : Addr}, hp.objs.size ≤ b → H1 b = none := fun h => I1.hok.fresh h
  have na : H1 (hp.objs.size + 1) = none := fresh (Nat.le_succ _)
  have grow : ∀ b o, hp.get? b = some o → ((hp.push (PySem.W.kdv_tup [u])).push (PySem.HandSPX.excO C hp.objs.size)).get? b = some o := fun b o e => Heap.get?_push_of_some _ (Heap.get?_push_of_some _ e)
  have at1 : ((hp.push (PySem.W.kdv_tup [u])).push (PySem.HandSPX.excO C hp.objs.size)).get? (hp.objs.size + 1) = some (PySem.HandSPX.excO C hp.objs.size) := by heap_get
  have I2 : Inv X pins σ (upd H1 (hp.objs.size + 1) (exo (hp.objs.size + 1) C none)) ⟨(hp.push (PySem.W.kdv_tup [u])).push (PySem.HandSPX.excO C hp.objs.size), g, dr, tk, os⟩ :=
    I1.laid (t' := tk) (o := exo (hp.objs.size + 1) C none) grow (Nat.le_succ _) (exo_ok at1)
  generalize ea : hp.objs.size + 1 = a at na at1 I2
  have r2 : Vals [V.ref a, v] [Value.ref a, u] := .cons rfl (.cons ru .nil)
  have hq : spInit C f [V.ref a, v] (upd H1 a (exo a C none)) (fun z H2 => z = .non ∧ ∃ (d : Addr) (fs : List (Str × V)), H2 a = some (exo a C (some d)) ∧ H2 d = some (exd d fs) ∧ H1 d = none ∧ Q (.ref C) (some d) (upd (del H2 a) d (.xd fs))) (fun _ _ _ => False) := by
    refine ⟨a, v, rfl, upd_same, fun d hd hne => ⟨rfl, d, [(f, v)], upd_same, by rw [upd_ne hne, upd_same], ?_, ?_⟩⟩
    · rw [upd_ne hne] at hd
      exact hd
    · have hd' : H1 d = none := by rw [upd_ne hne] at hd; exact hd
      have e : upd (del (upd (upd (upd H1 a (exo a C none)) d (exd d [(f, v)])) a (exo a C (some d))) a) d (.xd [(f, v)]) = upd H1 d (.xd [(f, v)]) := by
        funext b
        by_cases hb : b = d
        · subst hb; rw [upd_same, upd_same]
        · rw [upd_ne hb, upd_ne hb]
          by_cases hba : b = a
          · subst hba; rw [del_same, na]
          · rw [del_ne hba, upd_ne hba, upd_ne hb, upd_ne hba]
      rw [e]
      exact q1 d hd'
  have hl : ([Value.ref a, u] ++ []).length = ps.length := by rw [List.append_nil, ← r2.length]; exact F.len _ _ _ _ hq
  subst ea
  refine wpAny_call (PySem.HandSPX.call_own T.base (fun Y => PySem.W.excTail_contains Y bm hbm) (I1.kIn _ _ hC) (PySem.W.looks_findIn I1.kIn iC) (fun self => PySem.W.bind_fn I1.kIn self tI) (by show 1 ≤ sizeLine; decide)
    (codeAny_mono (F.run _ X.stack _ _ ⟨[Value.ref (hp.objs.size + 1), u], []⟩ ([Value.ref (hp.objs.size + 1), u] ++ []) _ _ (fun _ _ _ => False) ((hr.mono hk).make C [u] []) (I2.env0.make C [u] []) (hb _ [Value.ref (hp.objs.size + 1), u] I2.kIn hl) (by rw [List.append_nil]; exact r2) hq) fun r s' hq' => ?_))
  cases r with
  | error er => exact False.elim hq'
  | ok fl =>
    cases fl with
    | ret z =>
      obtain ⟨v2, H2, os2, bare2, un2, hok2, rv, ez, d, fs, h1, h2, h3, h4⟩ := hq'
      subst ez
      obtain ⟨hh, g2, d2, t2, os'⟩ := s'
      exact ⟨rv, mk_end (raises_own T.exC T.tyC) I1 (Nat.le_succ _) grow un2 hok2 os2 bare2 h1 h2 h3 h4⟩
    | next => exact False.elim hq'
    | brk => exact False.elim hq'
    | cont => exact False.elim hq'
section
variable {X : Cx} {Γ : G} {M : MM} {pos p : Pos} {j : Nat} {x : Str} {F0 : Hp} {d0 : D} {Ed : ED} {C : Addr} {f : Str}
/-- raise C(e) -/
theorem ws_raise1 {e : Expr} {rest : List Stmt} {Φ : Fi} (R : Rz X.prog X.w X.K X.mg X.base x C f) (hr : Room j X.A) (hk : 2 ≤ j) (tk : TakesD X F0 Ed) (i : Nat) (hΓ : Γ[i]? = some (some (.pin F0 d0))) (h : WE X e Γ M fun d M1 => Ed (.ref C) [f] [d] M1) (hcm : X.calm = true := by rfl) (hg : Gl X x := by rfl)
    (hdb : (x == ("__debug__" : Str)) = false := by decide) (he : starEach [e] X.env = (false, eval e X.env) :: starEach [] X.env := by rfl) (hpl : (backTo p (starEach [] X.env)).any (·.1) = false := by rfl) {q : Pos} :
    WS X (.Raise (some (.Call (.Name x q) [e] [] p)) none pos :: rest) Γ M Φ :=
  ws_raise hcm tk i hΓ (pmk_1 R hr hk pa_wp hg hdb he hpl) fun F σ H ho hc W hW =>
    (wa_cons (h.imp fun d M1 z => wa_nil ⟨d, rfl, z⟩) he : WA X [e] Γ M fun ds M1 => ∃ d, ds = [d] ∧ Ed (.ref C) [f] [d] M1) |>.run F σ H ho hc _ fun F1 H1 M1 vs ds e1 c1 d1 ⟨d, hd, z⟩ => by
      subst hd
      obtain ⟨v, rfl, dv⟩ := d1.one
      exact ⟨v, rfl, fun dx hx => hW F1 _ M1 (.ref C) (some dx) [(f, v)] [d] e1 (c1.newH hx) (.inr ⟨dx, rfl, upd_same⟩) (.cons dv .nil) z⟩
end
end DL

set_option Elab.async false
set_option linter.all false
set_option autoImplicit false
set_option maxRecDepth 100000
set_option maxHeartbeats 4000000
namespace DL
open PySem L2 PySem.Spec PyProof.Rows
/-- a class whose __init__(self, v) says self.f = v -/
theorem rz_of {P : Program} {w : World} {K : PySem.W.Frag} {mg : Str → Option Value} {base : Heap} {x qual v f : Str} {C fI : Addr} {fd : FuncData} {st : Stmt} {B newId initId : String} {bmB : List Value} {p1 p2 p3 p4 : Pos}
    (T : OexB K C B newId initId bmB) (hm : mg x = some (.ref C)) (hno : PySem.W.findIn K (.ref C) f = some none) (iC : PySem.W.findIn K (.ref C) "__init__" = some (some (.ref fI))) (tI : PySem.W.typeIn K (.ref fI) = some (.type "function"))
    (F : Fun K "__init__" qual st fI fd) (S : FnScope ["self", v] ["self", v] (defScope st)) (hb : defBody st = [.Assign [.Attribute (.Name "self" p1) f p2] (.Name v p3) p4]) (b : Binds K fd ["self", v] [])
    (s1 : Vis (defScope st) "self" := by first | exact Or.inl rfl | exact Or.inr (Or.inl rfl) | exact Or.inr (Or.inr rfl)) (s2 : Vis (defScope st) v := by first | exact Or.inl rfl | exact Or.inr (Or.inl rfl) | exact Or.inr (Or.inr rfl))
    (d1 : (v == ("__debug__" : Str)) = false := by decide) (d2 : (v == ("__classdict__" : Str)) = false := by decide) : Rz P w K mg base x C f := by
  refine ⟨B, newId, initId, bmB, fI, fd, ["self", v], T, hm, iC, tI, ?_, b⟩
  refine F.ok S (fun vs H Q E ⟨a, y, e, _⟩ => by rw [e]; rfl) fun cdv A outer s H vs Q E hr ⟨a, y, e, h1, h2⟩ => ?_
  subst e
  rw [hb]
  refine ⟨_, pss_one (ps_fst T (pe_var (i := 0) rfl s1 (by decide) (by decide)) (pe_var (i := 1) rfl s2 d1 d2)), ?_⟩
  exact ⟨y, rfl, .ref a, rfl, a, rfl, hno, h1, fun dx n ne => h2 dx n ne⟩
end DL

set_option Elab.async false
set_option linter.all false
set_option autoImplicit false
set_option maxRecDepth 100000
set_option maxHeartbeats 4000000
namespace DL
open PySem L2 PySem.Spec PyProof.Rows
/-! try with any clauses: a class or a tuple of classes, with a name or without -/
/-- the clause's test t tells whether the exception is of one of the classes cs -/
def TestG (X : Cx) (t : Expr) (cs : List Value) : Prop := ∀ (a : Addr) (oe : Obj) (pn : List (Addr × Obj)) (σ : L2.St) (H : Hp) (s : Shared), Inv (X.suite a ((a, oe) :: pn)) [] σ H s → ∀ (cls : Value) (b : Bool),
  PySem.W.Looks (model X.prog X.w) s.heap (typeOf (.ref a)) cls → PySem.W.exmAny X.K cls cs = some b → ∀ (E : Value → Shared → Prop) (Q : Bool → Shared → Prop), (∀ h' tk, (∀ b o, s.heap.get? b = some o → h'.get? b = some o) → Q b { s with heap := h', toks := tk }) →
    wpAny (model X.prog X.w) (X.A.mark (some (.ref a))) (eval t X.env) (fun c s₁ => wpAny (model X.prog X.w) (X.A.mark (some (.ref a))) (excMatches (.ref a) c) Q E s₁) E s
theorem name_at {X : Cx} {x : Str} {c : Value} {np : Pos} {a : Addr} {oe : Obj} {pn : List (Addr × Obj)} {σ : L2.St} {H : Hp} {s : Shared} {Q : Value → Shared → Prop} {E : Value → Shared → Prop} (hc : Names X x c) (I : Inv (X.suite a ((a, oe) :: pn)) [] σ H s) (q : Q c s) :
    wpAny (model X.prog X.w) (X.A.mark (some (.ref a))) (eval (.Name x np) X.env) Q E s := by
  obtain ⟨hg, hdbg, hm | ⟨hm, hv, hnn⟩⟩ := hc
  · exact ld_glob (X := X.suite a ((a, oe) :: pn)) I hg hm q hdbg
  · exact ld_blt (X := X.suite a ((a, oe) :: pn)) I hg hm hv q hnn hdbg
theorem test_1 {X : Cx} {x : Str} {c : Value} {np : Pos} (hc : Names X x c) : TestG X (.Name x np) [c] := fun a oe pn σ H s I cls b LT hb E Q q => by
  obtain ⟨b1, d1, h1, h2, h3⟩ := PySem.W.exmAny_cons hb
  have z : some false = some d1 := h2
  cases z
  rw [Bool.or_false] at h3
  subst h3
  exact name_at hc I ((PySem.W.exm_one (M := model X.prog X.w) I.kIn LT h1).here (q s.heap s.toks fun _ _ z => z))
theorem test_2 {X : Cx} {x1 x2 : Str} {c1 c2 : Value} {p1 p2 tpos : Pos} {kk : Nat} (n1 : Names X x1 c1) (n2 : Names X x2 c2) : TestG X (.Tuple [.Name x1 p1, .Name x2 p2] kk tpos) [c1, c2] := fun a oe pn σ H s I cls b LT hb E Q q => by
  have kp : ∀ q o, s.heap.get? q = some o → (s.heap.push (PySem.W.kdv_tup [c1, c2])).get? q = some o := fun _ _ z => Heap.get?_push_of_some _ z
  refine wpAny_Tuple (wpAny_items_cons (name_at n1 I (wpAny_items_cons (name_at n2 I (wpAny_items_nil ⟨by size_fits, ?_⟩)))))
  exact (PySem.W.exm_tup2 (I.kIn.keeps kp) (LT.keeps kp) (Heap.get?_push_size s.heap rfl) hb).here (q _ _ kp)
theorem test_3 {X : Cx} {x1 x2 x3 : Str} {c1 c2 c3 : Value} {p1 p2 p3 tpos : Pos} {kk : Nat} (n1 : Names X x1 c1) (n2 : Names X x2 c2) (n3 : Names X x3 c3) : TestG X (.Tuple [.Name x1 p1, .Name x2 p2, .Name x3 p3] kk tpos) [c1, c2, c3] := fun a oe pn σ H s I cls b LT hb E Q q => by
  have kp : ∀ q o, s.heap.get? q = some o → (s.heap.push (PySem.W.kdv_tup [c1, c2, c3])).get? q = some o := fun _ _ z => Heap.get?_push_of_some _ z
  refine wpAny_Tuple (wpAny_items_cons (name_at n1 I (wpAny_items_cons (name_at n2 I (wpAny_items_cons (name_at n3 I (wpAny_items_nil ⟨by size_fits, ?_⟩)))))))
  exact (PySem.W.exm_tup3 (I.kIn.keeps kp) (LT.keeps kp) (Heap.get?_push_size s.heap rfl) hb).here (q _ _ kp)
/-- a clause: its classes, the slot of its name, its suite's reading -/
structure Cls1 where
  cs : List Value
  nm : Option Nat
  ts : Addr → Value → Option Addr → TS
def suiteE (o : Option Nat) (D : Ends) : Ends := match o with
  | none => D
  | some i => { nx := fun σ H => D.nx (σ.set i none) H, rt := D.rt, bk := fun σ H => D.bk (σ.set i none) H, ct := fun σ H => D.ct (σ.set i none) H }
def suiteS (o : Option Nat) (a : Addr) (σ : L2.St) : L2.St := match o with
  | none => σ
  | some i => σ.set i (some (.ref a))
def wG (K : PySem.W.Frag) (Wout : WX) (D : Ends) : List Cls1 → WX
  | [] => Wout
  | c :: r => fun cls d σ H => ∃ b, PySem.W.exmAny K cls c.cs = some b ∧ (b = true → ∀ a, H a = none → c.ts a cls d (suiteE c.nm D) (suiteS c.nm a σ) H) ∧ (b = false → wG K Wout D r cls d σ H)
inductive ClsOk (X : Cx) : List ExceptHandler → List Cls1 → Prop
  | nil : ClsOk X [] []
  | plain {t : Expr} {cs : List Value} {ts : Addr → Value → Option Addr → TS} {b₀ : Stmt} {suite : List Stmt} {q : Pos} {hds : List ExceptHandler} {l : List Cls1} (ht : TestG X t cs)
      (hsu : ∀ (a : Addr) (oe : Obj) (cls : Value) (d : Option Addr) (pn : List (Addr × Obj)), Zc cls d oe → (∃ vs, oe.data = .fields vs) → PSs (X.suite a ((a, oe) :: pn)) (b₀ :: suite) (ts a cls d)) (r : ClsOk X hds l) :
      ClsOk X (.ExceptHandler (some t) none (b₀ :: suite) q :: hds) (⟨cs, none, ts⟩ :: l)
  | named {t : Expr} {cs : List Value} {ts : Addr → Value → Option Addr → TS} {b₀ : Stmt} {suite : List Stmt} {q : Pos} {hds : List ExceptHandler} {l : List Cls1} {n : Str} {i : Nat} (ht : TestG X t cs) (hN : X.N.Nodup) (hi : X.N[i]? = some n) (hn : X.env.kindOf n = some .local)
      (hsu : ∀ (a : Addr) (oe : Obj) (cls : Value) (d : Option Addr) (pn : List (Addr × Obj)), Zc cls d oe → (∃ vs, oe.data = .fields vs) → PSs (X.suite a ((a, oe) :: pn)) (b₀ :: suite) (ts a cls d)) (r : ClsOk X hds l) :
      ClsOk X (.ExceptHandler (some t) (some n) (b₀ :: suite) q :: hds) (⟨cs, some i, ts⟩ :: l)
theorem flying_kept {B h h' : Heap} {l : List Env} {a : Addr} {Z : Obj → Prop} (R : HandSPX.FlyingZ B l a Z h) (k : ∀ b o, h.get? b = some o → h'.get? b = some o) : HandSPX.FlyingZ B l a Z h' := by
  obtain ⟨f1, f2, f3, oe, vs, T, oT, ts, g1, g2, g3, g4, g5, g6, g7, g8, g9⟩ := R
  exact ⟨fun b o q => k b o (f1 b o q), f2, f3.of_keeps fun b o q _ => ⟨o, k b o q, rfl⟩, oe, vs, T, oT, ts, k _ _ g1, g2, g3, g4, g5, g6, k _ _ g7, g8, g9⟩
section
variable {X : Cx} {pins : List (Addr × Obj)} {W : WX} {a : Addr} {B : Heap} {σ : L2.St} {H : Hp} {sI : Shared} {cls : Value} {d : Option Addr} {D : Ends}
/-- the exception has landed: the clauses, one after the other -/
theorem clauses_ok (hs : X.stack = X.env :: X.outer) (hf : X.env.frame = some X.env.locals) (tk : Takes X W) (J : Inv X pins σ H sI) (nb : ∀ b o, sI.heap.get? b = some o → b ∉ frs X.stack → B.get? b = some o) (na : H a = none) :
    ∀ {hds : List ExceptHandler} {l : List Cls1}, ClsOk X hds l → ∀ s : Shared, HandSPX.FlyingZ B (X.env :: X.outer) a (Zc cls d) s.heap → sI.heap.UpToSlots s.heap → s.os = sI.os → AllBare s.gens → wG X.K W D l cls d σ H →
      wpAny (model X.prog X.w) X.A (handleBy (.ref a) X.env hds) (SP X pins D) X.xe s := by
  have ok := J.ok
  have landed : ∀ {s : Shared}, HandSPX.FlyingZ B (X.env :: X.outer) a (Zc cls d) s.heap → sI.heap.UpToSlots s.heap → s.os = sI.os → AllBare s.gens → ∃ oe vs, s.heap.get? a = some oe ∧ Zc cls d oe ∧ oe.data = .fields vs ∧ Inv (X.suite a ((a, oe) :: (X.pn ++ pins))) [] σ H s := fun {s} fl up os ag => by
    obtain ⟨oe, vs, h1, h2, h3⟩ := fl.there
    have nfr : a ∉ frs (X.env :: X.outer) := fun hm => by
      obtain ⟨_, o', e', hnf⟩ := fl.2.2.1.mem hm
      rw [h1] at e'
      cases e'
      exact hnf _ h3
    refine ⟨oe, vs, h1, h2, h3, (J.landed nb fl.1 up os ag).suite h1 h3 na (fun z => nfr (List.mem_filterMap.mpr ⟨X.env, List.mem_cons_self, by rw [hf, z]⟩)) fun hm => ?_⟩
    obtain ⟨e, he, q⟩ := List.mem_filterMap.mp hm
    exact nfr (List.mem_filterMap.mpr ⟨e, List.mem_cons_of_mem _ he, q⟩)
  have keepU : ∀ {h h' : Heap}, sI.heap.UpToSlots h → (∀ b o, h.get? b = some o → h'.get? b = some o) → sI.heap.UpToSlots h' := fun {h h'} up k => up.trans (Heap.UpToSlots.of_keeps k)
  intro hds l hk
  induction hk with
  | nil =>
    intro s fl up os ag w
    refine wpAny_handleBy_nil ?_
    obtain ⟨_, _, _, oe, vs, T, oT, ts', he, _, hd, h1, _⟩ := id fl
    unfold PySem.passOn
    refine wpAny_bind (wpAny_field he hd h1 ?_)
    rw [if_neg (show ¬ ((Value.ref T == Value.none) = true) from by simp)]
    have last : wpAny (model X.prog X.w) X.A (setFlight (.ref a) X.env.frame) (fun _ s4 => wpAny (model X.prog X.w) X.A (throw (.ref a) : Sem Flow) (SP X pins D) X.xe s4) X.xe s := by
      rw [hf]
      exact HandSPX.setFlight_upZ fl fun h4 hh4 up4 => wpAny_throw (tk _ _ ⟨a, B, sI, pins, σ, H, cls, d, rfl, J, nb, up.trans up4, .inr (.inr (by rw [hs]; exact hh4)), na, os, ag, w⟩)
    first
      | exact wpAny_bind (wpAny_pure (wpAny_bind last))
      | exact wpAny_bind last
  | @plain t cs ts b₀ suite q hds2 l2 ht hsu r ih =>
    intro s fl up os ag ⟨b, hb1, hyes, hno⟩
    obtain ⟨oe, vs, h1, h2, h3, S⟩ := landed fl up os ag
    have LT : PySem.W.Looks (model X.prog X.w) s.heap (typeOf (.ref a)) cls := fun A Q E s k q => wpAny_typeOf_ref (k _ _ h1) (by rw [h2.1]; exact q)
    refine wpAny_handleBy_cons (codeAny_handlers_test (ht a oe _ σ H s S cls b LT hb1 _ _ fun h' tk k => ?_)) (by intro z; cases z)
    have fl' := flying_kept fl k
    cases b with
    | true =>
      refine codeAny_handlers_suite (HandSPX.lands_againZ fl' fun h4 fl4 up4 => ?_)
      obtain ⟨oe4, vs4, g1, g2, g3, S4⟩ := landed (s := { s with heap := h4, toks := tk }) fl4 ((keepU up k).trans up4) os ag
      refine wpAny_mono ((hsu a oe4 cls d (X.pn ++ pins) g2 ⟨_, g3⟩).run [] _ _ H _ S4 (hyes rfl a na)) (fun f s6 hsp => ?_) (fun _ _ z => False.elim z)
      cases f with
      | ret u =>
        obtain ⟨v6, σ6, H6, S6, r6, q6⟩ := hsp
        exact ⟨_, _, _, S6.unsuite ok, r6, q6⟩
      | _ =>
        obtain ⟨σ6, H6, S6, q6⟩ := hsp
        exact ⟨_, _, S6.unsuite ok, q6⟩
    | false => exact ih { s with heap := h', toks := tk } fl' (keepU up k) os ag (hno rfl)
  | @named t cs ts b₀ suite q hds2 l2 n i ht hN hi hn hsu r ih =>
    intro s fl up os ag ⟨b, hb1, hyes, hno⟩
    obtain ⟨oe, vs, h1, h2, h3, S⟩ := landed fl up os ag
    have LT : PySem.W.Looks (model X.prog X.w) s.heap (typeOf (.ref a)) cls := fun A Q E s k q => wpAny_typeOf_ref (k _ _ h1) (by rw [h2.1]; exact q)
    refine wpAny_handleBy_cons (codeAny_handlers_test (ht a oe _ σ H s S cls b LT hb1 _ _ fun h' tk k => ?_)) (by intro z; cases z)
    have fl' := flying_kept fl k
    cases b with
    | true =>
      refine codeAny_handlers_suite_as (HandSPX.lands_againZ fl' fun h4 fl4 up4 => ?_)
      obtain ⟨oe4, vs4, g1, g2, g3, S4⟩ := landed (s := { s with heap := h4, toks := tk }) fl4 ((keepU up k).trans up4) os ag
      refine store_ok (X := X.suite a ((a, oe4) :: (X.pn ++ pins))) (v := .ref a) S4 hN hi (.inl hn) rfl (fun s5 S5 => ?_) (.inr hn)
      refine wpAny_mono ((hsu a oe4 cls d (X.pn ++ pins) g2 ⟨_, g3⟩).run [] s5 _ H _ S5 (hyes rfl a na)) (fun f s6 hsp => ?_) (fun _ _ z => False.elim z)
      cases f with
      | ret u =>
        obtain ⟨v6, σ6, H6, S6, r6, q6⟩ := hsp
        exact gone_ok (S6.unsuite ok) hN hi hn fun s7 J7 => ⟨_, _, _, J7, r6, q6⟩
      | _ =>
        obtain ⟨σ6, H6, S6, q6⟩ := hsp
        exact gone_ok (S6.unsuite ok) hN hi hn fun s7 J7 => ⟨_, _, J7, q6⟩
    | false => exact ih { s with heap := h', toks := tk } fl' (keepU up k) os ag (hno rfl)
end
section
variable {X : Cx} {body : List Stmt} {h₀ : ExceptHandler} {hds : List ExceptHandler} {l : List Cls1} {pos : Pos} {tb : WX → TS} {Wout : WX}
theorem ps_tryG (hs : X.stack = X.env :: X.outer) (hf : X.env.frame = some X.env.locals) (tk : Takes X Wout)
    (hb : ∀ (W : WX) (pn : List (Addr × Obj)) (xe : Value → Shared → Prop), Takes (X.tr pn xe) W → PassesOwn (model X.prog X.w) X.A X.env xe → PSs (X.tr pn xe) body (tb W)) (hh : ClsOk X (h₀ :: hds) l) :
    PS X (.Try body (h₀ :: hds) [] [] pos) (fun D σ H => tb (wG X.K Wout D l) D σ H) := by
  refine ⟨fun pins s σ H D I h => wpAny_Try_except ?_⟩
  have ok := I.ok
  let xe : Value → Shared → Prop := fun e s₁ => wpAny (model X.prog X.w) X.A (noteFrame e X.env) (fun _ s₂ => wpAny (model X.prog X.w) X.A (setFlight e none) (fun _ s₃ => wpAny (model X.prog X.w) X.A (handleBy e X.env (h₀ :: hds)) (SP X pins D) X.xe s₃) X.xe s₂) X.xe s₁
  have tk2 : Takes (X.tr (X.pn ++ pins) xe) (wG X.K Wout D l) := fun u s' ⟨a, B, sI, pins', σ', H', cls, d, e, J', nb, up, sky, na, os, ag, w⟩ => by
    subst e
    exact Sky.land Zc.steady (by rw [ok.frames, hs]) hf (by rw [← hs]; exact sky) fun h3 fl3 up3 => clauses_ok hs hf tk (J'.ofTry ok) nb na hh { s' with heap := h3 } fl3 (up.trans up3) os ag w
  refine wpAny_mono ((hb _ _ xe tk2 PassesOwn.looking).run [] s σ H D (I.toTry _) h) (fun f s1 hsp => ?_) (fun e s1 he => he)
  cases f with
  | next =>
    obtain ⟨σ', H', J', q⟩ := hsp
    exact wpAny_execs_nil ⟨σ', H', J'.ofTry ok, q⟩
  | ret u =>
    obtain ⟨v, σ', H', J', r, q⟩ := hsp
    exact ⟨v, σ', H', J'.ofTry ok, r, q⟩
  | _ =>
    obtain ⟨σ', H', J', q⟩ := hsp
    exact ⟨σ', H', J'.ofTry ok, q⟩
end
end DL

set_option Elab.async false
set_option linter.all false
set_option autoImplicit false
set_option maxRecDepth 100000
set_option maxHeartbeats 4000000
namespace DL
open PySem L2 PySem.Spec PyProof.Rows
/-! try over data -/
theorem TakesD.mono {X : Cx} {F F1 : Hp} {Ed : ED} (t : TakesD X F Ed) (e : Same F F1) : TakesD X F1 Ed := let ⟨E, a, b⟩ := t; ⟨E, a, b.mono e⟩
theorem takesD0 {X : Cx} {F : Hp} : TakesD X F (fun _ _ _ _ => False) := ⟨fun _ _ _ => False, takes0, fun _ _ _ _ _ _ _ _ _ _ _ h => h⟩
/-- what stands at b is known to stay from now on -/
theorem Con.keep {K : PySem.W.Frag} {F H : Hp} {M : MM} {b : Addr} {o : HO} (c : Con K F M H) (hb : H b = some o) (h1 : ∀ vs, o ≠ .lst vs) (h2 : ∀ C dx fs, o ≠ .ins C dx fs) (h3 : ∀ a, o ≠ .own a) (h4 : ∀ ps, o ≠ .tbl ps) : ∃ F2, Same F F2 ∧ Con K F2 M H ∧ F2 b = some o := by
  have e : Same F (upd F b o) := fun x u q => by
    by_cases hx : x = b
    · subst hx
      have := c.sub _ _ q
      rw [hb] at this
      cases this
      exact upd_same
    · rw [upd_ne hx]; exact q
  refine ⟨_, e, ⟨fun x u q => ?_, fun a m q => ?_, fun a ps q => ?_, c.one⟩, upd_same⟩
  rotate_right
  · by_cases hx : a = b
    · subst hx; rw [upd_same] at q; exact h4 ps (Option.some.inj q)
    · rw [upd_ne hx] at q; exact c.ntb a ps q
  · by_cases hx : x = b
    · subst hx; rw [upd_same] at q; cases q; exact hb
    · rw [upd_ne hx] at q; exact c.sub _ _ q
  · obtain ⟨f0, k⟩ := c.chg a m q
    have hx : a ≠ b := fun z => by
      subst z
      cases m with
      | lst ds => obtain ⟨vs, z, _⟩ := k; rw [hb] at z; exact h1 _ (Option.some.inj z)
      | tabs T =>
        obtain ⟨⟨q, r, e⟩, k2⟩ := k
        subst e
        obtain ⟨ps, z, _⟩ := k2 _ List.mem_cons_self
        rw [hb] at z
        exact h4 _ (Option.some.inj z)
      | ins C ns ds => obtain ⟨dx, fs, z, _⟩ := k; rw [hb] at z; exact h2 _ _ _ (Option.some.inj z)
    refine ⟨by rw [upd_ne hx]; exact f0, k.mono e fun dx z1 z2 => ?_⟩
    have : dx ≠ b := fun z => by subst z; rw [hb] at z1; exact h3 _ (Option.some.inj z1)
    rw [upd_ne this]; exact z2
theorem Con.keepX {K : PySem.W.Frag} {F H : Hp} {M : MM} {d : Option Addr} {fs : List (Str × V)} (c : Con K F M H) (x : ExX H d fs) : ∃ F2, Same F F2 ∧ Con K F2 M H ∧ ExX F2 d fs := by
  rcases x with ⟨h1, h2⟩ | ⟨dx, h1, h2⟩
  · exact ⟨F, Same.refl F, c, .inl ⟨h1, h2⟩⟩
  · obtain ⟨F2, a, b, e⟩ := c.keep h2 (fun _ z => by cases z) (fun _ _ _ z => by cases z) (fun _ z => by cases z) (fun _ z => by cases z)
    exact ⟨F2, a, b, .inr ⟨dx, h1, e⟩⟩
/-- a clause: its classes, the slot of its name, its suite -/
structure ClD where
  cs : List Value
  nm : Option Nat
  su : List Stmt
def noG (X : Cx) : G := List.replicate X.N.length none
def suiteG (X : Cx) (o : Option Nat) (d : D) : G := match o with
  | none => noG X
  | some i => (noG X).set i (some d)
def suiteF (o : Option Nat) (Φ : Fi) : Fi := match o with
  | none => Φ
  | some i => { nx := fun Γ M => Φ.nx (Γ.set i none) M, rt := Φ.rt, bk := fun Γ M => Φ.bk (Γ.set i none) M, ct := fun Γ M => Φ.ct (Γ.set i none) M }
/-- what is wished of an exception of the body -/
def EgG (X : Cx) (Φ : Fi) (Ed : ED) : List ClD → ED
  | [] => Ed
  | c :: r => fun cls ns es M => ∃ b, PySem.W.exmAny X.K cls c.cs = some b ∧ (b = true → ∀ (a : Addr) (d : Option Addr) (oe : Obj) (pn : List (Addr × Obj)), Zc cls d oe → (∃ vs, oe.data = .fields vs) → WS (X.suite a ((a, oe) :: pn)) c.su (suiteG X c.nm (.xcp a d ns es)) M (suiteF c.nm Φ)) ∧
      (b = false → EgG X Φ Ed r cls ns es M)
inductive ClsD (X : Cx) : List ExceptHandler → List ClD → Prop
  | nil : ClsD X [] []
  | plain {t : Expr} {cs : List Value} {b₀ : Stmt} {suite : List Stmt} {q : Pos} {hds : List ExceptHandler} {l : List ClD} (ht : TestG X t cs) (r : ClsD X hds l) : ClsD X (.ExceptHandler (some t) none (b₀ :: suite) q :: hds) (⟨cs, none, b₀ :: suite⟩ :: l)
  | named {t : Expr} {cs : List Value} {b₀ : Stmt} {suite : List Stmt} {q : Pos} {hds : List ExceptHandler} {l : List ClD} {n : Str} (i : Nat) (ht : TestG X t cs) (hN : X.N.Nodup) (hi : X.N[i]? = some n) (hn : X.env.kindOf n = some .local) (r : ClsD X hds l) :
      ClsD X (.ExceptHandler (some t) (some n) (b₀ :: suite) q :: hds) (⟨cs, some i, b₀ :: suite⟩ :: l)
def ClD.one (X : Cx) (c : ClD) : Cls1 := ⟨c.cs, c.nm, fun a cls d D σ H => σ.length = X.N.length → ∀ (oe : Obj) (pn : List (Addr × Obj)), Zc cls d oe → (∃ vs, oe.data = .fields vs) → wpSs (X.suite a ((a, oe) :: pn)) c.su D σ H⟩
theorem suite_pss {X : Cx} {a : Addr} {oe : Obj} {cls : Value} {d : Option Addr} {pn : List (Addr × Obj)} {su : List Stmt} (hz : Zc cls d oe) (hv : ∃ vs, oe.data = .fields vs) :
    PSs (X.suite a ((a, oe) :: pn)) su (fun D σ H => σ.length = X.N.length → ∀ (oe : Obj) (pn : List (Addr × Obj)), Zc cls d oe → (∃ vs, oe.data = .fields vs) → wpSs (X.suite a ((a, oe) :: pn)) su D σ H) :=
  ⟨fun pins s σ H D I h => pss_wp.run pins s σ H D I (h I.len oe pn hz hv)⟩
theorem ClsD.ok {X : Cx} : ∀ {hds : List ExceptHandler} {l : List ClD}, ClsD X hds l → ClsOk X hds (l.map (ClD.one X))
  | _, _, .nil => .nil
  | _, _, .plain ht r => .plain ht (fun _ _ _ _ _ hz hv => suite_pss hz hv) r.ok
  | _, _, .named i ht hN hi hn r => .named ht hN hi hn (fun _ _ _ _ _ hz hv => suite_pss hz hv) r.ok
theorem noG_ok {X : Cx} {K : PySem.W.Frag} {F : Hp} {σ : L2.St} (h : σ.length = X.N.length) : EnvOk K F (noG X) σ := ⟨by unfold noG; rw [List.length_replicate]; exact h, fun i d e => by
  unfold noG at e
  rw [List.getElem?_replicate] at e
  split at e <;> cases e⟩
theorem EnvOk.unset {K : PySem.W.Frag} {F : Hp} {Γ : G} {σ : L2.St} (h : EnvOk K F Γ σ) (i : Nat) : EnvOk K F (Γ.set i none) (σ.set i none) := by
  refine ⟨by rw [List.length_set, List.length_set]; exact h.len, fun j d e => ?_⟩
  by_cases hj : i = j
  · subst hj
    by_cases hl : i < Γ.length
    · rw [List.getElem?_set_self hl] at e; cases e
    · rw [List.getElem?_eq_none (by simpa using hl)] at e; cases e
  · rw [List.getElem?_set_ne hj] at e
    rw [List.getElem?_set_ne hj]
    exact h.get j d e
theorem EndsOk.suite {K : PySem.W.Frag} {F : Hp} {Φ : Fi} {E : Ends} (h : EndsOk K F Φ E) (o : Option Nat) : EndsOk K F (suiteF o Φ) (suiteE o E) := by
  cases o with
  | none => exact h
  | some i => exact ⟨fun F' σ' H' Γ' M' a b c q => h.nx F' _ H' _ M' a (b.unset i) c q, h.rt, fun F' σ' H' Γ' M' a b c q => h.bk F' _ H' _ M' a (b.unset i) c q, fun F' σ' H' Γ' M' a b c q => h.ct F' _ H' _ M' a (b.unset i) c q⟩
theorem wG_of {X : Cx} {F : Hp} {Φ : Fi} {Ed : ED} {Eo : XK} {E : Ends} (po : postE X.K F Ed Eo) (hE : EndsOk X.K F Φ E) {F' H' : Hp} {M' : MM} {cls : Value} {d : Option Addr} {fs : List (Str × V)} {es : List D} (s1 : Same F F') (c1 : Con X.K F' M' H') (hx : ExX H' d fs) (hd : Dns X.K F' (fs.map (·.2)) es) {σ : L2.St} (hl : σ.length = X.N.length) :
    ∀ {l : List ClD}, EgG X Φ Ed l cls (fs.map (·.1)) es M' → wG X.K (fun cls d _ H => Eo cls d H) E (l.map (ClD.one X)) cls d σ H'
  | [], h => po F' H' M' cls d fs es s1 c1 hx hd h
  | c :: r, ⟨b, h1, h2, h3⟩ => by
    refine ⟨b, h1, fun hb a na => ?_, fun hb => wG_of po hE s1 c1 hx hd hl (h3 hb)⟩
    intro _ oe pn hz hv
    obtain ⟨F2, s2, c2, x2⟩ := c1.keepX hx
    have eo : EnvOk X.K F2 (suiteG X c.nm (.xcp a d (fs.map (·.1)) es)) (suiteS c.nm a σ) := by
      cases c.nm with
      | none => exact noG_ok hl
      | some i => exact (noG_ok hl).set (.xcp x2 rfl (hd.mono s2))
    exact (h2 hb a d oe pn hz hv).run F2 _ H' eo c2 _ ((hE.mono (s1.trans s2)).suite _)
section
variable {X : Cx} {Γ : G} {M : MM} {Φ : Fi} {pos : Pos} {body rest : List Stmt} {h₀ : ExceptHandler} {hds : List ExceptHandler} {l : List ClD} {F0 : Hp} {d0 : D} {Ed : ED}
theorem ws_tryC (j : Nat) (d0 : D) (hn : noPin d0 = true) (tkF : ∀ F σ, EnvOk X.K F Γ σ → TakesD X F Ed) (hp : ∀ F v, (∃ d, Γ[j]? = some (some d) ∧ Dn X.K F v d) → Dn X.K F v d0) (hj : ∃ d, Γ[j]? = some (some d)) (hs : X.stack = X.env :: X.outer) (hf : X.env.frame = some X.env.locals) (hc : ClsD X (h₀ :: hds) l)
    (hb : ∀ F1 σ, EnvOk X.K F1 Γ σ → ∀ (pn : List (Addr × Obj)) (xe : Value → Shared → Prop), TakesD (X.tr pn xe) F1 (EgG X { Φ with nx := fun Γ' M' => WS X rest Γ' M' Φ } Ed l) → PassesOwn (model X.prog X.w) X.A X.env xe →
      WS (X.tr pn xe) body (Γ.set j (some (.pin F1 d0))) M { Φ with nx := fun Γ' M' => WS X rest Γ' M' Φ }) : WS X (.Try body (h₀ :: hds) [] [] pos :: rest) Γ M Φ := ⟨fun F σ H ho hco E hE => by
  obtain ⟨Eo, tko, pxo⟩ := tkF F σ ho
  refine ⟨_, pss_cons (ps_tryG (tb := fun W D σ H => ∀ (pn : List (Addr × Obj)) (xe : Value → Shared → Prop), Takes (X.tr pn xe) W → PassesOwn (model X.prog X.w) X.A X.env xe → wpSs (X.tr pn xe) body D σ H) hs hf tko
    (fun W pn xe tk pw => ⟨fun pins s σ H D I h => pss_wp.run pins s σ H D I (h pn xe tk pw)⟩) hc.ok) pss_wp, ?_⟩
  intro pn xe tkW po
  have hE2 := ends_seq (rest := rest) hE
  refine (hb F σ ho pn xe ⟨fun cls d H => ∀ σ : L2.St, σ.length = X.N.length → wG X.K (fun cls d _ H => Eo cls d H) { E with nx := wpSs X rest E } (l.map (ClD.one X)) cls d σ H, (takes_len tkW).imp (fun cls d σ H h => h σ), fun F' H' M' cls d fs es s1 c1 hx hd h σ hl => wG_of pxo hE2 s1 c1 hx hd hl h⟩ po).run F σ H ?_ hco _ hE2
  obtain ⟨dj, hdj⟩ := hj
  obtain ⟨v, hv1, hv2⟩ := ho.get j dj hdj
  have e : σ = σ.set j (some v) := by
    obtain ⟨hlt, hv⟩ := List.getElem?_eq_some_iff.mp hv1
    rw [← hv, List.set_getElem_self]
  rw [e]
  exact ho.set (.pin (Same.refl F) hn (hp F v ⟨dj, hdj, hv2⟩))⟩
/-- a try of a def that lets nothing out; slot j's datum is told from then on with what stood here -/
theorem ws_try0 (j : Nat) (hj : Γ[j]? = some (some d0)) (hn : noPin d0 = true) (hc : ClsD X (h₀ :: hds) l)
    (hb : ∀ F1 (pn : List (Addr × Obj)) (xe : Value → Shared → Prop), TakesD (X.tr pn xe) F1 (EgG X { Φ with nx := fun Γ' M' => WS X rest Γ' M' Φ } (fun _ _ _ _ => False) l) → PassesOwn (model X.prog X.w) X.A X.env xe →
      WS (X.tr pn xe) body (Γ.set j (some (.pin F1 d0))) M { Φ with nx := fun Γ' M' => WS X rest Γ' M' Φ }) (hs : X.stack = X.env :: X.outer := by rfl) (hf : X.env.frame = some X.env.locals := by rfl) : WS X (.Try body (h₀ :: hds) [] [] pos :: rest) Γ M Φ :=
  ws_tryC j d0 hn (fun _ _ _ => takesD0) (fun F v ⟨d, h1, h2⟩ => by rw [hj] at h1; cases h1; exact h2) ⟨d0, hj⟩ hs hf hc fun F1 _ _ => hb F1
/-- a try of a def that may raise -/
theorem ws_tryP (tk : TakesD X F0 Ed) (j : Nat) (hj : Γ[j]? = some (some (.pin F0 d0))) (hn : noPin d0 = true) (hc : ClsD X (h₀ :: hds) l)
    (hb : ∀ F1, Same F0 F1 → ∀ (pn : List (Addr × Obj)) (xe : Value → Shared → Prop), TakesD (X.tr pn xe) F1 (EgG X { Φ with nx := fun Γ' M' => WS X rest Γ' M' Φ } Ed l) → PassesOwn (model X.prog X.w) X.A X.env xe →
      WS (X.tr pn xe) body (Γ.set j (some (.pin F1 d0))) M { Φ with nx := fun Γ' M' => WS X rest Γ' M' Φ }) (hs : X.stack = X.env :: X.outer := by rfl) (hf : X.env.frame = some X.env.locals := by rfl) : WS X (.Try body (h₀ :: hds) [] [] pos :: rest) Γ M Φ :=
  ws_tryC j d0 hn (fun F σ ho => tk.mono (pin_same ho hj)) (fun F v ⟨d, h1, h2⟩ => by rw [hj] at h1; cases h1; cases h2; assumption) ⟨_, hj⟩ hs hf hc fun F1 σ ho => hb F1 (pin_same ho hj)
end
end DL

set_option Elab.async false
set_option linter.all false
set_option autoImplicit false
set_option maxRecDepth 100000
set_option maxHeartbeats 4000000
namespace DL
open PySem L2 PySem.Spec PyProof.Rows
/-! defs called in an except suite: p is the exception that is handled -/
structure FnE (P : Program) (w : World) (K : PySem.W.Frag) (mg : Str → Option Value) (base : Heap) (k : Nat) (f : Addr) (fd : FuncData) (ps : List Str) (sp : Addr × Obj → Sp) : Prop where
  len : ∀ p vs H Q E, sp p vs H Q E → vs.length = ps.length
  run : ∀ (p : Addr × Obj) (A : Around) (outer : List Env) (s : Shared) (H : Hp) (args : Args) (us : List Value) (vs : List V) (Q : VK) (E : XK), L2H.RoomH k A → L2H.PinOk outer H s p → Env0 P w K mg base A outer s H → BindsTo s fd args (ps.zip us) → Vals vs us → sp p vs H Q E →
    codeAny (model P w) A (.call (.ref f) args) (CR CX0 outer P w H s Q E) s
abbrev RE := Addr × Obj → RD
section
variable {P : Program} {w : World} {K : PySem.W.Frag} {mg : Str → Option Value} {base : Heap}
theorem fn_okE {x qual : Str} {st : Stmt} {f : Addr} {fd : FuncData} {N ps : List Str} {k : Nat} {R : RE} (F : Fun K x qual st f fd) (S : FnScope N ps (defScope st)) (len : ∀ p ds M Q, R p ds M Q → ds.length = ps.length)
    (hbody : ∀ (p : Addr × Obj) (cdv : Value) (A : Around) (outer : List Env) (s : Shared) (H : Hp) (E : XK), L2H.RoomH k (A.deeper (PyProof.Rows.envOfC qual (defScope st) s.heap.objs.size f cdv)) → ∀ (ds : List D) (M : MM) (Q : D → MM → Prop), R p ds M Q →
      WS (L2H.cxH CX0 P w K mg base N qual (defScope st) f cdv A outer s H E p).nox (defBody st) (startD N ds) M { nx := fun _ M' => Q .non M', rt := Q }) : FnE P w K mg base (k + 1) f fd ps (fun p => SpD K (R p)) := by
  obtain ⟨oc, od, kV, doc, pm, an, cdv, ct, osl, rfl, lk, hcd⟩ := F.ex
  have ln : ∀ p vs H Q E, SpD K (R p) vs H Q E → vs.length = ps.length := fun p vs H Q E ⟨F, ds, M, Qd, c, d, r, _⟩ => d.length.trans (len p ds M Qd r)
  refine ⟨ln, fun p A outer s H args us vs Q E hr hpin e0 hb r hsp => ?_⟩
  have kept : ∀ b o, base.get? b = some o → s.heap.get? b = some o := fun b o e => (e0.bs b o e).1
  have KX : K.In s.heap := e0.mod.kin.keeps kept
  refine codeAny_call_function hr.depth (KX _ _ lk) rfl S.co S.gen rfl (PySem.W.codeRec_of KX hcd) (hb _ _ _ _ ?_)
  refine wpAny_newFunctionEnv_cells S.kind (fun ⟨n, v⟩ hy => (S.par n (List.of_mem_zip hy).1).imp id fun q => ⟨q, PySem.W.cellsFrom_some _ _ _ (.inl q)⟩) fun env he s1 x => ?_
  subst he
  refine ⟨(e0.mod.nolimit.keeps kept).keeps x.toInCall.keep, codeAny_func ?_⟩
  have I : Inv (L2H.cxH CX0 P w K mg base N qual (defScope st) f cdv A outer s H E p) [] (L2.start N vs) H s1 := L2H.inv_startH S hpin e0 (ln _ _ _ _ _ hsp) r x
  obtain ⟨F0, ds, M, Qd, c, d, hR, hq⟩ := hsp
  obtain ⟨t, ht, hT⟩ := (hbody p cdv A outer s H E (hr.deeper _) ds M Qd hR).run F0 (L2.start N vs) H (start_ok d) c { nx := fun _ H' => Q .non H', rt := Q }
    ⟨fun F' σ' H' Γ' M' e _ c' q => hq F' H' M' .non .non e c' .non q, fun F' H' M' v d e c' dv q => hq F' H' M' v d e c' dv q, fun _ _ _ _ _ _ _ _ h => h.elim, fun _ _ _ _ _ _ _ _ h => h.elim⟩
  refine wpAny_mono (ht.nox.run [] s1 (L2.start N vs) H { nx := fun _ H' => Q .non H', rt := Q } I hT) (fun fl s' hs => ?_) fun e s' hs => hs
  cases fl with
  | ret u =>
    obtain ⟨v, σ', H', J, rv, q⟩ := hs
    exact ⟨v, H', J.os, J.bare, J.base, J.hok, rv, q⟩
  | next =>
    obtain ⟨σ', H', J, q⟩ := hs
    exact ⟨V.non, H', J.os, J.bare, J.base, J.hok, rfl, q⟩
  | brk =>
    obtain ⟨σ', H', J, q⟩ := hs
    exact q.elim
  | cont =>
    obtain ⟨σ', H', J, q⟩ := hs
    exact q.elim
structure CalE (P : Program) (w : World) (K : PySem.W.Frag) (mg : Str → Option Value) (base : Heap) (k : Nat) (x : Str) (R : RE) : Prop where
  ex : ∃ (f : Addr) (fd : FuncData) (ps : List Str), FnE P w K mg base k f fd ps (fun p => SpD K (R p)) ∧ mg x = some (.ref f) ∧ PySem.W.keepIn K (.ref f) = true ∧ Binds K fd ps []
theorem DefAt.calE {x : Str} {st : Stmt} {N ps : List Str} {k : Nat} {R : RE} (d : DefAt K mg x st ps) (S : FnScope N ps (defScope st)) (len : ∀ p ds M Q, R p ds M Q → ds.length = ps.length)
    (hbody : ∀ (f : Addr) (p : Addr × Obj) (cdv : Value) (A : Around) (outer : List Env) (s : Shared) (H : Hp) (E : XK), L2H.RoomH k (A.deeper (PyProof.Rows.envOfC x (defScope st) s.heap.objs.size f cdv)) → ∀ (ds : List D) (M : MM) (Q : D → MM → Prop), R p ds M Q →
      WS (L2H.cxH CX0 P w K mg base N x (defScope st) f cdv A outer s H E p).nox (defBody st) (startD N ds) M { nx := fun _ M' => Q .non M', rt := Q }) : CalE P w K mg base (k + 1) x R := by
  obtain ⟨f, fd, F, hm, b⟩ := d.ex
  exact ⟨f, fd, ps, fn_okE F S len (hbody f), hm, F.kp, b⟩
end
section
variable {X : Cx} {Γ : G} {M : MM} {pos p1 p2 p3 apos : Pos} {k j : Nat} {x f : Str} {R : RE} {p : Addr × Obj}
theorem pe_callE {g : Addr} {fd : FuncData} {ps : List Str} {sp : Addr × Obj → Sp} {e : Expr} {es : List Expr} {t : TA} (F : FnE X.prog X.w X.K X.mg X.base k g fd ps sp) (hp : p ∈ X.pn) (hr : L2H.RoomH k X.A) (hg : Gl X x) (hm : X.mg x = some (.ref g)) (hk : PySem.W.keepIn X.K (.ref g) = true) (hb : Binds X.K fd ps [])
    (ha : PA X (e :: es) t) (hdb : (x == ("__debug__" : Str)) = false) (he : starEach (e :: es) X.env = (false, eval e X.env) :: starEach es X.env) (hpl : (backTo pos (starEach es X.env)).any (·.1) = false) :
    PE X (.Call (.Name x p1) (e :: es) [] pos) (tCall (sp p) [] (fun _ _ _ => False) t) := by
  refine ⟨fun pins s σ H Q I h => ?_⟩
  refine wpAny_Call_Name_kw (ld_glob I hg hm ?_ hdb)
  refine PySem.W.callWith_K (h₀ := X.base) I.ok.mod.kin hk (thn (ha.run pos pins s σ H _ I h) fun us s1 ⟨vs, H1, I1, r, q⟩ => ⟨I1.kIn, ?_⟩) he hpl
  replace q : sp p (vs ++ []) H1 Q (fun _ _ _ => False) := q
  rw [List.append_nil] at q
  have hl : (us ++ []).length = ps.length := by rw [List.append_nil, ← r.length]; exact F.len _ _ _ _ _ q
  have P1 := I1.pin p (List.mem_append_left _ hp)
  have hpin : L2H.PinOk X.stack H1 s1 p := ⟨P1.1, P1.2.1, fun hm => (List.mem_cons.mp (I1.stkSub p.1 hm)).elim P1.2.2.1 P1.2.2.2.1, P1.2.2.2.2⟩
  refine wpAny_call (codeAny_mono (F.run p X.A X.stack s1 H1 ⟨us, []⟩ (us ++ []) vs Q _ hr hpin I1.env0 (hb s1 us I1.kIn hl) (by rw [List.append_nil]; exact r) q) fun r s' hq => ?_)
  cases r with
  | error er => exact (L2.pass0 (X := X)) pins σ H1 s1 er s' I1 hq
  | ok fl =>
    cases fl with
    | ret u => exact I1.after hq
    | next => exact False.elim hq
    | brk => exact False.elim hq
    | cont => exact False.elim hq
theorem we_callE {e : Expr} {es : List Expr} {Q : D → MM → Prop} (c : CalE X.prog X.w X.K X.mg X.base k x R) (hp : p ∈ X.pn) (hr : L2H.RoomH j X.A) (hk : k ≤ j) (h : WA X (e :: es) Γ M fun ds M1 => R p ds M1 Q) (hg : Gl X x := by rfl)
    (hdb : (x == ("__debug__" : Str)) = false := by decide) (he : starEach (e :: es) X.env = (false, eval e X.env) :: starEach es X.env := by rfl) (hpl : (backTo pos (starEach es X.env)).any (·.1) = false := by rfl) :
    WE X (.Call (.Name x p1) (e :: es) [] pos) Γ M Q := ⟨fun F σ H ho hc W hR => by
  obtain ⟨g, fd, ps, G, hm, kp, b⟩ := c.ex
  refine ⟨_, pe_callE G hp (hr.mono hk) hg hm kp b pa_wp hdb he hpl, h.run F σ H ho hc _ fun F1 H1 M1 vs ds e1 c1 d1 h1 => ?_⟩
  rw [List.append_nil]
  exact ⟨F1, ds, M1, Q, c1, d1, h1, fun F2 H2 M2 v d e2 c2 d2 q => hR F2 H2 M2 v d (e1.trans e2) c2 d2 q⟩⟩
/-- the caught exception's object, with its dict -/
theorem inst_x {pins : List (Addr × Obj)} {σ : L2.St} {H : Hp} {s : Shared} {C : Addr} {d : Option Addr} {fs : List (Str × V)} (I : Inv X pins σ H s) (hp : p ∈ X.pn) (hz : Zc (.ref C) d p.2) (hf : ∃ vs, p.2.data = .fields vs) (hx : ExX H d fs) :
    ∃ od, PySem.W.InstAt s.heap p.1 p.2 C od ∧ ∀ name v, fs.lookup name = some v → ∃ ob u, od = some ob ∧ RelV v u ∧ PySem.W.lookIn name ob = some (some u) := by
  obtain ⟨ha, _⟩ := I.pin p (List.mem_append_left _ hp)
  obtain ⟨vs, hd⟩ := hf
  rcases hx with ⟨h1, h2⟩ | ⟨dx, h1, h2⟩
  · subst h1 h2
    exact ⟨none, ⟨ha, hz.1, by unfold PySem.W.notCls; rw [hd] <;> rfl, by rw [hz.2]; trivial⟩, fun name v e => by cases e⟩
  · subst h1
    have hy : ObjOk X.prog X.w H s.heap dx (.xd fs) := I.hok dx _ h2
    obtain ⟨mA, hns, hr⟩ := hy
    obtain ⟨od, ho, hl⟩ := lookIn_ns hns
    refine ⟨some od, ⟨ha, hz.1, by unfold PySem.W.notCls; rw [hd] <;> rfl, by rw [hz.2]; exact ho⟩, fun name v e => ?_⟩
    obtain ⟨u, hu, ru⟩ := RelO.some_of (v := v) (o := mA name) (by rw [← e]; exact hr name)
    exact ⟨od, u, rfl, ru, by rw [hl, hu]⟩
def rIsX (K : PySem.W.Frag) (p : Addr × Obj) (C : Addr) : List V → Hp → VK → Prop := fun xs H Q => ∃ (c : V) (cv : Value) (b : Bool) (d : Option Addr) (fs : List (Str × V)), xs = [.ref p.1, c] ∧ (∀ u, RelV c u → u = cv) ∧ PySem.W.kitOne K (.ref C) cv = some b ∧ Zc (.ref C) d p.2 ∧ (∃ vs, p.2.data = .fields vs) ∧ ExX H d fs ∧ Q (.bl b) H
theorem call_isX {C : Addr} (T : ExcC X.K C) (hp : p ∈ X.pn) : CallR X (.builtin "isinstance") (rIsX X.K p C) := by
  intro pins s σ H xs us Q I r h
  obtain ⟨c, cv, b, d, fs, rfl, hcv, e, hz, hf, hx, q⟩ := h
  cases r with
  | cons rx rr =>
    cases rr with
    | cons rt rr =>
      cases rr
      cases rx
      obtain rfl := hcv _ rt
      obtain ⟨od, J, _⟩ := inst_x I hp hz hf hx
      obtain ⟨cd, hcd, _⟩ := PySem.W.any_some T.hd
      exact PySem.W.kia_one (PySem.W.kitx_exc (by rw [hcd]; rfl) T.hg T.hk T.hs T.ha T.hn T.ht T.hm) I.kIn J e (fun z => nomatch z) fun tk => ⟨.bl b, H, I.kept (t' := tk) fun _ _ z => z, rfl, q⟩
/-- isinstance(e, c), e the caught exception; c a class by its name -/
theorem we_isX {e : Expr} {C : Addr} {cv : Value} {b : Bool} {Q : D → MM → Prop} (T : ExcC X.K C) (hp : p ∈ X.pn) (hmi : X.mg "isinstance" = none) (hc : X.mg x = some cv ∧ (∃ a, cv = .ref a) ∨ X.mg x = none ∧ bootBuiltins x = some cv ∧ x ≠ "__name__" ∧ ∃ t, cv = .type t) (hk : PySem.W.kitOne X.K (.ref C) cv = some b)
    (h : WE X e Γ M fun y M1 => ∃ d ns es, y = .xcp p.1 d ns es ∧ Zc (.ref C) d p.2 ∧ (∃ vs, p.2.data = .fields vs) ∧ Q (.bl b) M1) (hg : Gl X x := by rfl) (hgi : Gl X "isinstance" := by rfl) (hdb : (x == ("__debug__" : Str)) = false := by decide)
    (hst : starEach [e, .Name x p2] X.env = [(false, eval e X.env), (false, eval (.Name x p2) X.env)] := by rfl) : WE X (.Call (.Name "isinstance" p1) [e, .Name x p2] [] pos) Γ M Q := ⟨fun F σ H ho hco W hR => by
  have name : ∃ v : V, PE X (.Name x p2) (tC v) ∧ ∀ u, RelV v u → u = cv := by
    rcases hc with ⟨h1, a, h2⟩ | ⟨h1, h2, h3, t, h4⟩
    · subst h2
      exact ⟨.ref a, pe_glob hg h1 rfl hdb, fun u r => r⟩
    · subst h4
      exact ⟨.ty t, pe_bltn hg h1 h2 rfl h3 hdb, fun u r => r⟩
  obtain ⟨v, pv, rv⟩ := name
  refine ⟨_, pe_callB (call_isX T hp) hgi hmi (by decide +kernel) (pa_cons pe_wp (pa_cons pv pa_nil) hst) (by decide) (by decide) hst, h.run F σ H ho hco _ fun F1 H1 M1 u y e1 c1 d1 ⟨d, ns, es, hy, z1, z2, q⟩ => ?_⟩
  subst hy
  cases d1 with
  | @xcp _ _ fs _ _ k1 k2 k3 =>
    exact ⟨v, cv, b, d, fs, rfl, rv, hk, z1, z2, k1.mono c1.sub, hR F1 H1 M1 _ _ e1 c1 (.bl b) q⟩⟩
/-- e.f, e the caught exception -/
def tXfld (p : Addr × Obj) (C : Addr) (f : Str) (te : TE) : TE := fun σ H Q => te σ H fun x H1 => x = .ref p.1 ∧ ∃ (d : Option Addr) (fs : List (Str × V)) (v : V), Zc (.ref C) d p.2 ∧ (∃ vs, p.2.data = .fields vs) ∧ ExX H1 d fs ∧ fs.lookup f = some v ∧ Q v H1
theorem pe_xfld {C : Addr} {e : Expr} {te : TE} (T : XfC X.K C) (hno : PySem.W.findIn X.K (.ref C) f = some none) (hp : p ∈ X.pn) (he : PE X e te) (hb : attributeBase e f X.env (eval e X.env) = eval e X.env) : PE X (.Attribute e f pos) (tXfld p C f te) := by
  refine ⟨fun pins s σ H Q I h => ?_⟩
  refine attr_of hb (thn (he.run pins s σ H _ I h) fun u s1 ⟨x, H1, I1, rx, ex, d, fs, v, hz, hf, hx, l, q⟩ => ?_)
  subst ex
  obtain rfl : u = Value.ref p.1 := rx
  obtain ⟨od, J, hl⟩ := inst_x I1 hp hz hf hx
  obtain ⟨ob, u, eo, ru, lu⟩ := hl _ _ l
  subst eo
  exact HandSPX.exc_get I1.kIn J T.ga T.gg T.exC (PySem.W.findObj_own T.hdC hno rfl lu) (handed_of ru) ⟨v, H1, I1.tok _, ru, q⟩
theorem we_xfld {C : Addr} {e : Expr} {Q : D → MM → Prop} (T : XfC X.K C) (hno : PySem.W.findIn X.K (.ref C) f = some none) (hp : p ∈ X.pn)
    (h : WE X e Γ M fun y M1 => ∃ d ns es v, y = .xcp p.1 d ns es ∧ Zc (.ref C) d p.2 ∧ (∃ vs, p.2.data = .fields vs) ∧ getN f ns es = some v ∧ Q v M1) (hb : attributeBase e f X.env (eval e X.env) = eval e X.env := by rfl) : WE X (.Attribute e f pos) Γ M Q := ⟨fun F σ H ho hco W hR => by
  refine ⟨_, pe_xfld T hno hp pe_wp hb, h.run F σ H ho hco _ fun F1 H1 M1 u y e1 c1 d1 ⟨d, ns, es, v, hy, z1, z2, g, q⟩ => ?_⟩
  subst hy
  cases d1 with
  | @xcp _ _ fs _ _ k1 k2 k3 =>
    subst k2
    obtain ⟨w, l1, l2⟩ := getN_at k3 g
    exact ⟨rfl, d, fs, w, z1, z2, k1.mono c1.sub, l1, hR F1 H1 M1 w v e1 c1 l2 q⟩⟩
end
/-! repr of what is flat, of lists and of tuples -/
def rprA : D → Option Str
  | .non => some "None"
  | .bl b => some (if b then "True" else "False")
  | .int i => some (toString i : String)
  | .str s => some (reprText s)
  | _ => none
def fitsA : D → Prop
  | .int i => i.natAbs.log2 < 1920
  | .str s => (reprText s).length ≤ sizeLine
  | _ => True
section
variable {X : Cx} {Γ : G} {M : MM} {pos p : Pos}
def rReprA : List V → Hp → VK → Prop := fun xs H Q => (∃ s : Str, xs = [.str s] ∧ (reprText s).length ≤ sizeLine ∧ Q (.str (reprText s)) H) ∨ (∃ i : Int, xs = [.int i] ∧ i.natAbs.log2 < 1920 ∧ Q (.str (toString i : String)) H) ∨
  (∃ b : Bool, xs = [.bl b] ∧ Q (.str (if b then "True" else "False")) H) ∨ (xs = [.non] ∧ Q (.str "None") H)
theorem call_reprA : CallR X (.builtin "repr") rReprA := by
  intro pins s σ H xs us Q I r h
  rcases h with ⟨a, rfl, hz, q⟩ | ⟨i, rfl, hz, q⟩ | ⟨b, rfl, q⟩ | ⟨rfl, q⟩
  · obtain ⟨u, rfl, t, rfl⟩ := vals1 r
    exact PySem.P.repr_of_str ⟨.str _, H, I.tok _, ⟨_, rfl⟩, q⟩ hz
  · obtain ⟨u, rfl, t, rfl⟩ := vals1 r
    exact PySem.P.repr_of_int hz ⟨.str _, H, I.tok _, ⟨_, rfl⟩, q⟩
  · obtain ⟨u, rfl, ru⟩ := vals1 r
    cases ru
    exact PySem.P.repr_of_bool ⟨.str _, H, I.tok _, ⟨_, rfl⟩, q⟩
  · obtain ⟨u, rfl, ru⟩ := vals1 r
    cases ru
    exact PySem.P.repr_of_none ⟨.str _, H, I.tok _, ⟨_, rfl⟩, q⟩
theorem we_reprA {e : Expr} {Q : D → MM → Prop} (hm : X.mg "repr" = none) (h : WE X e Γ M fun x M1 => ∃ s, rprA x = some s ∧ fitsA x ∧ Q (.str s) M1)
    (hst : starEach [e] X.env = [(false, eval e X.env)] := by rfl) (hg : Gl X "repr" := by rfl) : WE X (.Call (.Name "repr" p) [e] [] pos) Γ M Q := ⟨fun F σ H he hc W hR => by
  refine ⟨_, pe_callB call_reprA hg hm (by decide +kernel) (pa_cons pe_wp pa_nil hst) (by decide) (by decide) hst, h.run F σ H he hc _ fun F1 H1 M1 v x e1 c1 d1 ⟨s, hs, hz, q⟩ => ?_⟩
  have fin := hR F1 H1 M1 _ _ e1 c1 (.str s) q
  cases d1 with
  | non => cases hs; exact .inr (.inr (.inr ⟨rfl, fin⟩))
  | bl b => cases hs; exact .inr (.inr (.inl ⟨b, rfl, fin⟩))
  | int i => cases hs; exact .inr (.inl ⟨i, rfl, hz, fin⟩)
  | str a => cases hs; exact .inl ⟨a, rfl, hz, fin⟩
  | _ => cases hs⟩
end
/-! xs.count(b), xs.index(b) of bools -/
section
variable {X : Cx} {Γ : G} {M : MM} {pos p apos : Pos}
def rCntV (K : PySem.W.Frag) : V → List V → Hp → VK → Prop := fun x xs H Q => ∃ (a : Addr) (ys : List V) (y : V), x = .ref a ∧ xs = [y] ∧ SqL K H a ys ∧ flatV y = true ∧ ys.all flatV = true ∧ Q (.int ((ys.countP fun z => eqV z y : Nat) : Int)) H
theorem cnt_vals {y : V} : ∀ {ys : List V} {us : List Value}, Vals ys us → ys.all flatV = true → us.countP (eqU y) = ys.countP fun z => eqV z y
  | _, _, .nil, _ => rfl
  | z :: ys, u :: us, .cons r t, f => by
    rw [List.all_cons, Bool.and_eq_true] at f
    rw [List.countP_cons, List.countP_cons, cnt_vals t f.2, eqU_of r f.1]
theorem mt_cntV : MtR X "list.count" (rCntV X.K) := by
  intro pins s σ H x xs v us Q I rx rxs h
  obtain ⟨a, ys, y, rfl, rfl, hs, fy, fys, q⟩ := h
  cases rx
  obtain ⟨u, rfl, ru⟩ := rxs.one
  obtain ⟨its, rv, ⟨⟨cls, dd, data, sl⟩, n, ho, hc, hdn, hd⟩, hlen⟩ := I.list hs
  simp only at hc hd
  subst hc hd
  refine call_meets PySem.F.slot_list_count ⟨_, ho, rfl⟩ PySem.F.entry_list_count (PySem.F.args_list_count_2 _ _)
    (SeqAt.list_countAt a its.toArray n dd sl u (eqU y)) ⟨ho, fun u' hu' => mem_eqAt ru fy rv fys u' (by simpa using hu'), ?_⟩
  refine ⟨.int _, H, I.tok _, ⟨s.toks, ?_⟩, q⟩
  show Value.int ((its.toArray.toList.countP (eqU y) : Nat) : Int) s.toks = _
  rw [← cnt_vals rv fys]
theorem bls_flat : ∀ bs : List Bool, (bs.map V.bl).all flatV = true
  | [] => rfl
  | _ :: bs => bls_flat bs
theorem bls_count (b : Bool) : ∀ bs : List Bool, ((bs.map V.bl).countP fun z => eqV z (.bl b)) = bs.count b
  | [] => rfl
  | c :: bs => by
    rw [List.map_cons, List.countP_cons, List.count_cons, bls_count b bs]
    rfl
theorem we_countB {o e : Expr} {Q : D → MM → Prop} (h : WE X o Γ M fun x M1 => ∃ bs : List Bool, x = .lst (bs.map .bl) ∧ WE X e Γ M1 fun y M2 => ∃ b, y = .bl b ∧ Q (.int (bs.count b : Nat)) M2)
    (hbase : attributeBase o "count" X.env (eval o X.env) = eval o X.env := by rfl)
    (hfew : ((backTo pos (starEach [e] X.env)).all (fun x => !x.1) && (backToKw pos (keywordEach [] X.env)).all (fun x => x.1.isSome) && decide (([e] : List Expr).length + ([] : List Keyword).length + (if ([] : List Keyword).isEmpty then 0 else 1) < 30)) = true := by rfl)
    (hline : (apos.endLine == pos.line) = true := by rfl) (hs : starEach [e] X.env = (false, eval e X.env) :: starEach [] X.env := by rfl) (hplain : (backTo pos (starEach [] X.env)).any (·.1) = false := by rfl) :
    WE X (.Call (.Attribute o "count" apos) [e] [] pos) Γ M Q := ⟨fun F σ H he hc R hR => by
  refine ⟨_, pe_bm PySem.F.plainAttrs_list PySem.F.slot_list_count PySem.F.type_list_count mt_cntV pe_wp (pa_cons pe_wp pa_nil hs) hbase hfew hline hs hplain, ?_⟩
  refine h.run F σ H he hc _ fun F1 H1 M1 v x e1 c1 d1 ⟨bs, hx, h1⟩ => ?_
  subst hx
  cases d1 with
  | @lst a xs _ k1 k2 =>
    refine ⟨.inl ⟨rfl, _, SqL.of (c1.sub _ _ k1)⟩, h1.run F1 σ H1 (he.mono e1) c1 _ fun F2 H2 M2 u y e2 c2 d2 ⟨b, hy, q⟩ => ?_⟩
    subst hy
    cases d2
    have hb := k2.bls
    subst hb
    refine ⟨a, bs.map V.bl, .bl b, rfl, rfl, SqL.of (c2.sub _ _ (e2 _ _ k1)), rfl, bls_flat bs, ?_⟩
    rw [bls_count]
    exact hR F2 H2 M2 _ _ (e1.trans e2) c2 (.int _) q⟩
theorem we_indexB {o e : Expr} {Q : D → MM → Prop} (h : WE X o Γ M fun x M1 => ∃ bs : List Bool, x = .lst (bs.map .bl) ∧ WE X e Γ M1 fun y M2 => ∃ (b : Bool) (j : Nat), y = .bl b ∧ bs[j]? = some b ∧ (∀ m, m < j → bs[m]? = some (!b)) ∧ Q (.int (j : Nat)) M2)
    (hbase : attributeBase o "index" X.env (eval o X.env) = eval o X.env := by rfl)
    (hfew : ((backTo pos (starEach [e] X.env)).all (fun x => !x.1) && (backToKw pos (keywordEach [] X.env)).all (fun x => x.1.isSome) && decide (([e] : List Expr).length + ([] : List Keyword).length + (if ([] : List Keyword).isEmpty then 0 else 1) < 30)) = true := by rfl)
    (hline : (apos.endLine == pos.line) = true := by rfl) (hs : starEach [e] X.env = (false, eval e X.env) :: starEach [] X.env := by rfl) (hplain : (backTo pos (starEach [] X.env)).any (·.1) = false := by rfl) :
    WE X (.Call (.Attribute o "index" apos) [e] [] pos) Γ M Q := ⟨fun F σ H he hc R hR => by
  refine ⟨_, pe_bm PySem.F.plainAttrs_list PySem.F.slot_list_index PySem.F.type_list_index mt_index pe_wp (pa_cons pe_wp pa_nil hs) hbase hfew hline hs hplain, ?_⟩
  refine h.run F σ H he hc _ fun F1 H1 M1 v x e1 c1 d1 ⟨bs, hx, h1⟩ => ?_
  subst hx
  cases d1 with
  | @lst a xs _ k1 k2 =>
    refine ⟨.inl ⟨rfl, _, SqL.of (c1.sub _ _ k1)⟩, h1.run F1 σ H1 (he.mono e1) c1 _ fun F2 H2 M2 u y e2 c2 d2 ⟨b, j, hy, hj, hno, q⟩ => ?_⟩
    subst hy
    cases d2
    have hb := k2.bls
    subst hb
    refine ⟨a, bs.map V.bl, .bl b, j, .bl b, rfl, rfl, SqL.of (c2.sub _ _ (e2 _ _ k1)), rfl, bls_flat bs, by rw [List.getElem?_map, hj]; rfl, by cases b <;> rfl, fun m z' hm hz => ?_, hR F2 H2 M2 _ _ (e1.trans e2) c2 (.int _) q⟩
    rw [List.getElem?_map, hno m hm] at hz
    cases hz
    cases b <;> rfl⟩
end
end DL

set_option Elab.async false
set_option linter.all false
set_option autoImplicit false
set_option maxRecDepth 100000
set_option maxHeartbeats 4000000
namespace DL
open PySem L2 PySem.Spec PyProof.Rows LamX
/-! x(lambda: body), x a def that calls it once, in a try -/
theorem codeO_lst {c : Addr} {q : Str} (vs : List V) : CodeO c q ≠ .lst vs := fun z => by
  unfold CodeO at z
  cases z
theorem codeO_ins {c C dx : Addr} {q : Str} (fs : List (Str × V)) : CodeO c q ≠ .ins C dx fs := fun z => by
  unfold CodeO at z
  cases z
theorem codeO_own {c a : Addr} {q : Str} : CodeO c q ≠ .own a := fun z => by
  unfold CodeO at z
  cases z
/-- what x makes of the lambda's reading: Qd of the answer, EP Qd of an exception -/
def TTD (K : PySem.W.Frag) (RP : (D → MM → Prop) → D → MM → Prop) (EP : (D → MM → Prop) → ED) : (XK → Hp → VK → Prop) → Hp → VK → Prop := fun tl H Q => ∃ (F : Hp) (M : MM) (Qd : D → MM → Prop), Con K F M H ∧
  (∀ F' H' M' v d, Same F F' → Con K F' M' H' → Dn K F' v d → Qd d M' → Q v H') ∧
  ∀ (E : XK) (F1 F2 H2 : Hp), Same F F1 → postE K F1 (EP Qd) E → Same F1 F2 → Con K F2 M H2 → ∀ R : VK, (∀ F' H' M' v d, Same F2 F' → Con K F' M' H' → Dn K F' v d → RP Qd d M' → R v H') → tl E H2 R
/-- a def that gets a lambda and calls it -/
structure TolD (P : Program) (w : World) (K : PySem.W.Frag) (mg : Str → Option Value) (base : Heap) (k : Nat) (x : Str) (RP : (D → MM → Prop) → D → MM → Prop) (EP : (D → MM → Prop) → ED) : Prop where
  ex : ∃ (g : Addr) (oc : Value) (od an : Option Addr) (pg : Arguments) (bg : List Stmt) (sg : Scope) (dV kV doc pm cdv ct : Value) (osl : Array (Option Value)) (Ng : List Str) (a : Str),
    mg x = some (.ref g) ∧ PySem.W.keepIn K (.ref g) = true ∧ K.lookup g = some ⟨oc, od, .func (PySem.W.fnOf x x pg bg sg dV kV doc pm an cdv ct), osl⟩ ∧ PySem.W.codeIn K cdv x = true ∧ L2.Binds K (PySem.W.fnOf x x pg bg sg dV kV doc pm an cdv ct) [a] [] ∧ FnScope Ng [a] sg ∧ Ng[0]? = some a ∧ Vis sg a ∧
    (a == ("__debug__" : Str)) = false ∧ (a == ("__classdict__" : Str)) = false ∧
    ∀ (X : Cx) (q : Str), X.prog = P → X.w = w → X.K = K → X.mg = mg → X.base = base → Room (k + 1) X.A → GivesTo X Ng x sg g cdv bg a q (TTD K RP EP)
/-- the tables stand, all but they stay -/
theorem Con.extN {K : PySem.W.Frag} {F H H1 : Hp} {M : MM} {P0 : Addr} {T : List (Addr × Str)} (c : Con K F M H) (hM : M P0 = some (.tabs T)) (e : ExtN H H1) (t : Tabs T H1) : Con K F M H1 := by
  refine ⟨fun b u q => e b u (c.sub _ _ q) fun ps z => by subst z; exact c.ntb b ps q, fun a m q => ?_, c.ntb, c.one⟩
  obtain ⟨f0, k⟩ := c.chg a m q
  refine ⟨f0, ?_⟩
  cases m with
  | lst ds => obtain ⟨vs, a1, a2⟩ := k; exact ⟨vs, e _ _ a1 (fun _ z => by cases z), a2⟩
  | ins C ns ds => obtain ⟨dx, fs, a1, a2, a3, a4, a5⟩ := k; exact ⟨dx, fs, e _ _ a1 (fun _ z => by cases z), e _ _ a2 (fun _ z => by cases z), a3, a4, a5⟩
  | tabs U =>
    obtain rfl := c.one a P0 U T q hM
    rw [hM] at q
    cases q
    exact ⟨k.1, t⟩
section
variable {X : Cx} {Γ : G} {M : MM} {pos p lpos : Pos} {k : Nat} {x : Str} {RP : (D → MM → Prop) → D → MM → Prop} {EP : (D → MM → Prop) → ED} {T : List (Addr × Str)} {P0 cc P : Addr}
/-- x(lambda: body); the slot j's datum is told from then on with what stands here -/
theorem we_told (j : Nat) (dj : D) (hj : Γ[j]? = some (some dj)) (hn : noPin dj = true) {params : Arguments} {body : Expr} {scope : Scope} {Q : D → MM → Prop} (c : TolD X.prog X.w X.K X.mg X.base k x RP EP) (TB : TabB X.base X.mg cc P) (hcode : X.env.code = .ref cc) (hM : M P0 = some (.tabs T))
    (hmT : (P, X.env.qual ++ "<lambda>") ∈ T) (hu : ∀ p ∈ T, p.1 = P → p.2 = X.env.qual ++ "<lambda>") (hr : Room (k + 2) X.A)
    (hb : ∀ (A : Around) (outer : List Env) (s : Shared) (H : Hp) (E : XK) (f c' : Addr) (F0 : Hp), Room k (A.deeper (lamEnv X scope s.heap.objs.size f c')) → TakesD (lamCx X A outer s H E scope f c') F0 (EP Q) →
      PassesOwn (model X.prog X.w) (lamCx X A outer s H E scope f c').A (lamCx X A outer s H E scope f c').env (lamCx X A outer s H E scope f c').xe →
      WE (lamCx X A outer s H E scope f c') body (Γ.set j (some (.pin F0 dj))) M (RP Q))
    (hg : Gl X x := by rfl) (L : LamS X.env.scope scope := by exact lamS_by (by decide +kernel)) (hdef : defaultsOf params X.env = ([], []) := by rfl)
    (hbind : ∀ (q : Str) (cl : List (Str × Addr)) (pm cv ctv : Value), bindArgs (PySem.W.kla_fn "<lambda>" q params body scope cl pm cv ctv) ⟨[], []⟩ = pure [] := by intros; rfl)
    (hdb : (x == ("__debug__" : Str)) = false := by decide) : WE X (.Call (.Name x p) [.Lambda params body scope lpos] [] pos) Γ M Q := ⟨fun F σ H ho hco W hR => by
  obtain ⟨g, oc, od, an, pg, bg, sg, dV, kV, doc, pm, cdv, ct, osl, Ng, a, h1, h2, h3, h4, h5, h6, h7, h8, h9, h10, hG⟩ := c.ex
  refine ⟨_, pe_lamcall (T := T) (t := fun E σ H Q => ∀ (A : Around) (outer : List Env) (s : Shared) (H0 : Hp) (f c' : Addr), Room k (A.deeper (lamEnv X scope s.heap.objs.size f c')) → wpE (lamCx X A outer s H0 E scope f c') body σ H Q)
    hg h1 h2 h3 h4 h5 h6 h7 h8 (hG X _ rfl rfl rfl rfl rfl (hr.mono (Nat.le_succ _))) TB hcode hmT hu hr L hdef hbind (fun A outer s H0 E f c' hr2 => ⟨fun pins s' σ' H' Q' I h => pe_wp.run pins s' σ' H' Q' I (h A outer s H0 f c' hr2)⟩) hdb h9 h10, ?_⟩
  obtain ⟨_, kT⟩ := hco.chg P0 _ hM
  refine ⟨kT.2, fun H1 eN T1 => ⟨F, M, Q, hco.extN hM eN T1, fun F' H' M' v d e c' dv q => hR F' H' M' v d e c' dv q, ?_⟩⟩
  intro E F1 F2 H2 s1 pE s2 c2 R hRR A outer s H0 f c' hr2
  have ho1 : EnvOk X.K F1 Γ σ := ho.mono s1
  have eo : EnvOk X.K F2 (Γ.set j (some (.pin F1 dj))) σ := by
    obtain ⟨v, hv1, hv2⟩ := ho1.get j dj hj
    have e : σ = σ.set j (some v) := by
      obtain ⟨hlt, hv⟩ := List.getElem?_eq_some_iff.mp hv1
      rw [← hv, List.set_getElem_self]
    rw [e]
    exact (ho1.mono s2).set (.pin s2 hn (hv2.mono s2))
  exact (hb A outer s H0 E f c' F1 hr2 ⟨E, takes_of rfl rfl rfl rfl, pE⟩ (passes_of rfl)).run F2 σ H2 eo c2 R hRR⟩
end
section
variable {P : Program} {w : World} {K : PySem.W.Frag} {mg : Str → Option Value} {base : Heap}
/-- such a def, from its body -/
theorem TolD.of {x a : Str} {st : Stmt} {N : List Str} {k : Nat} {RP : (D → MM → Prop) → D → MM → Prop} {EP : (D → MM → Prop) → ED} (d : DefAt K mg x st [a]) (S : FnScope N [a] (defScope st)) (hN : N[0]? = some a) (hv : Vis (defScope st) a) (hd : (a == ("__debug__" : Str)) = false) (hcd : (a == ("__classdict__" : Str)) = false)
    (hb : ∀ (f g : Addr) (cdv : Value) (A : Around) (outer : List Env) (s : Shared) (H : Hp), Room k (A.deeper (PyProof.Rows.envOfC x (defScope st) s.heap.objs.size g cdv)) → ∀ (Fc : Hp) (M : MM) (Qd : D → MM → Prop),
      (∀ (pn : List (Addr × Obj)) (xe : Value → Shared → Prop) (F1 : Hp) (Γ : G) (p1 p2 : Pos), Same Fc F1 → TakesD ((cxOf CX0 P w K mg base N x (defScope st) g cdv A outer s H C8.E0).nox.tr pn xe) F1 (EP Qd) → Γ[0]? = some (some (.pin F1 (.raw f))) →
        WE ((cxOf CX0 P w K mg base N x (defScope st) g cdv A outer s H C8.E0).nox.tr pn xe) (.Call (.Name a p1) [] [] p2) Γ M (RP Qd)) →
      WS (cxOf CX0 P w K mg base N x (defScope st) g cdv A outer s H C8.E0).nox (defBody st) (startD N [.pin Fc (.raw f)]) M { nx := fun _ M' => Qd .non M', rt := Qd }) : TolD P w K mg base k x RP EP := by
  obtain ⟨g, fd, F, hm, b⟩ := d.ex
  have kp := F.kp
  obtain ⟨oc, od, kV, doc, pm, an, cdv, ct, osl, rfl, lk, hcdv⟩ := F.ex
  refine ⟨g, _, _, _, _, _, _, _, _, _, _, _, _, _, N, a, hm, kp, lk, hcdv, b, S, hN, hv, hd, hcd, fun X q e1 e2 e3 e4 e5 hr => ?_⟩
  subst e1 e2 e3 e4 e5
  intro f c' s H Q tl act hc ⟨F, M, Qd, cH, hQ, hT⟩
  obtain ⟨Fc, sF, cF, hFc⟩ := cH.keep hc codeO_lst (fun C dx fs => codeO_ins fs) (fun a => codeO_own) codeO_ne
  refine (hb f g cdv X.A X.stack s H (hr.deeper _) Fc M Qd fun pn xe F1 Γ p1 p2 s1 ⟨E, tk, pE⟩ h0 => ⟨fun F2 σ H2 ho hco R hR => ?_⟩).run Fc (L2.start N [.ref f]) H (start_ok (.cons (.pin (Same.refl Fc) rfl (.raw f)) .nil)) cF { nx := fun _ H' => Q .non H', rt := Q }
    ⟨fun F' σ' H' Γ' M' e _ c' q => hQ F' H' M' .non .non (sF.trans e) c' .non q, fun F' H' M' v d e c' dv q => hQ F' H' M' v d (sF.trans e) c' dv q, fun _ _ _ _ _ _ _ _ h => h.elim, fun _ _ _ _ _ _ _ _ h => h.elim⟩
  obtain ⟨v, hσ, hv'⟩ := ho.get 0 _ h0
  cases hv' with
  | pin s2 _ h =>
    cases h
    exact ⟨_, act (fun cls d _ H => E cls d H) pn xe E p1 p2 tk fun _ _ _ _ h => h, hσ, hco.sub _ _ ((s1.trans s2) _ _ hFc), hT E F1 F2 H2 (sF.trans s1) pE s2 hco R hR⟩
end
end DL

set_option Elab.async false
set_option linter.all false
set_option autoImplicit false
set_option maxRecDepth 100000
set_option maxHeartbeats 4000000
namespace DL
open PySem L2 PySem.Spec PyProof.Rows LamX
/-! what the law's caller gives, with tables of code objects -/
def offT (H : Hp) : Hp := fun b => match H b with
  | some (.tbl _) => none
  | o => o
theorem offT_at {H : Hp} {b : Addr} {o : HO} (h : H b = some o) (n : ∀ ps, o ≠ .tbl ps) : offT H b = some o := by
  unfold offT
  rw [h]
  cases o <;> first | rfl | exact absurd rfl (n _)
theorem offT_same {H : Hp} : Same (offT H) H := fun b u e => by
  unfold offT at e
  cases h : H b with
  | none => rw [h] at e; cases e
  | some o => rw [h] at e; cases o <;> first | exact e | cases e
theorem offT_ntb {H : Hp} (a : Addr) (ps : Array Value) : offT H a ≠ some (.tbl ps) := fun e => by
  unfold offT at e
  cases h : H a with
  | none => rw [h] at e; cases e
  | some o => rw [h] at e; cases o <;> cases e
theorem offT_none {H : Hp} {a : Addr} {ps : Array Value} (h : H a = some (.tbl ps)) : offT H a = none := by
  unfold offT
  rw [h]
theorem offT_list {K : PySem.W.Frag} {H : Hp} {a : Addr} {xs : List V} (h : SqL K H a xs) : SqL K (offT H) a xs := by
  rcases h with (h | ⟨o, h⟩) | h
  · exact .inl (.inl (offT_at h fun _ z => by cases z))
  · exact .inl (.inr ⟨o, offT_at h fun _ z => by cases z⟩)
  · exact .inr h
theorem con_start {K : PySem.W.Frag} {H : Hp} : Con K (offT H) (fun _ => none) H := ⟨offT_same, fun _ _ h => (nomatch h), offT_ntb, fun _ _ _ _ h _ => (nomatch h)⟩
def tabM (P0 : Addr) (T : List (Addr × Str)) : MM := fun b => if b = P0 then some (.tabs T) else none
theorem tabM_at {P0 : Addr} {T : List (Addr × Str)} : tabM P0 T P0 = some (.tabs T) := if_pos rfl
theorem con_startT {K : PySem.W.Frag} {H : Hp} {P0 : Addr} {q : Str} {r : List (Addr × Str)} (hT : ∀ p ∈ (P0, q) :: r, H p.1 = some (.tbl #[])) : Con K (offT H) (tabM P0 ((P0, q) :: r)) H := by
  refine ⟨offT_same, fun a m e => ?_, offT_ntb, fun a b T U h1 h2 => ?_⟩
  · unfold tabM at e
    by_cases ha : a = P0
    · subst ha
      rw [if_pos rfl] at e
      cases e
      exact ⟨offT_none (hT _ List.mem_cons_self), ⟨_, _, rfl⟩, fun p hp => TabS.nil (hT p hp)⟩
    · rw [if_neg ha] at e
      cases e
  · unfold tabM at h1 h2
    by_cases ha : a = P0
    · by_cases hb : b = P0
      · rw [ha, hb]
      · rw [if_neg hb] at h2; cases h2
    · rw [if_neg ha] at h1; cases h1
end DL

set_option Elab.async false
set_option linter.all false
set_option autoImplicit false
set_option maxRecDepth 100000
set_option maxHeartbeats 4000000
namespace DL
open PySem L2 PySem.Spec PyProof.Rows
/-! the errors' words -/
def errN : List Str := ["InvalidCloth", "InvalidMove", "InvalidText", "InvalidName", "InvalidNumber", "InvalidPlace", "InvalidWish", "NotAScript", "InvalidRows", "InvalidStanding", "InvalidSeen", "InvalidExchanges", "InvalidWishes", "UnknownName", "InUse", "Unknown", "TooFew", "TooMany", "Broken", "NothingToUndo"]
def errB : List Str := ["WrongValue", "WrongName", "NoAnswer"]
def errP : List (Str × String) := [("ValueError", "ValueError"), ("LookupError", "LookupError"), ("ArithmeticError", "ArithmeticError")]
def errK (i : Nat) : Nat := if i < 13 then 0 else if i < 15 then 1 else 2
/-- the class at C is the i-th of them -/
structure ErrW (K : PySem.W.Frag) (mg : Str → Option Value) (C : Addr) (i : Nat) : Prop where
  lt : i < 20
  nm : ∀ (j : Nat) (x : Str), errN[j]? = some x → ∃ a, mg x = some (.ref a) ∧ PySem.W.kitOne K (.ref C) (.ref a) = some (decide (j = i))
  bs : ∀ (j : Nat) (x : Str), errB[j]? = some x → ∃ a, mg x = some (.ref a) ∧ PySem.W.kitOne K (.ref C) (.ref a) = some (decide (j = errK i))
  pl : ∀ (j : Nat) (x : Str) (T : String), errP[j]? = some (x, T) → mg x = none ∧ bootBuiltins x = some (.type T) ∧ x ≠ "__name__" ∧ PySem.W.kitOne K (.ref C) (.type T) = some (decide (j = errK i))
  tr : ∀ b0 b1 b2 : Addr, mg "WrongValue" = some (.ref b0) → mg "WrongName" = some (.ref b1) → mg "NoAnswer" = some (.ref b2) → PySem.W.exmAny K (.ref C) [.ref b0, .ref b1, .ref b2] = some true
  ex : ExcC K C
  xf : XfC K C
  ng : PySem.W.findIn K (.ref C) "given" = some none
  ni : PySem.W.findIn K (.ref C) "index" = some none
theorem RoomHu {k : Nat} {A : Around} (r : L2H.RoomH k A) : A.units + 65 < cLine := by have := r.un; omega
theorem RoomHv {k : Nat} {A : Around} (r : L2H.RoomH k A) : A.units + 64 < cLine := by have := r.un; omega
section
variable {X : Cx} {Γ : G} {M : MM} {pos p1 p2 p3 : Pos} {x : Str} {p : Addr × Obj} {C : Addr} {i : Nat} {d : Option Addr} {ns : List Str} {es : List D} {Q : D → MM → Prop} {y : Str}
/-- what is in hand: the exception at slot i0 -/
structure InHand (X : Cx) (Γ : G) (C : Addr) (i : Nat) (p : Addr × Obj) (d : Option Addr) (ns : List Str) (es : List D) (i0 : Nat) (y : Str) : Prop where
  t : ErrW X.K X.mg C i
  hp : p ∈ X.pn
  hz : Zc (.ref C) d p.2
  hf : ∃ vs, p.2.data = .fields vs
  h0 : Γ[i0]? = some (some (.xcp p.1 d ns es))
  hN : X.N[i0]? = some y
  hv : Vis X.env.scope y
  mi : X.mg "isinstance" = none
theorem InHand.set {i0 k : Nat} {o : Option D} (h : InHand X Γ C i p d ns es i0 y) (hk : k ≠ i0) : InHand X (Γ.set k o) C i p d ns es i0 y := { h with h0 := by rw [List.getElem?_set_ne hk]; exact h.h0 }
theorem we_isW {i0 : Nat} (h : InHand X Γ C i p d ns es i0 y) (j : Nat) (q : Q (.bl (decide (j = i))) M) (hx : errN[j]? = some x := by rfl) (hg : Gl X x := by rfl) (hgi : Gl X "isinstance" := by rfl) (hst : starEach [.Name y p3, .Name x p2] X.env = [(false, eval (.Name y p3) X.env), (false, eval (.Name x p2) X.env)] := by rfl)
    (hdb : (x == ("__debug__" : Str)) = false := by decide) (h1 : (y == ("__debug__" : Str)) = false := by decide) (h2 : (y == ("__classdict__" : Str)) = false := by decide) : WE X (.Call (.Name "isinstance" p1) [.Name y p3, .Name x p2] [] pos) Γ M Q := by
  obtain ⟨a, k1, k2⟩ := h.t.nm j x hx
  exact we_isX h.t.ex h.hp h.mi (.inl ⟨k1, a, rfl⟩) k2 (we_var i0 h.h0 ⟨d, ns, es, rfl, h.hz, h.hf, q⟩ h.hN h.hv h1 h2) hg hgi hdb hst
theorem we_isB {i0 : Nat} (h : InHand X Γ C i p d ns es i0 y) (j : Nat) (q : Q (.bl (decide (j = errK i))) M) (hx : errB[j]? = some x := by rfl) (hg : Gl X x := by rfl) (hgi : Gl X "isinstance" := by rfl) (hst : starEach [.Name y p3, .Name x p2] X.env = [(false, eval (.Name y p3) X.env), (false, eval (.Name x p2) X.env)] := by rfl)
    (hdb : (x == ("__debug__" : Str)) = false := by decide) (h1 : (y == ("__debug__" : Str)) = false := by decide) (h2 : (y == ("__classdict__" : Str)) = false := by decide) : WE X (.Call (.Name "isinstance" p1) [.Name y p3, .Name x p2] [] pos) Γ M Q := by
  obtain ⟨a, k1, k2⟩ := h.t.bs j x hx
  exact we_isX h.t.ex h.hp h.mi (.inl ⟨k1, a, rfl⟩) k2 (we_var i0 h.h0 ⟨d, ns, es, rfl, h.hz, h.hf, q⟩ h.hN h.hv h1 h2) hg hgi hdb hst
theorem we_isP {i0 : Nat} {T : String} (h : InHand X Γ C i p d ns es i0 y) (j : Nat) (q : Q (.bl (decide (j = errK i))) M) (hx : errP[j]? = some (x, T) := by rfl) (hg : Gl X x := by rfl) (hgi : Gl X "isinstance" := by rfl) (hst : starEach [.Name y p3, .Name x p2] X.env = [(false, eval (.Name y p3) X.env), (false, eval (.Name x p2) X.env)] := by rfl)
    (hdb : (x == ("__debug__" : Str)) = false := by decide) (h1 : (y == ("__debug__" : Str)) = false := by decide) (h2 : (y == ("__classdict__" : Str)) = false := by decide) : WE X (.Call (.Name "isinstance" p1) [.Name y p3, .Name x p2] [] pos) Γ M Q := by
  obtain ⟨k1, k2, k3, k4⟩ := h.t.pl j x T hx
  exact we_isX h.t.ex h.hp h.mi (.inr ⟨k1, k2, k3, T, rfl⟩) k4 (we_var i0 h.h0 ⟨d, ns, es, rfl, h.hz, h.hf, q⟩ h.hN h.hv h1 h2) hg hgi hdb hst
theorem we_xgiven {i0 : Nat} {v : D} (h : InHand X Γ C i p d ns es i0 y) (hg : getN "given" ns es = some v) (q : Q v M) (hb : attributeBase (.Name y p3) "given" X.env (eval (.Name y p3) X.env) = eval (.Name y p3) X.env := by rfl)
    (h1 : (y == ("__debug__" : Str)) = false := by decide) (h2 : (y == ("__classdict__" : Str)) = false := by decide) : WE X (.Attribute (.Name y p3) "given" pos) Γ M Q :=
  we_xfld h.t.xf h.t.ng h.hp (we_var i0 h.h0 ⟨d, ns, es, v, rfl, h.hz, h.hf, hg, q⟩ h.hN h.hv h1 h2) hb
theorem we_xindex {i0 : Nat} {v : D} (h : InHand X Γ C i p d ns es i0 y) (hg : getN "index" ns es = some v) (q : Q v M) (hb : attributeBase (.Name y p3) "index" X.env (eval (.Name y p3) X.env) = eval (.Name y p3) X.env := by rfl)
    (h1 : (y == ("__debug__" : Str)) = false := by decide) (h2 : (y == ("__classdict__" : Str)) = false := by decide) : WE X (.Attribute (.Name y p3) "index" pos) Γ M Q :=
  we_xfld h.t.xf h.t.ni h.hp (we_var i0 h.h0 ⟨d, ns, es, v, rfl, h.hz, h.hf, hg, q⟩ h.hN h.hv h1 h2) hb
end
def bits (i n : Nat) : List Bool := (List.range n).map fun j => decide (j = i)
theorem bits_count : ∀ i, i < 20 → ((bits i 20).count true : Nat) = 1 := by decide +kernel
theorem bits_at : ∀ i, i < 20 → (bits i 20)[i]? = some true ∧ ∀ m, m < i → (bits i 20)[m]? = some (!true) := fun i hi => by
  refine ⟨by simp [bits, hi], fun m hm => ?_⟩
  have : m < 20 := by omega
  simp [bits, this]
  omega
/-- which attribute tells what was passed: 0 given, 1 index, 2 both, 3 none -/
def errF (i : Nat) : Nat := if i < 8 then 0 else if i < 13 then 1 else if i = 14 then 1 else if i = 15 then 1 else if i = 18 then 2 else if i = 19 then 3 else 0
def FldOk (i : Nat) (ns : List Str) (es : List D) (v : D) : Prop := (errF i = 0 ∧ getN "given" ns es = some v) ∨ (errF i = 1 ∧ getN "index" ns es = some v) ∨ (errF i = 3 ∧ v = .non)
theorem eqv3 (a b c : Bool) : PyData.eqv (.list [.bool a, .bool b, .bool c]) (.list [.bool a, .bool b, .bool c]) = true := by
  cases a <;> cases b <;> cases c <;> decide +kernel
end DL

set_option Elab.async false
set_option linter.all false
set_option autoImplicit false
set_option maxRecDepth 100000
set_option maxHeartbeats 4000000
namespace DL
open PySem L2 PySem.Spec PyProof.Rows
section
variable {X : Cx} {Γ : G} {M : MM} {pos p1 p2 : Pos} {x : Str}
/-- a list that may change does so no more -/
theorem we_freeze {e : Expr} {Q : D → MM → Prop} (h : WE X e Γ M fun d M1 => ∃ a ds, d = .raw a ∧ M1 a = some (.lst ds) ∧ Q (.lst ds) (mdel M1 a)) : WE X e Γ M Q := ⟨fun F σ H he hc R hR =>
  h.run F σ H he hc R fun F' H' M' v d s c dv ⟨a, ds, e, hM, q⟩ => by
    subst e
    cases dv
    obtain ⟨F2, s2, c2, d2⟩ := c.freeze hM
    exact hR F2 H' _ _ _ (s.trans s2) c2 d2 q⟩
/-- an if whose both ways come to J -/
theorem ws_ifJ {c : Expr} {a b rest : List Stmt} {Φ : Fi} (J : G → MM → Prop) (h : WT X c Γ M fun t M1 => (t = true → WS X a Γ M1 { Φ with nx := J }) ∧ (t = false → WS X b Γ M1 { Φ with nx := J })) (hr : ∀ Γ' M', J Γ' M' → WS X rest Γ' M' Φ) : WS X (.If c a b pos :: rest) Γ M Φ :=
  ws_if (h.imp fun t M1 ⟨h1, h2⟩ => ⟨fun e => (h1 e).imp hr (fun _ _ q => q) (fun _ _ q => q) (fun _ _ q => q), fun e => (h2 e).imp hr (fun _ _ q => q) (fun _ _ q => q) (fun _ _ q => q)⟩)
/-- the type, as isinstance asks it -/
def isinTy : D → Option String
  | .non => some "NoneType"
  | .bl _ => some "bool"
  | .int _ => some "int"
  | .str _ => some "str"
  | .lst _ => some "list"
  | .tup _ => some "tuple"
  | .dct _ _ => some "dict"
  | _ => none
theorem tyX_of {K : PySem.W.Frag} {F H : Hp} {v : V} {d : D} {t : String} (e : Same F H) (dv : Dn K F v d) (h : isinTy d = some t) : TyX K H v (.type t) := by
  cases dv with
  | non => cases h; exact .base .non
  | bl b => cases h; exact .base (.bl b)
  | int i => cases h; exact .base (.int i)
  | str s => cases h; exact .base (.str s)
  | lst k1 k2 => cases h; exact .base (.lst (e _ _ k1))
  | dct k1 k2 k3 => cases h; exact .base (.dK (e _ _ k1))
  | tup k1 k2 =>
    cases h
    rcases k1 with (k | ⟨o, k⟩) | ⟨o, its, n, k, c, _⟩
    · exact .base (.tup (e _ _ k))
    · exact .fTuple (e _ _ k)
    · exact .kTuple k c
  | _ => cases h
/-- isinstance(e, T), T a built-in type by its name -/
theorem we_isinst {e : Expr} {T : String} {Q : D → MM → Prop} (hmi : X.mg "isinstance" = none) (hx : X.mg x = none) (hv : bootBuiltins x = some (.type T)) (h : WE X e Γ M fun d M1 => ∃ t b, isinTy d = some t ∧ kitB t T = some b ∧ Q (.bl b) M1)
    (hn : x ≠ "__name__" := by decide +kernel) (hg : Gl X x := by rfl) (hgi : Gl X "isinstance" := by rfl) (hdb : (x == ("__debug__" : Str)) = false := by decide)
    (hst : starEach [e, .Name x p2] X.env = [(false, eval e X.env), (false, eval (.Name x p2) X.env)] := by rfl) : WE X (.Call (.Name "isinstance" p1) [e, .Name x p2] [] pos) Γ M Q := ⟨fun F σ H ho hc W hR => by
  refine ⟨_, pe_callB call_isi hgi hmi (by decide +kernel) (pa_cons pe_wp (pa_cons (pe_bltn (v := .ty T) hg hx hv rfl hn hdb) pa_nil) hst) (by decide) (by decide) hst, h.run F σ H ho hc _ fun F1 H1 M1 v d e1 c1 d1 ⟨t, b, h1, h2, q⟩ => ?_⟩
  exact ⟨v, .ty T, .type t, .type T, b, rfl, .ty T, tyX_of c1.sub d1 h1, kit_ty h2, hR F1 H1 M1 _ _ e1 c1 (.bl b) q⟩⟩
end
end DL

set_option Elab.async false
set_option linter.all false
set_option autoImplicit false
set_option maxRecDepth 100000
set_option maxHeartbeats 4000000
namespace DL
open PySem L2 PySem.Spec PyProof.Rows
/-! classes made by keywords; methods that raise, by place and by keywords -/
section
variable {P : Program} {w : World} {K : PySem.W.Frag} {mg : Str → Option Value} {base : Heap}
structure MakF (P : Program) (w : World) (K : PySem.W.Frag) (mg : Str → Option Value) (base : Heap) (k : Nat) (x : Str) (C : Addr) (qual : Str) (st : Stmt) (ps : List Str) (R : RD) : Prop where
  ex : ∃ (f : Addr) (fd : FuncData), Mk K C f ∧ Fun K "__init__" qual st f fd ∧ FnOk P w K mg base CX0 k f fd ps (SpD K R) ∧ mg x = some (.ref C) ∧ Binds K fd ps []
structure MakK (P : Program) (w : World) (K : PySem.W.Frag) (mg : Str → Option Value) (base : Heap) (k : Nat) (x : Str) (C : Addr) (ks : List Str) (g : {α : Type} → List α → List α → List α) (R : RD) : Prop where
  ex : ∃ (f : Addr) (fd : FuncData) (ps : List Str), Mk K C f ∧ FnOk P w K mg base CX0 k f fd ps (SpD K R) ∧ mg x = some (.ref C) ∧ KB K fd ps ks g ∧ ∀ us ws : List Value, us.length = 1 → ws.length = ks.length → (g us ws).length = ps.length
theorem MakF.mak {k : Nat} {x : Str} {C : Addr} {qual : Str} {st : Stmt} {ps : List Str} {R : RD} (c : MakF P w K mg base k x C qual st ps R) : Mak P w K mg base k x C R := by
  obtain ⟨f, fd, hc, F, G, hm, b⟩ := c.ex
  exact ⟨f, fd, ps, hc, G, hm, b⟩
theorem MakF.kw {k : Nat} {x : Str} {C : Addr} {qual : Str} {st : Stmt} {ps ks : List Str} {g : {α : Type} → List α → List α → List α} {R : RD} (c : MakF P w K mg base k x C qual st ps R) (b : KwFn "__init__" qual st ps ks g) (hl : ∀ us ws : List Value, us.length = 1 → ws.length = ks.length → (g us ws).length = ps.length) : MakK P w K mg base k x C ks g R := by
  obtain ⟨f, fd, hc, F, G, hm, _⟩ := c.ex
  exact ⟨f, fd, ps, hc, G, hm, b K f fd F, hl⟩
theorem MakAt.makF {x : Str} {C : Addr} {qual : Str} {st : Stmt} {N ps : List Str} {k : Nat} {R : RD} (d : MakAt K mg x C qual st ps) (S : FnScope N ps (defScope st)) (len : ∀ ds M Q, R ds M Q → ds.length = ps.length)
    (hbody : ∀ (f : Addr) (cdv : Value) (A : Around) (outer : List Env) (s : Shared) (H : Hp) (E : XK), Room k (A.deeper (PyProof.Rows.envOfC qual (defScope st) s.heap.objs.size f cdv)) → ∀ (ds : List D) (M : MM) (Q : D → MM → Prop), R ds M Q →
      WS (cxOf CX0 P w K mg base N qual (defScope st) f cdv A outer s H E).nox (defBody st) (startD N ds) M { nx := fun _ M' => Q .non M', rt := Q }) : MakF P w K mg base (k + 1) x C qual st ps R := by
  obtain ⟨f, fd, hc, F, hm, b⟩ := d.ex
  exact ⟨f, fd, hc, F, fn_ok F S len (hbody f), hm, b⟩
/-- a method that may raise -/
structure MetFX (P : Program) (w : World) (K : PySem.W.Frag) (mg : Str → Option Value) (base : Heap) (k : Nat) (C : Addr) (m qual : Str) (st : Stmt) (ps : List Str) (R : RX) : Prop where
  ex : ∃ (f : Addr) (fd : FuncData), Cls K C ∧ Meth K C m f ∧ Fun K m qual st f fd ∧ FnOk P w K mg base (L2.CX P w) k f fd ps (SpX K R) ∧ Binds K fd ps []
theorem MetFX.met {k : Nat} {C : Addr} {m qual : Str} {st : Stmt} {ps : List Str} {R : RX} (c : MetFX P w K mg base k C m qual st ps R) : MetX P w K mg base k C m R := by
  obtain ⟨f, fd, hc, hm, F, G, b⟩ := c.ex
  exact ⟨f, fd, ps, hc, hm, G, b⟩
theorem MetFX.kw {k : Nat} {C : Addr} {m qual : Str} {st : Stmt} {ps ks : List Str} {g : {α : Type} → List α → List α → List α} {R : RX} (c : MetFX P w K mg base k C m qual st ps R) (b : KwFn m qual st ps ks g) : MetKX P w K mg base k C m ks g R := by
  obtain ⟨f, fd, hc, hm, F, G, _⟩ := c.ex
  exact ⟨f, fd, ps, hc, hm, G, b K f fd F⟩
/-- what a raising body starts from -/
abbrev BodyX (P : Program) (w : World) (K : PySem.W.Frag) (mg : Str → Option Value) (base : Heap) (k : Nat) (N : List Str) (qual : Str) (st : Stmt) (R : RX) : Prop := ∀ (f : Addr) (cdv : Value) (A : Around) (outer : List Env) (s : Shared) (H : Hp) (E : XK), Room k (A.deeper (PyProof.Rows.envOfC qual (defScope st) s.heap.objs.size f cdv)) →
  ∀ (F0 : Hp) (ds : List D) (M : MM) (Q : D → MM → Prop) (Ed : ED), R ds M Q Ed → TakesD (cxOf (L2.CX P w) P w K mg base N qual (defScope st) f cdv A outer s H E) F0 Ed →
    PassesOwn (model P w) (cxOf (L2.CX P w) P w K mg base N qual (defScope st) f cdv A outer s H E).A (cxOf (L2.CX P w) P w K mg base N qual (defScope st) f cdv A outer s H E).env (cxOf (L2.CX P w) P w K mg base N qual (defScope st) f cdv A outer s H E).xe →
    WS (cxOf (L2.CX P w) P w K mg base N qual (defScope st) f cdv A outer s H E) (defBody st) (startP N F0 ds) M { nx := fun _ M' => Q .non M', rt := Q }
theorem MetAt.metFX {C : Addr} {m qual : Str} {st : Stmt} {N ps : List Str} {k : Nat} {R : RX} (d : MetAt K C m qual st ps) (S : FnScope N ps (defScope st)) (len : ∀ ds M Q E, R ds M Q E → ds.length = ps.length) (hbody : BodyX P w K mg base k N qual st R) : MetFX P w K mg base (k + 1) C m qual st ps R := by
  obtain ⟨f, fd, hc, hm, F, b⟩ := d.ex
  exact ⟨f, fd, hc, hm, F, fn_okX F S len (hbody f), b⟩
theorem DefAt.calX {x : Str} {st : Stmt} {N ps : List Str} {k : Nat} {R : RX} (d : DefAt K mg x st ps) (S : FnScope N ps (defScope st)) (len : ∀ ds M Q E, R ds M Q E → ds.length = ps.length) (hbody : BodyX P w K mg base k N x st R) : CalX P w K mg base (k + 1) x R := by
  obtain ⟨f, fd, F, hm, b⟩ := d.ex
  exact ⟨f, fd, ps, fn_okX F S len (hbody f), hm, F.kp, b⟩
theorem MakAt.makX {x : Str} {C : Addr} {qual : Str} {st : Stmt} {N ps : List Str} {k : Nat} {R : RX} (d : MakAt K mg x C qual st ps) (S : FnScope N ps (defScope st)) (len : ∀ ds M Q E, R ds M Q E → ds.length = ps.length) (hbody : BodyX P w K mg base k N qual st R) : MakX P w K mg base (k + 1) x C R := by
  obtain ⟨f, fd, hc, F, hm, b⟩ := d.ex
  exact ⟨f, fd, ps, hc, fn_okX F S len (hbody f), hm, b⟩
end
section
variable {X : Cx} {Γ : G} {M : MM} {pos p apos : Pos} {k j : Nat} {x : Str}
/-- a new instance, known to change -/
theorem con_made {K : PySem.W.Frag} {F H : Hp} {M : MM} {a dx C : Addr} (c1 : Con K F M H) (na : H a = none) (nd : H dx = none) (ne : dx ≠ a) : Con K F (mupd M a (.ins C [] [])) (upd (upd H dx (.own a)) a (.ins C dx [])) := by
  have cA : Con K F M (upd H dx (.own a)) := c1.newH nd
  have na' : (upd H dx (.own a)) a = none := by rw [upd_ne (Ne.symm ne)]; exact na
  have cB : Con K F M (upd (upd H dx (.own a)) a (.ins C dx [])) := cA.newH na'
  refine ⟨cB.sub, fun b m e => ?_, cB.ntb, one_mupd cB.one fun _ z => by cases z⟩
  by_cases hb : b = a
  · subst hb
    rw [mupd_same] at e
    cases e
    exact ⟨c1.sub.free na, dx, [], upd_same, by rw [upd_ne ne]; exact upd_same, c1.sub.free nd, rfl, .nil⟩
  · rw [mupd_ne hb] at e
    exact cB.chg b m e
/-- C(k = v, ..) -/
theorem we_makeK0 {C : Addr} {kws : List Keyword} {ks : List Str} {g : {α : Type} → List α → List α → List α} {R : RD} {Q : D → MM → Prop} (c : MakK X.prog X.w X.K X.mg X.base k x C ks g R) (hr : Room j X.A) (hk : k + 1 ≤ j)
    (h : WK X kws Γ M fun ds M1 => ds.length = ks.length ∧ ∀ a, M1 a = none → R (g [.raw a] ds) (mupd M1 a (.ins C [] [])) fun d M2 => d = .non ∧ Q (.raw a) M2)
    (hg : Gl X x := by rfl) (hall : (backToKw pos (keywordEach kws X.env)).all (·.1.isSome) = true := by rfl) (hks : (backToKw pos (keywordEach kws X.env)).filterMap (·.1) = ks := by rfl) (hdb : (x == ("__debug__" : Str)) = false := by decide)
    (hpl : ((backTo pos (starEach [] X.env)).any (·.1) || (backToKw pos (keywordEach kws X.env)).any (·.1.isNone)) = false := by rfl) :
    WE X (.Call (.Name x p) [] kws pos) Γ M Q := ⟨fun F σ H ho hc W hR => by
  obtain ⟨f, fd, ps, hmk, G, hm, b, hl⟩ := c.ex
  refine ⟨_, pe_makeK0 (g := g) (gV := g) hmk G (hr.mono hk) hg hm ⟨fun s us ws X l1 l2 => b.to s us ws X (hl us ws l1 l2), b.relV⟩ (L2.pass0 (X := X)) pk_wp hall hks hdb hpl, ?_⟩
  refine h.run F σ H ho hc _ fun F1 H1 M1 zs ds e1 c1 d1 ⟨hz, h1⟩ => ⟨rfl, by rw [d1.length]; exact hz, fun a dx na nd ne => ?_⟩
  refine ⟨F1, g [.raw a] ds, _, _, con_made c1 na nd ne, b.relD (.cons (.raw a) .nil) d1, h1 a (c1.fresh na), fun F2 H2 M2 v d e2 c2 d2 ⟨hd, q⟩ => ?_⟩
  subst hd
  cases d2
  exact ⟨rfl, hR F2 H2 M2 _ _ (e1.trans e2) c2 (.raw a) q⟩⟩
/-- C(e, ..) that may raise -/
theorem we_makeX {C : Addr} {e : Expr} {es : List Expr} {R : RX} {F0 : Hp} {d0 : D} {Ed : ED} {Q : D → MM → Prop} (c : MakX X.prog X.w X.K X.mg X.base k x C R) (tk : TakesD X F0 Ed) (i : Nat) (hΓ : Γ[i]? = some (some (.pin F0 d0))) (hr : Room j X.A) (hk : k + 1 ≤ j)
    (h : WA X (e :: es) Γ M fun ds M1 => ∀ a, M1 a = none → R (.raw a :: ds) (mupd M1 a (.ins C [] [])) (fun d M2 => d = .non ∧ Q (.raw a) M2) Ed) (hg : Gl X x := by rfl)
    (hdb : (x == ("__debug__" : Str)) = false := by decide) (he : starEach (e :: es) X.env = (false, eval e X.env) :: starEach es X.env := by rfl) (hpl : (backTo pos (starEach es X.env)).any (·.1) = false := by rfl) :
    WE X (.Call (.Name x p) (e :: es) [] pos) Γ M Q := ⟨fun F σ H ho hc W hR => by
  obtain ⟨f, fd, ps, hmk, G, hm, b⟩ := c.ex
  obtain ⟨E, tke, px⟩ := tk
  have s0 := pin_same ho hΓ
  refine ⟨_, pe_make hmk G (hr.mono hk) hg hm b .nil (passD tke) pa_wp hdb he hpl, h.run F σ H ho hc _ fun F1 H1 M1 vs ds e1 c1 d1 h1 a dx na nd ne => ?_⟩
  rw [List.append_nil]
  refine ⟨F1, .raw a :: ds, _, _, Ed, con_made c1 na nd ne, .cons (.raw a) d1, h1 a (c1.fresh na), fun F2 H2 M2 v d e2 c2 d2 ⟨hd, q⟩ => ?_, px.mono (s0.trans e1)⟩
  subst hd
  cases d2
  exact ⟨rfl, hR F2 H2 M2 _ _ (e1.trans e2) c2 (.raw a) q⟩⟩
end
end DL

set_option Elab.async false
set_option linter.all false
set_option autoImplicit false
namespace DL
open PySem L2

/-! ### data that can be compared -/
/-- data that are laid down, at most n deep -/
def Lay (d : D) (q : PyData) (n : Nat) : Prop := py d = some q ∧ PyData.canLay0 q = true ∧ PyData.depth q ≤ n
def Lays (ds : List D) (qs : List PyData) (n : Nat) : Prop := pys ds = some qs ∧ PyData.canLayAll0 qs = true ∧ PyData.depthAll qs ≤ n
theorem Lays.nil {n : Nat} : Lays [] [] n := ⟨rfl, rfl, Nat.zero_le _⟩
theorem Lays.cons {d : D} {ds : List D} {q : PyData} {qs : List PyData} {n : Nat} (h : Lay d q n) (h2 : Lays ds qs n) : Lays (d :: ds) (q :: qs) n := by
  refine ⟨?_, ?_, ?_⟩
  · show (py d).bind (fun x => (pys ds).map fun xs => x :: xs) = _
    rw [h.1, h2.1]; rfl
  · show (PyData.canLay0 q && PyData.canLayAll0 qs) = true
    rw [h.2.1, h2.2.1]; rfl
  · show max (PyData.depth q) (PyData.depthAll qs) ≤ n
    have := h.2.2
    have := h2.2.2
    omega
theorem Lays.ints (ns : List Int) {n : Nat} (hn : 1 ≤ n) : Lays (ns.map .int) (ns.map .int) n := ⟨pys_ints ns, lay_ints ns, Nat.le_trans (depth_ints ns) hn⟩
theorem Lay.lst {ds : List D} {qs : List PyData} {n : Nat} (h : Lays ds qs n) : Lay (.lst ds) (.list qs) (n + 1) := ⟨by show (pys ds).map PyData.list = _; rw [h.1]; rfl, h.2.1, Nat.succ_le_succ h.2.2⟩
theorem Lay.tup {ds : List D} {qs : List PyData} {n : Nat} (h : Lays ds qs n) : Lay (.tup ds) (.tuple qs) (n + 1) := ⟨by show (pys ds).map PyData.tuple = _; rw [h.1]; rfl, h.2.1, Nat.succ_le_succ h.2.2⟩
theorem Lay.str {s : Str} {n : Nat} (h : PyData.strOk s = true) : Lay (.str s) (.str s) n := ⟨rfl, h, Nat.zero_le _⟩
theorem Lay.int {i : Int} {n : Nat} : Lay (.int i) (.int i) n := ⟨rfl, rfl, Nat.zero_le _⟩
theorem Lay.bl {b : Bool} {n : Nat} : Lay (.bl b) (.bool b) n := ⟨rfl, rfl, Nat.zero_le _⟩
theorem Lay.non {n : Nat} : Lay .non .none n := ⟨rfl, rfl, Nat.zero_le _⟩
theorem Lay.up {d : D} {q : PyData} {n m : Nat} (h : Lay d q n) (hm : n ≤ m) : Lay d q m := ⟨h.1, h.2.1, Nat.le_trans h.2.2 hm⟩
theorem Lay.shaped {d : D} {q : PyData} {n : Nat} (h : Lay d q n) (hn : n ≤ 64) : SeqAt.shaped q = true := by
  unfold SeqAt.shaped
  rw [h.2.1, decide_eq_true (Nat.le_trans h.2.2 hn)]; rfl
theorem eqQ_same {d : D} {q : PyData} {n : Nat} {M : MM} {Q : Bool → MM → Prop} (h : Lay d q n) (hn : n ≤ 64) (hq : Q true M) : EqQ d d M Q := by
  have deep : ∃ p q, py d = some p ∧ py d = some q ∧ SeqAt.shaped p = true ∧ SeqAt.shaped q = true ∧ Q (PyData.eqv p q) M := ⟨q, q, h.1, h.1, h.shaped hn, h.shaped hn, by rw [SeqAt.eqv_refl q h.2.1]; exact hq⟩
  cases d with
  | int i => show Q (decide (i = i)) M; rw [decide_eq_true rfl]; exact hq
  | str s => show Q (decide (s = s)) M; rw [decide_eq_true rfl]; exact hq
  | bl b => show Q (decide (b = b)) M; rw [decide_eq_true rfl]; exact hq
  | _ => exact deep
theorem eqQ_nils {M : MM} {Q : Bool → MM → Prop} (h : Q true M) : EqQ (.lst []) (.lst []) M Q := ⟨.list [], .list [], rfl, rfl, by decide +kernel, by decide +kernel, h⟩
theorem eqQ_no {d : D} {ds : List D} {q : PyData} {n : Nat} {M : MM} {Q : Bool → MM → Prop} (h : Lay (.lst (d :: ds)) q n) (hn : n ≤ 64) (hq : Q false M) : EqQ (.lst (d :: ds)) (.lst []) M Q := by
  refine ⟨q, .list [], h.1, rfl, h.shaped hn, by decide +kernel, ?_⟩
  have e : (pys (d :: ds)).map PyData.list = some q := h.1
  cases hp : pys (d :: ds) with
  | none => rw [hp] at e; cases e
  | some qs =>
    rw [hp] at e
    cases e
    cases qs with
    | nil =>
      have e2 : (py d).bind (fun x => (pys ds).map fun xs => x :: xs) = some [] := hp
      cases h3 : py d with
      | none => rw [h3] at e2; cases e2
      | some x =>
        rw [h3] at e2
        cases h4 : pys ds with
        | none =>
          have e3 : (pys ds).map (fun xs => x :: xs) = some [] := e2
          rw [h4] at e3; cases e3
        | some xs =>
          have e3 : (pys ds).map (fun xs => x :: xs) = some [] := e2
          rw [h4] at e3; cases e3
    | cons z zs => exact hq

/-! ### what repr writes of a string -/
open Builtin.Str in
theorem reprChar_ok (q c : Nat) (hq : q < 0x110000) (hc : c < 0x110000) : ∀ x ∈ reprChar q c, x < 0x110000 := by
  have hd : ∀ x ∈ (Nat.toDigits 16 c).map Char.toNat, x < 0x110000 := by
    intro x hx
    obtain ⟨ch, _, rfl⟩ := List.mem_map.mp hx
    have := ch.valid
    have e : ch.toNat = ch.val.toNat := rfl
    rcases this with h | ⟨_, h⟩
    · have h : ch.val.toNat < 0xd800 := h
      omega
    · have h : ch.val.toNat < 0x110000 := h
      omega
  have hh : ∀ w : Nat, ∀ x ∈ List.replicate (w - ((Nat.toDigits 16 c).map Char.toNat).length) 48 ++ (Nat.toDigits 16 c).map Char.toNat, x < 0x110000 := by
    intro w x hx
    rcases List.mem_append.mp hx with h | h
    · rw [(List.mem_replicate.mp h).2]; decide
    · exact hd x h
  have two : ∀ a b : Nat, ∀ w : Nat, a < 0x110000 → b < 0x110000 → ∀ x ∈ [a, b] ++ (List.replicate (w - ((Nat.toDigits 16 c).map Char.toNat).length) 48 ++ (Nat.toDigits 16 c).map Char.toNat), x < 0x110000 := by
    intro a b w ha hb x hx
    rcases List.mem_append.mp hx with h | h
    · simp only [List.mem_cons, List.not_mem_nil, or_false] at h
      rcases h with h | h
      · subst h; exact ha
      · subst h; exact hb
    · exact hh w x h
  have pair : ∀ a b : Nat, a < 0x110000 → b < 0x110000 → ∀ x ∈ [a, b], x < 0x110000 := by
    intro a b ha hb x hx
    simp only [List.mem_cons, List.not_mem_nil, or_false] at hx
    rcases hx with h | h
    · subst h; exact ha
    · subst h; exact hb
  unfold reprChar
  dsimp only
  split
  · exact pair _ _ (by decide) hc
  · split
    · exact pair _ _ (by decide) (by decide)
    · split
      · exact pair _ _ (by decide) (by decide)
      · split
        · exact pair _ _ (by decide) (by decide)
        · split
          · intro x hx; rw [List.mem_singleton.mp hx]; exact hc
          · split
            · exact two _ _ _ (by decide) (by decide)
            · split
              · exact two _ _ _ (by decide) (by decide)
              · exact two _ _ _ (by decide) (by decide)
open Builtin.Str in
theorem foldl_repr_ok (q : Nat) (hq : q < 0x110000) : ∀ (l : List Nat) (acc : Array Nat), (∀ c ∈ l, c < 0x110000) → (∀ c ∈ acc.toList, c < 0x110000) → ∀ c ∈ (l.foldl (fun out c => out ++ (reprChar q c).toArray) acc).toList, c < 0x110000
  | [], acc, _, ha => ha
  | c :: r, acc, h, ha => by
    refine foldl_repr_ok q hq r _ (fun d hd => h d (List.mem_cons_of_mem _ hd)) ?_
    intro x hx
    rw [Array.toList_append] at hx
    rcases List.mem_append.mp hx with h1 | h1
    · exact ha x h1
    · exact reprChar_ok q c hq (h c (List.mem_cons_self ..)) x h1
theorem strOk_repr {x : Str} (h : PyData.strOk x = true) : PyData.strOk (reprText x) = true := by
  have hx : ∀ c ∈ x.cps.toList, c < 0x110000 := by
    intro c hc
    unfold PyData.strOk at h
    rw [← Array.all_toList] at h
    have := List.all_eq_true.mp h c hc
    exact of_decide_eq_true this
  have hq : reprQuote x < 0x110000 := by
    unfold reprQuote
    split <;> decide
  unfold PyData.strOk
  rw [← Array.all_toList]
  refine List.all_eq_true.mpr fun c hc => decide_eq_true ?_
  unfold reprText at hc
  rw [Array.toList_push, ← Array.foldl_toList] at hc
  rcases List.mem_append.mp hc with h1 | h1
  · refine foldl_repr_ok (reprQuote x) hq _ _ hx ?_ c h1
    intro y hy
    have : y = reprQuote x := by simpa using hy
    rw [this]; exact hq
  · rw [List.mem_singleton.mp h1]; exact hq
theorem repr_len {x : Str} (h : PyData.strOk x = true) : (reprText x).length ≤ 10 * x.length + 2 := by
  refine StrLaws.reprText_len x fun c hc => ?_
  unfold PyData.strOk at h
  rw [← Array.all_toList] at h
  have := of_decide_eq_true (List.all_eq_true.mp h c hc)
  omega
end DL

set_option Elab.async false
set_option linter.all false
set_option autoImplicit false
set_option maxRecDepth 100000
set_option maxHeartbeats 4000000
namespace DL
open PySem L2 PySem.Spec PyProof.Rows
/-! defs whose code object is known (they make a lambda) -/
structure FunC (K : PySem.W.Frag) (x qual : Str) (st : Stmt) (f : Addr) (fd : FuncData) (cc : Addr) : Prop where
  ex : ∃ (oc : Value) (od : Option Addr) (kV doc pm : Value) (an : Option Addr) (ct : Value) (osl : Array (Option Value)),
    fd = PySem.W.fnOf x qual (defArgs st) (defBody st) (defScope st) .none kV doc pm an (.ref cc) ct ∧ K.lookup f = some ⟨oc, od, .func fd, osl⟩ ∧ PySem.W.codeIn K (.ref cc) qual = true
  kp : PySem.W.keepIn K (.ref f) = true
theorem FunC.fun {K : PySem.W.Frag} {x qual : Str} {st : Stmt} {f : Addr} {fd : FuncData} {cc : Addr} (F : FunC K x qual st f fd cc) : Fun K x qual st f fd := by
  obtain ⟨oc, od, kV, doc, pm, an, ct, osl, a, b, c⟩ := F.ex
  exact ⟨⟨oc, od, kV, doc, pm, an, .ref cc, ct, osl, a, b, c⟩, F.kp⟩
section
variable {P : Program} {w : World} {K : PySem.W.Frag} {mg : Str → Option Value} {base : Heap}
theorem FunC.ok {x qual : Str} {st : Stmt} {f cc : Addr} {fd : FuncData} {N ps : List Str} {k : Nat} {sp : Sp} (F : FunC K x qual st f fd cc) (S : FnScope N ps (defScope st)) (len : ∀ vs H Q E, sp vs H Q E → vs.length = ps.length)
    (hbody : ∀ (A : Around) (outer : List Env) (s : Shared) (H : Hp) (vs : List V) (Q : VK) (E : XK), Room k (A.deeper (envOfC qual (defScope st) s.heap.objs.size f (.ref cc))) → sp vs H Q E →
      ∃ t, PSs (cxOf CX0 P w K mg base N qual (defScope st) f (.ref cc) A outer s H E).nox (defBody st) t ∧ t { nx := fun _ H' => Q .non H', rt := Q } (L2.start N vs) H) : FnOk P w K mg base CX0 (k + 1) f fd ps sp := by
  obtain ⟨oc, od, kV, doc, pm, an, ct, osl, rfl, lk, hcd⟩ := F.ex
  refine fn_of lk hcd S len fun A outer s H vs Q E hr hsp => ?_
  obtain ⟨t, h, q⟩ := hbody A outer s H vs Q E hr hsp
  exact ⟨t, h.nox, q⟩
theorem fn_okC {x qual : Str} {st : Stmt} {f cc : Addr} {fd : FuncData} {N ps : List Str} {k : Nat} {R : RD} (F : FunC K x qual st f fd cc) (S : FnScope N ps (defScope st)) (len : ∀ ds M Q, R ds M Q → ds.length = ps.length)
    (hbody : ∀ (A : Around) (outer : List Env) (s : Shared) (H : Hp) (E : XK), Room k (A.deeper (PyProof.Rows.envOfC qual (defScope st) s.heap.objs.size f (.ref cc))) → ∀ (ds : List D) (M : MM) (Q : D → MM → Prop), R ds M Q →
      WS (cxOf CX0 P w K mg base N qual (defScope st) f (.ref cc) A outer s H E).nox (defBody st) (startD N ds) M { nx := fun _ M' => Q .non M', rt := Q }) : FnOk P w K mg base CX0 (k + 1) f fd ps (SpD K R) := by
  refine F.ok S (fun vs H Q E ⟨F, ds, M, Qd, c, d, r, _⟩ => d.length.trans (len ds M Qd r)) fun A outer s H vs Q E hr ⟨F, ds, M, Qd, c, d, r, hq⟩ => ?_
  exact (hbody A outer s H E hr ds M Qd r).run F (L2.start N vs) H (start_ok d) c _
    ⟨fun F' σ' H' Γ' M' e _ c' q => hq F' H' M' .non .non e c' .non q, fun F' H' M' v d e c' dv q => hq F' H' M' v d e c' dv q, fun _ _ _ _ _ _ _ _ h => h.elim, fun _ _ _ _ _ _ _ _ h => h.elim⟩
structure DefAtC (K : PySem.W.Frag) (mg : Str → Option Value) (x : Str) (st : Stmt) (ps : List Str) (cc : Addr) : Prop where
  ex : ∃ (f : Addr) (fd : FuncData), FunC K x x st f fd cc ∧ mg x = some (.ref f) ∧ Binds K fd ps []
theorem DefAtC.cal {x : Str} {st : Stmt} {N ps : List Str} {k : Nat} {R : RD} {cc : Addr} (d : DefAtC K mg x st ps cc) (S : FnScope N ps (defScope st)) (len : ∀ ds M Q, R ds M Q → ds.length = ps.length)
    (hbody : ∀ (f : Addr) (A : Around) (outer : List Env) (s : Shared) (H : Hp) (E : XK), Room k (A.deeper (PyProof.Rows.envOfC x (defScope st) s.heap.objs.size f (.ref cc))) → ∀ (ds : List D) (M : MM) (Q : D → MM → Prop), R ds M Q →
      WS (cxOf CX0 P w K mg base N x (defScope st) f (.ref cc) A outer s H E).nox (defBody st) (startD N ds) M { nx := fun _ M' => Q .non M', rt := Q }) : Cal P w K mg base (k + 1) x R := by
  obtain ⟨f, fd, F, hm, b⟩ := d.ex
  exact ⟨f, fd, ps, fn_okC F S len (hbody f), hm, F.kp, b⟩
end
/-- the code object at cc and its table at T, both in the text behind the top -/
theorem code_hd {K : PySem.W.Frag} {h : Heap} {c P : Addr} (X : K.In h) (e : PySem.W.codeHdIn K c P = true) : PySem.W.CodeHd h c P := PySem.W.codeHd_of_K X e
theorem defC_mk {K : PySem.W.Frag} {mg : Str → Option Value} {x : Str} {st : Stmt} {ps : List Str} {f cc : Addr} {oc kV dc pm ct : Value} {od an : Option Addr} {sl : Array (Option Value)}
    (l : K.lookup f = some ⟨oc, od, .func (PySem.W.fnOf x x (defArgs st) (defBody st) (defScope st) .none kV dc pm an (.ref cc) ct), sl⟩) (c : PySem.W.codeIn K (.ref cc) x = true) (k : PySem.W.keepIn K (.ref f) = true) (hm : mg x = some (.ref f))
    (hb : ∀ (kV doc pm : Value) (an : Option Addr) (cdv ct : Value) (us : List Value), us.length = ps.length → bindArgs (PySem.W.fnOf x x (defArgs st) (defBody st) (defScope st) .none kV doc pm an cdv ct) ⟨us, []⟩ = pure (ps.zip us)) : DefAtC K mg x st ps cc :=
  let F : FunC K x x st f _ cc := ⟨⟨oc, od, kV, dc, pm, an, ct, sl, rfl, l, c⟩, k⟩
  ⟨f, _, F, hm, F.fun.binds hb⟩
end DL

set_option Elab.async false
set_option linter.all false
set_option autoImplicit false
set_option maxRecDepth 100000
set_option maxHeartbeats 4000000
namespace DL
open PySem L2 PySem.Spec PyProof.Rows
/-! the facts of an error class at the top -/
def kitIs (K : PySem.W.Frag) (C : Addr) (v : Value) (b : Bool) : Bool := match PySem.W.kitOne K (.ref C) v with
  | some d => d == b
  | none => false
theorem kitIs_ok {K : PySem.W.Frag} {C : Addr} {v : Value} {b : Bool} (h : kitIs K C v b = true) : PySem.W.kitOne K (.ref C) v = some b := by
  unfold kitIs at h
  split at h
  · rename_i d e
    rw [e, beq_iff_eq.mp h]
  · cases h
def exmIs (K : PySem.W.Frag) (C : Addr) (vs : List Value) : Bool := match PySem.W.exmAny K (.ref C) vs with
  | some d => d
  | none => false
theorem exmIs_ok {K : PySem.W.Frag} {C : Addr} {vs : List Value} (h : exmIs K C vs = true) : PySem.W.exmAny K (.ref C) vs = some true := by
  unfold exmIs at h
  split at h
  · rename_i d e
    rw [e, h]
  · cases h
def errChk (K : PySem.W.Frag) (as : List Addr) (b0 b1 b2 : Addr) (C : Addr) (i : Nat) : Bool :=
  (List.range 20).all (fun j => kitIs K C (.ref (as.getD j 0)) (decide (j = i))) && ((List.range 3).all (fun j => kitIs K C (.ref ([b0, b1, b2].getD j 0)) (decide (j = errK i))) &&
    (kitIs K C (.type "ValueError") (decide (0 = errK i)) && (kitIs K C (.type "LookupError") (decide (1 = errK i)) && (kitIs K C (.type "ArithmeticError") (decide (2 = errK i)) && (exmIs K C [.ref b0, .ref b1, .ref b2] && xfB K C)))))
def NsAll (K : PySem.W.Frag) : List Str → List Addr → Prop
  | [], _ => True
  | _ :: _, [] => False
  | x :: xs, a :: as => PySem.W.nsIn K mainGlobals x = some (some (.ref a)) ∧ NsAll K xs as
theorem NsAll.get {K : PySem.W.Frag} : ∀ {xs : List Str} {as : List Addr} {j : Nat} {x : Str}, NsAll K xs as → xs[j]? = some x → PySem.W.nsIn K mainGlobals x = some (some (.ref (as.getD j 0)))
  | [], _, j, x, _, e => by simp at e
  | _ :: _, [], j, x, h, _ => h.elim
  | y :: xs, a :: as, 0, x, h, e => by
    have e' : some y = some x := e
    cases e'
    exact h.1
  | y :: xs, a :: as, j + 1, x, h, e => by
    have e' : xs[j]? = some x := e
    have := NsAll.get h.2 e'
    simpa using this
theorem errw_of {K : PySem.W.Frag} {h : Heap} {mg : Str → Option Value} {C : Addr} {i : Nat} {as : List Addr} {b0 b1 b2 : Addr} (X : K.In h) (G : h.Ns mainGlobals mg) (hi : i < 20) (na : NsAll K errN as) (nb : NsAll K errB [b0, b1, b2])
    (v0 : PySem.W.nsIn K mainGlobals "ValueError" = some none) (v1 : PySem.W.nsIn K mainGlobals "LookupError" = some none) (v2 : PySem.W.nsIn K mainGlobals "ArithmeticError" = some none)
    (ck : errChk K as b0 b1 b2 C i = true) (ex : ExcC K C) (ng : PySem.W.findIn K (.ref C) "given" = some none) (ni : PySem.W.findIn K (.ref C) "index" = some none) : ErrW K mg C i := by
  unfold errChk at ck
  obtain ⟨c1, ck⟩ := Bool.and_eq_true_iff.mp ck
  obtain ⟨c2, ck⟩ := Bool.and_eq_true_iff.mp ck
  obtain ⟨c3, ck⟩ := Bool.and_eq_true_iff.mp ck
  obtain ⟨c4, ck⟩ := Bool.and_eq_true_iff.mp ck
  obtain ⟨c5, ck⟩ := Bool.and_eq_true_iff.mp ck
  obtain ⟨c6, c7⟩ := Bool.and_eq_true_iff.mp ck
  refine ⟨hi, fun j x e => ?_, fun j x e => ?_, fun j x T e => ?_, fun d0 d1 d2 m0 m1 m2 => ?_, ex, xfB_ok c7, ng, ni⟩
  · have hj : j < 20 := (List.getElem?_eq_some_iff.mp e).1
    exact ⟨_, PySem.W.mg_of X G (na.get e), kitIs_ok (List.all_eq_true.mp c1 j (List.mem_range.mpr hj))⟩
  · have hj : j < 3 := (List.getElem?_eq_some_iff.mp e).1
    exact ⟨_, PySem.W.mg_of X G (nb.get e), kitIs_ok (List.all_eq_true.mp c2 j (List.mem_range.mpr hj))⟩
  · have hj : j < 3 := (List.getElem?_eq_some_iff.mp e).1
    match j, hj, e with
    | 0, _, e => cases e; exact ⟨PySem.W.mg_none_of X G v0, by decide +kernel, by decide +kernel, kitIs_ok c3⟩
    | 1, _, e => cases e; exact ⟨PySem.W.mg_none_of X G v1, by decide +kernel, by decide +kernel, kitIs_ok c4⟩
    | 2, _, e => cases e; exact ⟨PySem.W.mg_none_of X G v2, by decide +kernel, by decide +kernel, kitIs_ok c5⟩
  · have e0 := (PySem.W.mg_of X G nb.1).symm.trans m0
    have e1 := (PySem.W.mg_of X G nb.2.1).symm.trans m1
    have e2 := (PySem.W.mg_of X G nb.2.2.1).symm.trans m2
    cases e0
    cases e1
    cases e2
    exact exmIs_ok c6
theorem errw_mk {K : PySem.W.Frag} {h : Heap} {mg : Str → Option Value} {C : Addr} {i : Nat} {a0 a1 a2 a3 a4 a5 a6 a7 a8 a9 a10 a11 a12 a13 a14 a15 a16 a17 a18 a19 b0 b1 b2 : Addr} (X : K.In h) (G : h.Ns mainGlobals mg) (hi : i < 20) (n0 : PySem.W.nsIn K mainGlobals "InvalidCloth" = some (some (.ref a0))) (n1 : PySem.W.nsIn K mainGlobals "InvalidMove" = some (some (.ref a1))) (n2 : PySem.W.nsIn K mainGlobals "InvalidText" = some (some (.ref a2))) (n3 : PySem.W.nsIn K mainGlobals "InvalidName" = some (some (.ref a3))) (n4 : PySem.W.nsIn K mainGlobals "InvalidNumber" = some (some (.ref a4))) (n5 : PySem.W.nsIn K mainGlobals "InvalidPlace" = some (some (.ref a5))) (n6 : PySem.W.nsIn K mainGlobals "InvalidWish" = some (some (.ref a6))) (n7 : PySem.W.nsIn K mainGlobals "NotAScript" = some (some (.ref a7))) (n8 : PySem.W.nsIn K mainGlobals "InvalidRows" = some (some (.ref a8))) (n9 : PySem.W.nsIn K mainGlobals "InvalidStanding" = some (some (.ref a9))) (n10 : PySem.W.nsIn K mainGlobals "InvalidSeen" = some (some (.ref a10))) (n11 : PySem.W.nsIn K mainGlobals "InvalidExchanges" = some (some (.ref a11))) (n12 : PySem.W.nsIn K mainGlobals "InvalidWishes" = some (some (.ref a12))) (n13 : PySem.W.nsIn K mainGlobals "UnknownName" = some (some (.ref a13))) (n14 : PySem.W.nsIn K mainGlobals "InUse" = some (some (.ref a14))) (n15 : PySem.W.nsIn K mainGlobals "Unknown" = some (some (.ref a15))) (n16 : PySem.W.nsIn K mainGlobals "TooFew" = some (some (.ref a16))) (n17 : PySem.W.nsIn K mainGlobals "TooMany" = some (some (.ref a17))) (n18 : PySem.W.nsIn K mainGlobals "Broken" = some (some (.ref a18))) (n19 : PySem.W.nsIn K mainGlobals "NothingToUndo" = some (some (.ref a19))) (w0 : PySem.W.nsIn K mainGlobals "WrongValue" = some (some (.ref b0))) (w1 : PySem.W.nsIn K mainGlobals "WrongName" = some (some (.ref b1))) (w2 : PySem.W.nsIn K mainGlobals "NoAnswer" = some (some (.ref b2)))
    (v0 : PySem.W.nsIn K mainGlobals "ValueError" = some none) (v1 : PySem.W.nsIn K mainGlobals "LookupError" = some none) (v2 : PySem.W.nsIn K mainGlobals "ArithmeticError" = some none)
    (ck : errChk K [a0, a1, a2, a3, a4, a5, a6, a7, a8, a9, a10, a11, a12, a13, a14, a15, a16, a17, a18, a19] b0 b1 b2 C i = true) (ex : ExcC K C) (ng : PySem.W.findIn K (.ref C) "given" = some none) (ni : PySem.W.findIn K (.ref C) "index" = some none) : ErrW K mg C i :=
  errw_of (as := [a0, a1, a2, a3, a4, a5, a6, a7, a8, a9, a10, a11, a12, a13, a14, a15, a16, a17, a18, a19]) X G hi ⟨n0, n1, n2, n3, n4, n5, n6, n7, n8, n9, n10, n11, n12, n13, n14, n15, n16, n17, n18, n19, trivial⟩ ⟨w0, w1, w2, trivial⟩ v0 v1 v2 ck ex ng ni
/-- an error class that is raised as C(e), over all frames -/
structure RzL (K : PySem.W.Frag) (mg : Str → Option Value) (x : Str) (C : Addr) (f : Str) : Prop where
  ex : ∀ (P : Program) (w : World) (base : Heap), Rz P w K mg base x C f
theorem rzl_of {K : PySem.W.Frag} {h : Heap} {mg : Str → Option Value} {x qual v f : Str} {C fI : Addr} {fd : FuncData} {st : Stmt} {B newId initId : String} {bmB : List Value} {p1 p2 p3 p4 : Pos}
    {nm q : Str} {N : Addr} {bs bm : List Value} {sn : List Str} {sub : List Value} {ab : Bool} {col : Option Bool} {dd : Option Addr} {k0 k1 k2 k3 k5 : Option Value} (X : K.In h) (G : h.Ns mainGlobals mg)
    (EB : ExcBaseFacts B newId initId bmB) (SF : PySem.StoreFacts B bmB "object.__setattr__" "object") (n : PySem.W.nsIn K mainGlobals x = some (some (.ref C)))
    (lc : K.lookup C = some (excClassObj nm q C N bs bm true sn sub ab col dd k0 k1 k2 k3 k5 newId)) (tl : PySem.W.excTail bmB bm = true) (ov : PySem.W.excOver K C bmB = true) (sa : PySem.W.findIn K (.ref C) "__setattr__" = some (some (.builtin "object.__setattr__")))
    (exC : PySem.W.subIn K (.ref C) (.type "BaseException") = some true) (tyC : PySem.W.typeIn K (.ref C) = some (.type "type")) (kC : PySem.W.keepIn K (.ref C) = true)
    (hno : PySem.W.findIn K (.ref C) f = some none) (iC : PySem.W.findIn K (.ref C) "__init__" = some (some (.ref fI))) (tI : PySem.W.typeIn K (.ref fI) = some (.type "function"))
    (F : Fun K "__init__" qual st fI fd) (S : FnScope ["self", v] ["self", v] (defScope st)) (hb : defBody st = [.Assign [.Attribute (.Name "self" p1) f p2] (.Name v p3) p4]) (b : Binds K fd ["self", v] [])
    (s1 : Vis (defScope st) "self") (s2 : Vis (defScope st) v) (d1 : (v == ("__debug__" : Str)) = false) (d2 : (v == ("__classdict__" : Str)) = false) : RzL K mg x C f :=
  ⟨fun P w base => rz_of ⟨EB, SF, ⟨nm, q, N, bs, bm, sn, sub, ab, col, dd, k0, k1, k2, k3, k5, lc, tl⟩, ov, sa, exC, tyC, kC⟩ (PySem.W.mg_of X G n) hno iC tI F S hb b s1 s2 d1 d2⟩
end DL

set_option Elab.async false
set_option linter.all false
set_option autoImplicit false
set_option maxRecDepth 100000
set_option maxHeartbeats 4000000
namespace DL
open PySem L2 PySem.Spec PyProof.Rows
/-! a law with a table of code objects, where no repr is under way -/
section
variable {P : Program} {w : World} {K : PySem.W.Frag} {mg mb : Str → Option Value}
/-- the script's heap and the empty table at T -/
theorem tabHeap {h : Heap} {a T : Addr} {vs : List Value} {ns : List Int} (KX : K.In h) (ha : h.get? a = some { cls := .type "list", data := .seq vs.toArray }) (hi : IntsAre vs ns) (hl : ns.length ≤ sizeLine) (hT : h.get? T = some { cls := .none, data := .fields #[] }) :
    ∃ H : Hp, H T = some (.tbl #[]) ∧ SqL K H a (ns.map V.int) ∧ HOk P w H h ∧ (∀ b u, H b = some u → b ≠ T → b = a ∧ K.lookup a = none ∧ ∃ o xs, u = .frz o (.lst xs)) ∧ a ≠ T := by
  obtain ⟨H0, hO, hS, hok, hA⟩ := topHeap (P := P) (w := w) KX ha hi hl
  have aT : a ≠ T := fun z => by
    subst z
    rw [ha] at hT
    cases hT
  have free : H0 T = none := by
    cases q : H0 T with
    | none => rfl
    | some u => exact absurd (hA T u q).1 (Ne.symm aT)
  have form : ∀ b u, H0 b = some u → ∃ o xs, u = .frz o (.lst xs) := fun b u z => by
    rcases hO b with e | ⟨o, xs, e⟩
    · rw [e] at z; cases z
    · rw [e] at z; cases z; exact ⟨o, xs, rfl⟩
  refine ⟨upd H0 T (.tbl #[]), upd_same, (same_new free).seq hS, fun b u z => ?_, fun b u z hb => ?_, aT⟩
  · by_cases hb : b = T
    · subst hb
      rw [upd_same] at z
      cases z
      exact hT
    · rw [upd_ne hb] at z
      obtain ⟨o, xs, rfl⟩ := form b u z
      exact hok b _ z
  · rw [upd_ne hb] at z
    exact ⟨(hA b u z).1, (hA b u z).2, form b u z⟩
theorem law_callTG {k : Nat} {fa a cc T : Addr} {fd : FuncData} {x : Str} {sp : Sp} {s₁ : Shared} {vs : List Value} {ns : List Int}
    (KX : K.In s₁.heap) (hns : s₁.heap.Ns mainGlobals mg) (hb : s₁.heap.Ns builtinsNs mb) (hbb : ∀ x : Str, x ≠ "__name__" → mb x = bootBuiltins x) (hlim : s₁.heap.NoLimit) (hg : s₁.gens = #[])
    (hT : s₁.heap.get? T = some { cls := .none, data := .fields #[] }) (nT : K.lookup T = none) (hd : PySem.W.codeHdIn K cc T = true)
    (hbm : ∃ (bm : Addr) (ob : Obj), mg "__builtins__" = some (.ref bm) ∧ bm ≠ builtinsNs ∧ s₁.heap.get? bm = some ob ∧ ob.cls = .type "module" ∧ ob.dict = some builtinsNs ∧ ob.data = .plain)
    (ha : s₁.heap.get? a = some { cls := .type "list", data := .seq vs.toArray }) (hi : IntsAre vs ns) (hl : ns.length ≤ sizeLine) (hr : Room k callerA)
    (F : ∀ base : Heap, K.In base → base.Ns mainGlobals mg → LamX.TabB base mg cc T → FnG P w K mg base k fa fd [x] sp) (hbind : ∀ (s : Shared) (u : Value), BindsTo s fd ⟨[u], []⟩ [(x, u)])
    (hsp : ∀ H : Hp, H T = some (.tbl #[]) → SqL K H a (ns.map V.int) → sp [.ref a] H (fun v _ => v = .bl true) fun _ _ _ => False) :
    codeAny (model P w) callerA (.call (.ref fa) ⟨[.ref a], []⟩) (fun r s' => r = .ok (.ret (.bool true)) ∧ OldK s₁.heap s'.heap ∧ s'.os = s₁.os ∧ AllBare s'.gens) s₁ := by
  obtain ⟨H, hHT, hS, hok, hA, aT⟩ := tabHeap (P := P) (w := w) KX ha hi hl hT
  -- what is neither the script nor the table stands behind
  have free : ∀ {b : Addr}, b ≠ a → b ≠ T → H b = none := fun {b} n1 n2 => by
    cases q : H b with
    | none => rfl
    | some u => exact absurd (hA b u q n2).1 n1
  have dict : ∀ {b : Addr} {o : Obj} {es : Array DictEntry} {ep : Nat}, s₁.heap.get? b = some o → o.data = .dict es ep → b ≠ a ∧ b ≠ T := by
    intro b o es ep e d
    constructor
    · intro n
      subst n
      rw [ha] at e
      cases e
      cases d
    · intro n
      subst n
      rw [hT] at e
      cases e
      cases d
  have ns' : ∀ {b : Addr} {m : Str → Option Value}, s₁.heap.Ns b m → (hidT s₁.heap H).Ns b m := fun ⟨o, es, ep, e, d, r⟩ => ⟨o, es, ep, hidT_get e (free (dict e d).1 (dict e d).2), d, r⟩
  have kin : K.In (hidT s₁.heap H) := fun b o e => hidT_get (KX b o e) (by
    by_cases hbT : b = T
    · subst hbT
      rw [nT] at e
      cases e
    · cases q : H b with
      | none => rfl
      | some u =>
        obtain ⟨rfl, n, _⟩ := hA b u q hbT
        rw [n] at e
        cases e)
  have md : Mod K mg (hidT s₁.heap H) := ⟨kin, ns' hns, ⟨mb, ns' hb, hbb⟩, hlim.elim fun mc z => ⟨mc, ns' z.1, z.2⟩⟩
  have nofr : ∀ b, b ∉ frs ([] : List Env) := fun b z => by cases z
  have e0 : Env0 P w K mg (hidT s₁.heap H) callerA [] s₁ H := ⟨rfl, md, fun b o e => of_hidT e, Nat.le_of_eq (hidT_size _ _), trivial, fun b z => absurd z (nofr b), hok, .of_eq hg⟩
  have tb : LamX.TabB (hidT s₁.heap H) mg cc T := by
    obtain ⟨bm, ob, m1, m2, m3, m4, m5, m6⟩ := hbm
    have g1 : bm ≠ mainGlobals := fun z => by
      obtain ⟨o, es, ep, e, d, _⟩ := hns
      rw [← z, m3] at e
      cases e
      rw [m6] at d
      cases d
    have g2 : bm ≠ T := fun z => by
      rw [z, hT] at m3
      cases m3
      cases m4
    have g3 : bm ≠ a := fun z => by
      rw [z, ha] at m3
      cases m3
      cases m6
    exact ⟨PySem.W.codeHd_of_K kin hd, ⟨bm, ob, m1, m2, g1, g2, hidT_get m3 (free g3 g2), m4, m5, m6⟩, fun z => by
      obtain ⟨o, es, ep, e, d, _⟩ := hns
      rw [z, hT] at e
      cases e
      cases d⟩
  refine codeAny_mono ((F _ kin (ns' hns) tb).run callerA [] s₁ H ⟨[.ref a], []⟩ [.ref a] [.ref a] _ _ rfl hr e0 (hbind s₁ (.ref a)) (.cons rfl .nil) (hsp H hHT hS)) fun r s' z => ?_
  cases r with
  | error e => exact False.elim z
  | ok fl =>
    cases fl with
    | ret u =>
      obtain ⟨v, H', os, bare, un, hok', rv, q⟩ := z
      obtain rfl : v = .bl true := q
      obtain rfl : u = Value.bool true := rv
      have still : ∀ b o, b ≠ T → s₁.heap.get? b = some o → s'.heap.get? b = some o := fun b o hbT e => by
        cases q : H b with
        | none => exact un.keep b o e q (nofr b) (by simp)
        | some u =>
          obtain ⟨rfl, _, ob, xs, rfl⟩ := hA b u q hbT
          have e1 := (hok b _ q).1
          have e2 := (hok' b _ (un.frzs b ob _ q)).1
          rw [e] at e1
          cases e1
          exact e2
      obtain ⟨more, mz⟩ := un.tbls T #[] hHT
      have tz : s'.heap.get? T = some { cls := .none, data := .fields (#[] ++ more) } := hok' T _ mz
      rw [Array.empty_append] at tz
      refine ⟨rfl, ⟨fun b o e => ?_, fun b o e => ?_⟩, os, bare⟩
      · by_cases hbT : b = T
        · subst hbT
          obtain rfl := Option.some.inj (hT.symm.trans e)
          exact .inr (.inl ⟨((PySem.W.codeHd_of_K KX hd).tab hT).isCodeTable, rfl, #[], more, rfl, by rw [Array.empty_append]; exact tz⟩)
        · exact .inl (still b o hbT e)
      · by_cases hbT : b = T
        · subst hbT
          exact ⟨_, tz⟩
        · exact ⟨o, still b o hbT e⟩
    | next => exact False.elim z
    | brk => exact False.elim z
    | cont => exact False.elim z
theorem walk_ofTG {l : PySem.W.OpenLaw} {n k : Nat} {q : Program} {loose : List Str} {XP : (Str → Option Value) → Heap → Prop} {YP : World → Heap → Prop} {d : DefRec} {K : Params → PySem.W.Frag} {x : Str}
    (hn : l.most = some n) (hn2 : n ≤ sizeLine) (hdf : d.params.defaults = []) (hr : Room k callerA) (hY : ∀ (w : World) (h : Heap), YP w h → (K w.params).In h)
    (F : ∀ (w : World) (mg : Str → Option Value) (fa : Addr) (h : Heap), YP w h → (K w.params).In h → h.Ns mainGlobals mg → mg d.name = some (.ref fa) →
      ∃ (fd : FuncData) (cc T : Addr) (sp : Sp), h.get? T = some { cls := .none, data := .fields #[] } ∧ (K w.params).lookup T = none ∧ PySem.W.codeHdIn (K w.params) cc T = true ∧ (∀ (s : Shared) (u : Value), BindsTo s fd ⟨[u], []⟩ [(x, u)]) ∧
        (∀ (H : Hp) (a : Addr) (ns : List Int), ns.length ≤ n → H T = some (.tbl #[]) → SqL (K w.params) H a (ns.map V.int) → sp [.ref a] H (fun v _ => v = .bl true) fun _ _ _ => False) ∧
        ∀ base : Heap, (K w.params).In base → base.Ns mainGlobals mg → LamX.TabB base mg cc T → FnG l.prog w (K w.params) mg base k fa fd [x] sp) :
    PySem.W.WalkO q loose XP YP l.row.toRowW d [] (fun f vs => PySem.call f vs) := by
  refine Att.attach_call hn hdf fun w s₀ s₁ mg mb fa o pm cd doc a vs ns G Y ho hd hcd hmg hobj hints hlen hg => ?_
  have KX := hY w _ Y
  obtain ⟨fd, cc, T, sp, h1, h2, h3, h4, h5, h6⟩ := F w mg fa _ Y KX G.T.g hmg
  exact law_callTG KX G.T.g G.T.b G.T.builtins G.T.nolimit hg h1 h2 h3 G.T.bmain hobj hints (Nat.le_trans hlen hn2) hr h6 h4 fun H hH hS => h5 H a ns hlen hH hS
/-- a def whose code object is known, where no repr is under way -/
theorem FunC.okG {base : Heap} {x qual : Str} {st : Stmt} {f cc : Addr} {fd : FuncData} {N ps : List Str} {k : Nat} {R : RD} (F : FunC K x qual st f fd cc) (S : FnScope N ps (defScope st)) (len : ∀ ds M Q, R ds M Q → ds.length = ps.length)
    (hbody : ∀ (A : Around) (outer : List Env) (s : Shared) (H : Hp) (E : XK), A.guards = some [] → Room k (A.deeper (PyProof.Rows.envOfC qual (defScope st) s.heap.objs.size f (.ref cc))) → ∀ (ds : List D) (M : MM) (Q : D → MM → Prop), R ds M Q →
      WS (cxOf CX0 P w K mg base N qual (defScope st) f (.ref cc) A outer s H E).nox (defBody st) (startD N ds) M { nx := fun _ M' => Q .non M', rt := Q }) : FnG P w K mg base (k + 1) f fd ps (SpD K R) := by
  obtain ⟨oc, od, kV, doc, pm, an, ct, osl, rfl, lk, hcd⟩ := F.ex
  have ln : ∀ vs H Q E, SpD K R vs H Q E → vs.length = ps.length := fun vs H Q E ⟨F, ds, M, Qd, c, d, r, _⟩ => d.length.trans (len ds M Qd r)
  refine ⟨ln, fun A outer s H args us vs Q E hg hr e0 hb r hsp => ?_⟩
  have kept : ∀ b o, base.get? b = some o → s.heap.get? b = some o := fun b o e => (e0.bs b o e).1
  have KX : K.In s.heap := e0.mod.kin.keeps kept
  refine codeAny_call_function hr.depth (KX _ _ lk) rfl S.co S.gen rfl (PySem.W.codeRec_of KX hcd) (hb _ _ _ _ ?_)
  refine wpAny_newFunctionEnv_cells S.kind (fun ⟨n, v⟩ hy => (S.par n (List.of_mem_zip hy).1).imp id fun q => ⟨q, PySem.W.cellsFrom_some _ _ _ (.inl q)⟩) fun env he s1 x => ?_
  subst he
  refine ⟨(e0.mod.nolimit.keeps kept).keeps x.toInCall.keep, codeAny_func ?_⟩
  have I : Inv (cxOf CX0 P w K mg base N qual (defScope st) f (.ref cc) A outer s H E) [] (L2.start N vs) H s1 := inv_start S hr.hd e0 (ln _ _ _ _ hsp) r x
  obtain ⟨F0, ds, M, Qd, c, d, hR, hq⟩ := hsp
  obtain ⟨t, ht, hT⟩ := (hbody A outer s H E hg (hr.deeper _) ds M Qd hR).run F0 (L2.start N vs) H (start_ok d) c { nx := fun _ H' => Q .non H', rt := Q }
    ⟨fun F' σ' H' Γ' M' e _ c' q => hq F' H' M' .non .non e c' .non q, fun F' H' M' v d e c' dv q => hq F' H' M' v d e c' dv q, fun _ _ _ _ _ _ _ _ h => h.elim, fun _ _ _ _ _ _ _ _ h => h.elim⟩
  refine wpAny_mono (ht.nox.run [] s1 (L2.start N vs) H { nx := fun _ H' => Q .non H', rt := Q } I hT) (fun fl s' hs => ?_) fun e s' hs => hs
  cases fl with
  | ret u =>
    obtain ⟨v, σ', H', J, rv, q⟩ := hs
    exact ⟨v, H', J.os, J.bare, J.base, J.hok, rv, q⟩
  | next =>
    obtain ⟨σ', H', J, q⟩ := hs
    exact ⟨V.non, H', J.os, J.bare, J.base, J.hok, rfl, q⟩
  | brk =>
    obtain ⟨σ', H', J, q⟩ := hs
    exact q.elim
  | cont =>
    obtain ⟨σ', H', J, q⟩ := hs
    exact q.elim
theorem DefAtC.calG {base : Heap} {x : Str} {st : Stmt} {N ps : List Str} {k : Nat} {R : RD} {cc : Addr} (d : DefAtC K mg x st ps cc) (S : FnScope N ps (defScope st)) (len : ∀ ds M Q, R ds M Q → ds.length = ps.length)
    (hbody : ∀ (f : Addr) (A : Around) (outer : List Env) (s : Shared) (H : Hp) (E : XK), A.guards = some [] → Room k (A.deeper (PyProof.Rows.envOfC x (defScope st) s.heap.objs.size f (.ref cc))) → ∀ (ds : List D) (M : MM) (Q : D → MM → Prop), R ds M Q →
      WS (cxOf CX0 P w K mg base N x (defScope st) f (.ref cc) A outer s H E).nox (defBody st) (startD N ds) M { nx := fun _ M' => Q .non M', rt := Q }) : CalG P w K mg base (k + 1) x R := by
  obtain ⟨f, fd, F, hm, b⟩ := d.ex
  exact ⟨f, fd, ps, F.okG S len (hbody f), hm, F.kp, b⟩
end
end DL

set_option Elab.async false
set_option linter.all false
set_option autoImplicit false
set_option maxRecDepth 100000
set_option maxHeartbeats 4000000
namespace DL
open PySem L2 PySem.Spec PyProof.Rows
/-! raise C(), C an own class without anything of its own -/
structure RnL (K : PySem.W.Frag) (mg : Str → Option Value) (x : Str) (C : Addr) : Prop where
  ex : ∃ (B newId initId : String) (bmB : List Value), ExcBaseFacts B newId initId bmB ∧ PySem.W.excIn K C bmB newId = true ∧ mg x = some (.ref C) ∧ PySem.W.keepIn K (.ref C) = true ∧ PySem.W.subIn K (.ref C) (.type "BaseException") = some true ∧ PySem.W.typeIn K (.ref C) = some (.type "type")
section
variable {X : Cx} {Γ : G} {M : MM} {pos p q : Pos} {x : Str} {C : Addr} {F0 : Hp} {d0 : D} {Ed : ED}
theorem pmk_0 (R : RnL X.K X.mg x C) (hg : Gl X x := by rfl) (hdb : (x == ("__debug__" : Str)) = false := by decide) : PMk X (.Call (.Name x p) [] [] pos) (fun _ H Q => Q (.ref C) none H) := by
  obtain ⟨B, newId, initId, bmB, EB, ei, hm, kC, h1, h2⟩ := R.ex
  intro pins s σ H Q I h
  refine wpAny_Call_Name_kw (ld_glob I hg hm ?_ hdb)
  refine PySem.W.callWith_K0 I.kIn kC ?_
  obtain ⟨bm, N, nm, qn, bs, hdct, sn, sub, ab, col, dd, k0, k1, k2, k3, k5, mN, hC, hN, hni, T⟩ := L2.exc_obj I.kIn ei
  refine wpAny_call_exc_subT EB T hC hN hni (fun h' e made => ?_) (Nat.zero_le _)
  exact mk_of I made (raises_own h1 h2) h (I.hok.gone made.new)
theorem ws_raise0 {rest : List Stmt} {Φ : Fi} (R : RnL X.K X.mg x C) (tk : TakesD X F0 Ed) (i : Nat) (hΓ : Γ[i]? = some (some (.pin F0 d0))) (h : Ed (.ref C) [] [] M) (hcm : X.calm = true := by rfl) (hg : Gl X x := by rfl) (hdb : (x == ("__debug__" : Str)) = false := by decide) :
    WS X (.Raise (some (.Call (.Name x q) [] [] p)) none pos :: rest) Γ M Φ :=
  ws_raise hcm tk i hΓ (pmk_0 R hg hdb) fun F σ H ho hc W hW => hW F H M (.ref C) none [] [] (Same.refl F) hc (.inl ⟨rfl, rfl⟩) .nil h
end
end DL

set_option Elab.async false
set_option linter.all false
set_option autoImplicit false
set_option maxRecDepth 100000
set_option maxHeartbeats 4000000
namespace DL
open PySem L2 PySem.Spec PyProof.Rows
/-! ### data that repr shows in a line -/
def Small (i : Int) : Prop := i.natAbs < 2 ^ 60
structure Shw (d : D) (q : PyData) (w n : Nat) : Prop where
  pq : py d = some q
  sh : PyData.showable q = true
  nd : PyData.hasDict q = false
  ls : PyData.leavesShort 100 q = true
  wt : PyData.weight q ≤ w
  dp : PyData.depth q ≤ n
structure Shws (ds : List D) (qs : List PyData) (w n : Nat) : Prop where
  pq : pys ds = some qs
  sh : PyData.showableAll qs = true
  nd : PyData.hasDictAll qs = false
  ls : PyData.leavesShortAll 100 qs = true
  wt : PyData.weightAll qs ≤ w
  dp : PyData.depthAll qs ≤ n
theorem log60 {n : Nat} (h : n < 2 ^ 60) : n.log2 < 60 := by
  by_cases h0 : n = 0
  · subst h0; decide
  · exact (Nat.log2_lt h0).mpr h
theorem small_len {i : Int} (h : Small i) : (Str.ofString (toString i)).length ≤ 62 := by
  have := int_text_length_le (k := 60) (by decide) (log60 h)
  rw [PySem.ofString_length]
  omega
theorem Shw.int {i : Int} (h : Small i) : Shw (.int i) (.int i) 60 0 := by
  have hl := log60 h
  refine ⟨rfl, ?_, rfl, ?_, ?_, Nat.le_refl _⟩
  · show decide (i.natAbs.log2 < 1920) = true
    exact decide_eq_true (by omega)
  · show decide ((Str.ofString (toString i)).length ≤ 100) = true
    have := small_len h
    exact decide_eq_true (by omega)
  · show (if (i == 0) = true then 0 else i.natAbs.log2 + 1) ≤ 60
    split <;> omega
theorem Shw.non : Shw .non .none 0 0 := ⟨rfl, rfl, rfl, rfl, Nat.le_refl _, Nat.le_refl _⟩
theorem Shw.bl {b : Bool} : Shw (.bl b) (.bool b) 0 0 := ⟨rfl, rfl, rfl, rfl, Nat.le_refl _, Nat.le_refl _⟩
theorem Shws.nil {n : Nat} : Shws [] [] 0 n := ⟨rfl, rfl, rfl, rfl, Nat.le_refl _, Nat.zero_le _⟩
theorem Shws.cons {d : D} {ds : List D} {q : PyData} {qs : List PyData} {w w2 n n2 : Nat} (h : Shw d q w n2) (h2 : Shws ds qs w2 n) (hn : n2 ≤ n) : Shws (d :: ds) (q :: qs) (w + 1 + w2) n := by
  refine ⟨?_, ?_, ?_, ?_, ?_, ?_⟩
  · show (py d).bind (fun x => (pys ds).map fun xs => x :: xs) = _
    rw [h.pq, h2.pq]; rfl
  · show (PyData.showable q && PyData.showableAll qs) = true
    rw [h.sh, h2.sh]; rfl
  · show (PyData.hasDict q || PyData.hasDictAll qs) = false
    rw [h.nd, h2.nd]; rfl
  · show (PyData.leavesShort 100 q && PyData.leavesShortAll 100 qs) = true
    rw [h.ls, h2.ls]; rfl
  · show PyData.weight q + 1 + PyData.weightAll qs ≤ _
    have := h.wt
    have := h2.wt
    omega
  · show max (PyData.depth q) (PyData.depthAll qs) ≤ n
    have := h.dp
    have := h2.dp
    omega
theorem Shws.ints {n : Nat} : ∀ ns : List Int, (∀ z, z ∈ ns → Small z) → Shws (ns.map .int) (ns.map .int) (61 * ns.length) n
  | [], _ => ⟨rfl, rfl, rfl, rfl, Nat.le_refl _, Nat.zero_le _⟩
  | z :: ns, h => by
    have a := Shws.cons (n := n) (Shw.int (h z List.mem_cons_self)) (Shws.ints ns fun y hy => h y (List.mem_cons_of_mem _ hy)) (Nat.zero_le _)
    refine ⟨a.pq, a.sh, a.nd, a.ls, Nat.le_trans a.wt ?_, a.dp⟩
    show 60 + 1 + 61 * ns.length ≤ 61 * (ns.length + 1)
    omega
theorem Shw.lst {ds : List D} {qs : List PyData} {w n : Nat} (h : Shws ds qs w n) : Shw (.lst ds) (.list qs) w (n + 1) := ⟨by show (pys ds).map PyData.list = _; rw [h.pq]; rfl, h.sh, h.nd, h.ls, h.wt, Nat.succ_le_succ h.dp⟩
theorem Shw.tup {ds : List D} {qs : List PyData} {w n : Nat} (h : Shws ds qs w n) : Shw (.tup ds) (.tuple qs) w (n + 1) := ⟨by show (pys ds).map PyData.tuple = _; rw [h.pq]; rfl, h.sh, h.nd, h.ls, h.wt, Nat.succ_le_succ h.dp⟩
section
variable {X : Cx} {Γ : G} {M : MM} {pos p : Pos} {j : Nat}
/-- repr(e), e a list or a tuple that is shown -/
theorem we_reprS {e : Expr} {Q : D → MM → Prop} (hgu : X.A.guards = some []) (hr : Room j X.A) (hm : X.mg "repr" = none)
    (h : WE X e Γ M fun x M1 => ∃ ds q w n, (x = .lst ds ∨ x = .tup ds) ∧ Shw x q w n ∧ w ≤ 100000 ∧ n ≤ 100 ∧ Q (.str q.shown) M1)
    (hst : starEach [e] X.env = [(false, eval e X.env)] := by rfl) (hg : Gl X "repr" := by rfl) : WE X (.Call (.Name "repr" p) [e] [] pos) Γ M Q :=
  we_reprG hgu hr hm (h.imp fun x M1 ⟨ds, q, w, n, hx, S, hw, hn, q2⟩ => ⟨ds, q, hx, S.pq, S.sh, S.nd, by
    have z := PyData.shown_le 100 (by decide) _ S.ls
    have := S.wt
    rw [sizeLine_eq]
    omega, Nat.le_trans S.dp hn, q2⟩) hst hg
/-- a slice of a list that may change: a new one -/
theorem we_sliceM {a : Expr} {lo hi : Option Expr} {p2 : Pos} {Q : D → MM → Prop} (h : WE X a Γ M fun x M1 => WO X lo Γ M1 fun l M2 => WO X hi Γ M2 fun u M3 => ∃ r ds, x = .raw r ∧ M3 r = some (.lst ds) ∧ ∀ q, M3 q = none → Q (.raw q) (mupd M3 q (.lst (cutD ds l u)))) :
    WE X (.Subscript a (.Slice lo hi none p2) pos) Γ M Q := ⟨fun F σ H he hc R hR => by
  refine ⟨_, pe_slice (sl_list.or (sl_tupA.or C8.sl_txt)) pe_wp po_wp po_wp, ?_⟩
  refine h.run F σ H he hc _ fun F1 H1 M1 v x e1 c1 d1 h1 => ?_
  refine h1.run F1 σ H1 (he.mono e1) c1 _ fun F2 H2 M2 l e2 c2 h2 => ?_
  refine h2.run F2 σ H2 (he.mono (e1.trans e2)) c2 _ fun F3 H3 M3 u e3 c3 ⟨r, ds, hx, hM, h3⟩ => ?_
  subst hx
  cases d1
  obtain ⟨xs, k1, k2⟩ := c3.lst hM
  refine .inl ⟨r, xs, rfl, SqL.of k1, fun q hq => ?_⟩
  exact hR F3 _ _ _ _ ((e1.trans e2).trans e3) (c3.newM hq (k2.cut l u)) (.raw q) (h3 q (c3.fresh hq))⟩
end
end DL

set_option Elab.async false
set_option linter.all false
set_option autoImplicit false
set_option maxRecDepth 100000
set_option maxHeartbeats 4000000
namespace DL
open PySem L2 PySem.Spec PyProof.Rows
/-! [.. for x, y in ..], no tests -/
section
variable {X : Cx} {Γ : DL.G} {M : MM} {pos : Pos}
/-- what such a comprehension asks of its turns -/
abbrev LcP (X : Cx) (elt : Expr) (i j : Nat) (scope : Scope) (Γ : DL.G) (Q : D → MM → Prop) : Nat → (Nat → D) → (MM → Prop) → MM → Prop := fun n it keep M1 => ∀ D, M1 D = none → ∃ I : Nat → List DL.D → MM → Prop, I 0 [] M1 ∧ (∀ m acc M', m ≤ n → M' D = none → I m acc M' → keep (mupd M' D (.lst acc))) ∧
      (∀ m acc M', m < n → M' D = none → I m acc M' → ∃ d1 d2, it m = .tup [d1, d2] ∧ ∀ (s : Shared) (H : Hp) (C : Addr) (cl : List (Str × Addr)) (fp : List Addr), WE (X.blk s H scope (compEnvC scope cl C X.env) fp) elt ((Γ.set i (some d1)).set j (some d2)) (mupd M' D (.lst acc)) fun y M3 =>
        acc.length < sizeLine ∧ ∃ M4, M3 = mupd M4 D (.lst acc) ∧ M4 D = none ∧ I (m + 1) (acc ++ [y]) M4) ∧
      (∀ acc M', M' D = none → I n acc M' → Q (.lst acc) M')
theorem wipe2 (σ : L2.St) (i j : Nat) : L2.wipe σ [i, j] = (σ.set j none).set i none := rfl
theorem set2 {σ : L2.St} {i j : Nat} (h : i ≠ j) (a b : Option V) : (((σ.set j none).set i none).set i a).set j b = (σ.set i a).set j b := by
  rw [List.set_set]
  rw [List.set_comm none a (Ne.symm h), List.set_set]
theorem we_lcP (i j : Nat) {elt iter : Expr} {x y : Str} {scope : Scope} {Q : D → MM → Prop} {px py pt : Pos} {kk : Nat} (hN : X.N.Nodup) (hij : i ≠ j) (hx : ∀ (s : Shared) (H : Hp) (C : Addr) (cl : List (Str × Addr)) (fp : List Addr), PG (X.blk s H scope (compEnvC scope cl C X.env) fp) (.Name x px) (gName i))
    (hy : ∀ (s : Shared) (H : Hp) (C : Addr) (cl : List (Str × Addr)) (fp : List Addr), PG (X.blk s H scope (compEnvC scope cl C X.env) fp) (.Name y py) (gName j)) (h : WI X (.Tuple [.Name x px, .Name y py] kk pt) iter Γ M (LcP X elt i j scope Γ Q))
    (ok : BlkOk X.N X.env.scope scope [(x, i), (y, j)] := by exact blkOk_by (by kernel_rfl)) (hcm : X.calm = true := by rfl) (hs : ∀ x, foldedSetIterable iter X.env x = pure x := by intro _; rfl) :
    WE X (.ListComp elt [⟨.Tuple [.Name x px, .Name y py] kk pt, iter, [], 0⟩] scope pos) Γ M Q := ⟨fun F σ H he hc R hR => by
  refine ⟨_, pe_lc (g := gTup X.K 2 (gCons (gName i) (gCons (gName j) gNil))) hcm hN pi_wp ok (fun s H0 C cl fp => pg_tup hcm (pgs_cons (hx s H0 C cl fp) (pgs_cons (hy s H0 C cl fp) pgs_nil))) (fun s H0 C cl fp => pts_nil) (pe_lcE (X := X) (elt := elt) (scope := scope)) hs, ?_⟩
  refine h.run F σ H he hc _ fun F1 H1 M1 J n it keep e1 c1 w hI => ?_
  intro D hD
  have mD : M1 D = none := c1.fresh hD
  obtain ⟨I, h0, hk, hst, hdn⟩ := hI D mD
  refine ⟨fun q m H' => m = n - q ∧ q ≤ n ∧ ∃ F' M' acc, Same F1 F' ∧ Con X.K F' (mupd M' D (.lst acc)) H' ∧ M' D = none ∧ I q acc M', ⟨n, by simp, Nat.zero_le _, F1, M1, [], Same.refl _, c1.newM hD .nil, mD, h0⟩, ?_⟩
  rintro q m H' ⟨rfl, hq, F', M', acc, e', c', hm, hJ⟩
  obtain ⟨w1, w2⟩ := w F' _ H' e' c' (hk q acc M' hq hm hJ) q
  by_cases hlt : q < n
  · obtain ⟨go, yl⟩ := w1 hlt
    refine .inr ⟨go, fun H2 => ∃ F2 M2 acc2, Same F1 F2 ∧ Con X.K F2 (mupd M2 D (.lst acc2)) H2 ∧ M2 D = none ∧ I (q + 1) acc2 M2, fun H2 z => ⟨n - (q + 1), by omega, rfl, hlt, z⟩, fun v H2 hy2 => ?_⟩
    obtain ⟨F3, s3, c3, d3⟩ := yl v H2 hy2
    obtain ⟨d1, d2, hit, hbody⟩ := hst q acc M' hlt hm hJ
    rw [hit] at d3
    cases d3 with
    | @tup a xs _ k1 k2 =>
      obtain ⟨v1, v2, rfl, r1, r2⟩ := k2.two
      refine ⟨a, [v1, v2], rfl, sqT_mono c3.sub k1, rfl, v1, [v2], rfl, v2, [], rfl, rfl, ?_, ?_⟩
      · show L2.wipe (((L2.wipe σ [i, j]).set i (some v1)).set j (some v2)) [i, j] = L2.wipe σ [i, j]
        rw [wipe2, wipe2, set2 hij, List.set_set, List.set_comm _ _ hij, List.set_set, List.set_comm _ _ (Ne.symm hij)]
      · dsimp only [tYes]
        rw [if_pos rfl]
        intro s H0 C cl fp
        have heB : EnvOk X.K F3 ((Γ.set i (some d1)).set j (some d2)) (((L2.wipe σ [i, j]).set i (some v1)).set j (some v2)) := by
          rw [wipe2, set2 hij]
          exact ((he.mono ((e1.trans e').trans s3)).set r1).set r2
        refine (hbody s H0 C cl fp).run F3 _ H2 heB c3 _ fun F5 H5 M5 u y e5 c5 d5 ⟨z, M6, z1, z2, z3⟩ => ?_
        subst z1
        obtain ⟨vs, y1, y2⟩ := c5.lst mupd_same
        refine ⟨vs, y1, by rw [y2.length]; exact z, F5, M6, acc ++ [y], (e'.trans s3).trans e5, ?_, z2, z3⟩
        have c6 := c5.setL mupd_same (y2.append (.cons d5 .nil))
        rwa [mupd_mupd] at c6
  · have hn : q = n := by omega
    subst hn
    refine .inl ⟨w2 rfl, ?_⟩
    obtain ⟨F2, s2, c2, d2⟩ := c'.freeze mupd_same
    have em : (fun a => if a = D then none else mupd M' D (.lst acc) a) = M' := mdel_mupd hm
    rw [em] at c2
    exact hR F2 H' M' _ _ ((e1.trans e').trans s2) c2 d2 (hdn acc M' hm hJ)⟩
end
end DL

set_option Elab.async false
set_option linter.all false
set_option autoImplicit false
set_option maxRecDepth 100000
set_option maxHeartbeats 4000000
namespace DL
open PySem L2 PySem.Spec PyProof.Rows
/-! weaker promises -/
section
variable {P : Program} {w : World} {K : PySem.W.Frag} {mg : Str → Option Value} {base : Heap}
theorem Cal.imp {k : Nat} {x : Str} {R R' : RD} (c : Cal P w K mg base k x R) (h : ∀ ds M Q, R' ds M Q → R ds M Q) : Cal P w K mg base k x R' := by
  obtain ⟨f, fd, ps, F, a⟩ := c.ex
  exact ⟨f, fd, ps, ⟨fun vs H Q E q => F.len vs H Q E (SpD.imp h vs H Q E q), fun A outer s H args us vs Q E h1 h2 h3 h4 q => F.run A outer s H args us vs Q E h1 h2 h3 h4 (SpD.imp h vs H Q E q)⟩, a⟩
theorem CalG.imp {k : Nat} {x : Str} {R R' : RD} (c : CalG P w K mg base k x R) (h : ∀ ds M Q, R' ds M Q → R ds M Q) : CalG P w K mg base k x R' := by
  obtain ⟨f, fd, ps, F, a⟩ := c.ex
  exact ⟨f, fd, ps, ⟨fun vs H Q E q => F.len vs H Q E (SpD.imp h vs H Q E q), fun A outer s H args us vs Q E hg h1 h2 h3 h4 q => F.run A outer s H args us vs Q E hg h1 h2 h3 h4 (SpD.imp h vs H Q E q)⟩, a⟩
end
end DL

set_option Elab.async false
set_option linter.all false
set_option autoImplicit false
set_option maxRecDepth 100000
set_option maxHeartbeats 4000000
namespace DL
open PySem L2 PySem.Spec PyProof.Rows LamX
/-! ### data with dicts of scalars: what repr shows of them -/
def scP : D → Option PyData
  | .non => some .none
  | .bl b => some (.bool b)
  | .int i => some (.int i)
  | .str s => some (.str s)
  | _ => none
def scPs : List D → Option (List PyData)
  | [] => some []
  | d :: ds => (scP d).bind fun x => (scPs ds).map fun xs => x :: xs
def keyP : Key → PyData
  | .inl i => .int i
  | .inr x => .str x
def pyX : D → Option PyData
  | .dct ks ds => (scPs ds).map fun qs => .dict ((ks.map keyP).zip qs)
  | d => py d
mutual
theorem py_nodict : ∀ {d : D} {q : PyData}, py d = some q → q.hasDict = false
  | .non, _, h => by simp only [py] at h; cases h; rfl
  | .bl b, _, h => by simp only [py] at h; cases h; rfl
  | .int i, _, h => by simp only [py] at h; cases h; rfl
  | .str s, _, h => by simp only [py] at h; cases h; rfl
  | .lst ds, _, h => by
    simp only [py] at h
    obtain ⟨qs, e, rfl⟩ := Option.map_eq_some_iff.mp h
    show PyData.hasDictAll qs = false
    exact pys_nodict e
  | .frz ds, _, h => by
    simp only [py] at h
    obtain ⟨qs, e, rfl⟩ := Option.map_eq_some_iff.mp h
    show PyData.hasDictAll qs = false
    exact pys_nodict e
  | .tup ds, _, h => by
    simp only [py] at h
    obtain ⟨qs, e, rfl⟩ := Option.map_eq_some_iff.mp h
    show PyData.hasDictAll qs = false
    exact pys_nodict e
  | .raw _, _, h => by simp only [py] at h; cases h
  | .ins _ _ _, _, h => by simp only [py] at h; cases h
  | .pin _ _, _, h => by simp only [py] at h; cases h
  | .exc _ _ _, _, h => by simp only [py] at h; cases h
  | .dct _ _, _, h => by simp only [py] at h; cases h
  | .xcp _ _ _ _, _, h => by simp only [py] at h; cases h
theorem pys_nodict : ∀ {ds : List D} {qs : List PyData}, pys ds = some qs → PyData.hasDictAll qs = false
  | [], _, h => by simp only [pys] at h; cases h; rfl
  | d :: ds, _, h => by
    simp only [pys] at h
    obtain ⟨x, e1, h3⟩ := Option.bind_eq_some_iff.mp h
    obtain ⟨xs, e2, rfl⟩ := Option.map_eq_some_iff.mp h3
    show (PyData.hasDict x || PyData.hasDictAll xs) = false
    rw [py_nodict e1, pys_nodict e2]
    rfl
end
theorem sc_reads {K : PySem.W.Frag} {F : Hp} {v : V} {d : D} {u : Value} {q : PyData} {h : Heap} (dv : Dn K F v d) (r : RelV v u) (e : scP d = some q) : Reads h u q [] := by
  cases dv with
  | non => cases e; cases r; exact .none
  | bl b => cases e; cases r; exact .bool b
  | int i => cases e; obtain ⟨t, rfl⟩ := r; exact .int i t
  | str s => cases e; obtain ⟨t, rfl⟩ := r; exact .str s t
  | _ => cases e
theorem scPs_len : ∀ {ds : List D} {qs : List PyData}, scPs ds = some qs → qs.length = ds.length
  | [], _, h => by simp only [scPs] at h; cases h; rfl
  | d :: ds, _, h => by
    simp only [scPs] at h
    obtain ⟨x, e1, h3⟩ := Option.bind_eq_some_iff.mp h
    obtain ⟨xs, e2, rfl⟩ := Option.map_eq_some_iff.mp h3
    rw [List.length_cons, List.length_cons, scPs_len e2]
theorem pairs_read {P : Program} {w : World} {K : PySem.W.Frag} {F : Hp} {h : Heap} : ∀ {es : List DictEntry} {vs : List (Key × Value)}, Pairs (mixKind P w) es vs → ∀ {kvs : List (Key × V)} {ds : List D} {qs : List PyData}, KV kvs vs → Dns K F (kvs.map (·.2)) ds → scPs ds = some qs →
    ReadsAll h (es.map (·.key)) ((kvs.map (·.1)).map keyP) [] ∧ ReadsAll h (es.map (·.val)) qs []
  | _, _, .nil, kvs, ds, qs, kv, dn, e => by
    cases kv
    cases dn
    cases e
    exact ⟨.nil, .nil⟩
  | _, _, .cons (e := en) (kv := p) k1 k2 rest, kvs, ds, qs, kv, dn, e => by
    cases kv with
    | @cons a _ as _ h1 h2 =>
      rw [List.map_cons] at dn
      cases dn with
      | @cons _ _ d ds' d1 d2 =>
        simp only [scPs] at e
        obtain ⟨x, e1, h3⟩ := Option.bind_eq_some_iff.mp e
        obtain ⟨xs, e2, rfl⟩ := Option.map_eq_some_iff.mp h3
        obtain ⟨i1, i2⟩ := pairs_read (h := h) rest h2 d2 e2
        obtain ⟨ha, hb⟩ := h1
        have rk : Reads h en.key (keyP a.1) [] := by
          have k1' : keyIs p.1 en.key = true := k1
          rcases keyIs_shape k1' with ⟨i, t, e3, e4⟩ | ⟨y, t, e3, e4⟩
          · rw [ha, e3, e4]; exact .int i t
          · rw [ha, e3, e4]; exact .str y t
        have rv : Reads h en.val x [] := by
          rw [k2]
          exact sc_reads d1 hb e1
        exact ⟨.cons rk i1, .cons rv i2⟩
section
variable {X : Cx} {Γ : DL.G} {M : MM} {pos p : Pos} {k j : Nat}
theorem read_x {pins : List (Addr × Obj)} {σ : L2.St} {H F : Hp} {s : Shared} {v : V} {u : Value} {d : D} {q : PyData} (I : Inv X pins σ H s) (e : Same F H) (dv : Dn X.K F v d) (r : RelV v u) (h : pyX d = some q) : ∃ as, Reads s.heap u q as ∧ (q.hasDict = true → sysModules ∉ as) := by
  have plain : py d = some q → ∃ as, Reads s.heap u q as ∧ (q.hasDict = true → sysModules ∉ as) := fun hp => by
    obtain ⟨as, rd⟩ := Dp.reads I q v u (dp_of e dv hp) r
    exact ⟨as, rd, fun z => by rw [py_nodict hp] at z; cases z⟩
  cases d with
  | dct ks ds =>
    simp only [pyX] at h
    obtain ⟨qs, e1, rfl⟩ := Option.map_eq_some_iff.mp h
    cases dv with
    | @dct a kvs _ _ k1 k2 k3 =>
      obtain rfl : u = Value.ref a := r
      obtain ⟨_, hd, vs, rel, o, es, ep, ho, hx, hdat, _, hp, _⟩ := dk_of I.hok (e _ _ k1)
      obtain ⟨r1, r2⟩ := pairs_read (h := s.heap) hp rel k3 e1
      rw [k2] at r1
      have hlen : (ks.map keyP).length = qs.length := by
        rw [List.length_map, scPs_len e1, ← k2, List.length_map, ← k3.length, List.length_map]
      have z1 : ((ks.map keyP).zip qs).map (·.1) = ks.map keyP := List.map_fst_zip (by omega)
      have z2 : ((ks.map keyP).zip qs).map (·.2) = qs := List.map_snd_zip (by omega)
      refine ⟨_, .dict ho hx.1 hdat (by rw [z1]; exact r1) (by rw [z2]; exact r2), fun _ hm => ?_⟩
      have := beq_eq_false_iff_ne.mp hd
      simp only [List.append_nil, List.mem_singleton] at hm
      exact this hm.symm
  | _ => exact plain h
theorem call_reprX (hg : X.A.guards = some []) (hu : X.A.units + 200 < cLine) : CallR X (.builtin "repr") (fun xs H Q => ∃ F a d q, xs = [.ref a] ∧ Same F H ∧ Dn X.K F (.ref a) d ∧ pyX d = some q ∧ q.showable = true ∧ q.shown.length ≤ sizeLine ∧ q.depth ≤ 100 ∧ Q (.str q.shown) H) := by
  intro pins s σ H xs us Q I r h
  obtain ⟨F, a, d, q, rfl, e, hd, hx, hs, hz, hp, hq⟩ := h
  obtain ⟨u, rfl, ru⟩ := vals1 r
  obtain rfl : u = Value.ref a := ru
  obtain ⟨as, rd, hno⟩ := read_x I e hd (rfl : RelV (.ref a) (.ref a)) hx
  refine repr_of_reads' rd hs hno hg (by omega) (fun _ _ e => e) (fun h' u tk hk => ?_) hz
  exact ⟨.str q.shown, H, I.kept hk, ⟨u, rfl⟩, hq⟩
/-- repr(e), e any data -/
theorem we_reprD {e : Expr} {Q : D → MM → Prop} (hgu : X.A.guards = some []) (hr : Room j X.A) (hm : X.mg "repr" = none)
    (h : WE X e Γ M fun x M1 => ∃ q, pyX x = some q ∧ q.showable = true ∧ q.shown.length ≤ sizeLine ∧ q.depth ≤ 100 ∧ Q (.str q.shown) M1)
    (hst : starEach [e] X.env = [(false, eval e X.env)] := by rfl) (hg : Gl X "repr" := by rfl) : WE X (.Call (.Name "repr" p) [e] [] pos) Γ M Q := ⟨fun F σ H he hc W hR => by
  refine ⟨_, pe_callB (call_reprA.or (call_reprX hgu (by have := hr.un; omega))) hg hm (by decide +kernel) (pa_cons pe_wp pa_nil hst) (by decide) (by decide) hst, h.run F σ H he hc _ fun F1 H1 M1 v x e1 c1 d1 ⟨q, hx, h1, h2, h3, h5⟩ => ?_⟩
  have fin : ∀ s : Str, q.shown = s → W (.str s) H1 := fun s e => by rw [← e]; exact hR F1 H1 M1 _ _ e1 c1 (.str _) h5
  have adr : ∀ a, v = .ref a → rReprA [v] H1 W ∨ ∃ F a d q, [v] = [V.ref a] ∧ Same F H1 ∧ Dn X.K F (.ref a) d ∧ pyX d = some q ∧ q.showable = true ∧ q.shown.length ≤ sizeLine ∧ q.depth ≤ 100 ∧ W (.str q.shown) H1 := fun a ea => by
    subst ea
    exact .inr ⟨F1, a, x, q, rfl, c1.sub, d1, hx, h1, h2, h3, fin _ rfl⟩
  cases d1 with
  | non => cases hx; exact .inl (.inr (.inr (.inr ⟨rfl, fin _ rfl⟩)))
  | bl b => cases hx; exact .inl (.inr (.inr (.inl ⟨b, rfl, fin _ rfl⟩)))
  | int i => cases hx; exact .inl (.inr (.inl ⟨i, rfl, of_decide_eq_true h1, fin _ rfl⟩))
  | str t => cases hx; exact .inl (.inl ⟨t, rfl, h2, fin _ rfl⟩)
  | pin s n h => cases hx
  | _ => exact adr _ rfl⟩
end
/-! ### type(x) is not C -/
theorem wt_typeNotB {X : Cx} {Γ : DL.G} {M : MM} {pos p1 p2 p3 : Pos} {e : Expr} {x : Str} {C : Addr} {Q : Bool → MM → Prop} (hm : X.mg "type" = none) (gC : X.mg x = some (.ref C)) (hK : ∃ om, X.K.lookup C = some om ∧ om.cls ≠ .type "tuple")
    (h : WE X e Γ M fun d M1 => (∃ a ns ds, d = .raw a ∧ M1 a = some (.ins C ns ds) ∧ Q false M1) ∨ ∃ T, tyD d = some T ∧ Q true M1)
    (hs : starEach [e] X.env = [(false, eval e X.env)] := by rfl) (hg : Gl X "type" := by rfl) (hgC : Gl X x := by rfl) (hdb : (x == ("__debug__" : Str)) = false := by decide) :
    WT X (.Compare (.Call (.Name "type" p1) [e] [] p2) [.IsNot] [.Name x p3] pos) Γ M Q := ⟨fun F σ H he hc R hR => by
  refine ⟨_, pt_cmpR ItX.op_isnotK (pe_callTy call_typeO hg hm (by decide +kernel) (pa_cons pe_wp pa_nil hs) (by decide) (by decide) hs) (pe_glob hgC gC (show RelV (.ref C) (.ref C) from rfl) hdb) (nomark _), ?_⟩
  obtain ⟨om, h1, h2⟩ := hK
  refine h.run F σ H he hc _ fun F1 H1 M1 v d e1 c1 d1 hd => ?_
  rcases hd with ⟨a, ns, ds, hd, hM, q⟩ | ⟨T, hT, q⟩
  · subst hd
    cases d1
    obtain ⟨_, dx, fs, k1, _⟩ := c1.chg a _ hM
    exact .inl ⟨a, C, rfl, NwS.OfCls.ins k1, C, om, rfl, h1, h2, .inl ⟨rfl, false, rfl, hR F1 H1 M1 false e1 c1 q⟩⟩
  · exact .inr ⟨v, T, rfl, tyD_of c1.sub d1 hT, C, om, rfl, h1, h2, .inr ⟨trivial, true, rfl, hR F1 H1 M1 true e1 c1 q⟩⟩⟩
/-! ### dicts as they are written -/
theorem Con.put {K : PySem.W.Frag} {F H : Hp} {M : MM} {p : Addr} {o u : HO} (c : Con K F M H) (hF : F p = none) (hM : M p = none) (hp : H p = some u) (hu : ∀ ps, u ≠ .tbl ps) (hu2 : ∀ x, u ≠ .own x) (hu3 : ∀ xs, u ≠ .lst xs) (hu4 : ∀ C dx fs, u ≠ .ins C dx fs) (hu5 : ∀ b ps, LamX.CodeO b ps ≠ u) (ho : ∀ ps, o ≠ .tbl ps) : Con K (upd F p o) M (upd H p o) := by
  refine ⟨fun b z e => ?_, fun a m e => ?_, fun a ps e => ?_, c.one⟩
  · by_cases hb : b = p
    · subst hb; rw [upd_same] at e ⊢; exact e
    · rw [upd_ne hb] at e ⊢; exact c.sub _ _ e
  · obtain ⟨h1, h2⟩ := c.chg a m e
    have ha : a ≠ p := fun z => by rw [z, hM] at e; cases e
    refine ⟨by rw [upd_ne ha]; exact h1, ?_⟩
    cases m with
    | lst ds => obtain ⟨vs, a1, a2⟩ := h2; exact ⟨vs, by rw [upd_ne ha]; exact a1, a2.mono (same_new hF)⟩
    | tabs T =>
      refine ⟨h2.1, fun q hq => ?_⟩
      obtain ⟨ps, k1, k2, k3⟩ := h2.2 q hq
      refine ⟨ps, by rw [upd_ne (fun z => by rw [z, hp] at k1; cases k1; exact hu _ rfl)]; exact k1, k2, fun pos cv hc => ?_⟩
      obtain ⟨cc, z1, z2⟩ := k3 pos cv hc
      exact ⟨cc, z1, by rw [upd_ne (fun z => by rw [z, hp] at z2; cases z2; exact hu5 _ _ rfl)]; exact z2⟩
    | ins C ns ds =>
      obtain ⟨dx, fs, a1, a2, a3, a4, a5⟩ := h2
      have hd : dx ≠ p := fun z => by rw [z, hp] at a2; cases a2; exact hu2 _ rfl
      exact ⟨dx, fs, by rw [upd_ne ha]; exact a1, by rw [upd_ne hd]; exact a2, by rw [upd_ne hd]; exact a3, a4, a5.mono (same_new hF)⟩
  · by_cases ha : a = p
    · subst ha; rw [upd_same] at e; exact ho ps (Option.some.inj e)
    · rw [upd_ne ha] at e; exact c.ntb a ps e
theorem we_dct0 {X : Cx} {Γ : DL.G} {M : MM} {pos : Pos} {Q : D → MM → Prop} (hq : Q (.dct [] []) M) : WE X (.Dict [] [] pos) Γ M Q := ⟨fun F σ H he hc W hR => by
  refine ⟨_, pe_dnewK, fun p hp => ?_⟩
  have c1 := hc.new (o := .dK []) hp
  exact hR _ _ M _ (.dct [] []) (same_new (hc.sub.free hp)) c1 (.dct upd_same rfl .nil) hq⟩
theorem we_dct1 {X : Cx} {Γ : DL.G} {M : MM} {pos p1 p2 : Pos} {x : Str} {i : Int} {j1 j2} {Q : D → MM → Prop} (hq : Q (.dct [.inr x] [.int i]) M) : WE X (.Dict [some (.Constant (.str x) j1 p1)] [.Constant (.int i) j2 p2] pos) Γ M Q := ⟨fun F σ H he hc W hR => by
  refine ⟨_, pe_disp (pps_cons pe_str pe_int pps_nil) rfl rfl (by simp) (by show 1 ≤ 15; decide), fun p hp => ?_⟩
  have hF : F p = none := hc.sub.free hp
  have hM : M p = none := hc.fresh hp
  have c1 : Con X.K F M (upd H p (.dK [])) := hc.newH hp
  have c2 : Con X.K (upd F p (.dK (mergeK [] [(.inr x, .int i)]))) M (upd (upd H p (.dK [])) p (.dK (mergeK [] [(.inr x, .int i)]))) :=
    c1.put hF hM upd_same (fun _ z => by cases z) (fun _ z => by cases z) (fun _ z => by cases z) (fun _ _ _ z => by cases z) (fun b ps z => by unfold LamX.CodeO at z; cases z) (fun _ z => by cases z)
  exact ⟨upd_same, [(.inr x, .int i)], rfl, (by show 1 ≤ 15; decide), hR _ _ M _ (.dct [.inr x] [.int i]) (same_new hF) c2 (.dct upd_same rfl (.cons (.int i) .nil)) hq⟩⟩
/-! ### x(lambda: body) where no repr is under way -/
structure TolDG (P : Program) (w : World) (K : PySem.W.Frag) (mg : Str → Option Value) (base : Heap) (k : Nat) (x : Str) (RP : (D → MM → Prop) → D → MM → Prop) (EP : (D → MM → Prop) → ED) : Prop where
  ex : ∃ (g : Addr) (oc : Value) (od an : Option Addr) (pg : Arguments) (bg : List Stmt) (sg : Scope) (dV kV doc pm cdv ct : Value) (osl : Array (Option Value)) (Ng : List Str) (a : Str),
    mg x = some (.ref g) ∧ PySem.W.keepIn K (.ref g) = true ∧ K.lookup g = some ⟨oc, od, .func (PySem.W.fnOf x x pg bg sg dV kV doc pm an cdv ct), osl⟩ ∧ PySem.W.codeIn K cdv x = true ∧ L2.Binds K (PySem.W.fnOf x x pg bg sg dV kV doc pm an cdv ct) [a] [] ∧ FnScope Ng [a] sg ∧ Ng[0]? = some a ∧ Vis sg a ∧
    (a == ("__debug__" : Str)) = false ∧ (a == ("__classdict__" : Str)) = false ∧
    ∀ (X : Cx) (q : Str), X.prog = P → X.w = w → X.K = K → X.mg = mg → X.base = base → X.A.guards = some [] → Room (k + 1) X.A → GivesTo X Ng x sg g cdv bg a q (TTD K RP EP)
section
variable {X : Cx} {Γ : DL.G} {M : MM} {pos p lpos : Pos} {k : Nat} {x : Str} {RP : (D → MM → Prop) → D → MM → Prop} {EP : (D → MM → Prop) → ED} {T : List (Addr × Str)} {P0 cc P : Addr}
theorem we_toldG (j : Nat) (dj : D) (hj : Γ[j]? = some (some dj)) (hn : noPin dj = true) {params : Arguments} {body : Expr} {scope : Scope} {Q : D → MM → Prop} (c : TolDG X.prog X.w X.K X.mg X.base k x RP EP) (hgu : X.A.guards = some []) (TB : TabB X.base X.mg cc P) (hcode : X.env.code = .ref cc) (hM : M P0 = some (.tabs T))
    (hmT : (P, X.env.qual ++ "<lambda>") ∈ T) (hu : ∀ p ∈ T, p.1 = P → p.2 = X.env.qual ++ "<lambda>") (hr : Room (k + 2) X.A)
    (hb : ∀ (A : Around) (outer : List Env) (s : Shared) (H : Hp) (E : XK) (f c' : Addr) (F0 : Hp), Room k (A.deeper (lamEnv X scope s.heap.objs.size f c')) → TakesD (lamCx X A outer s H E scope f c') F0 (EP Q) →
      PassesOwn (model X.prog X.w) (lamCx X A outer s H E scope f c').A (lamCx X A outer s H E scope f c').env (lamCx X A outer s H E scope f c').xe →
      WE (lamCx X A outer s H E scope f c') body (Γ.set j (some (.pin F0 dj))) M (RP Q))
    (hg : Gl X x := by rfl) (L : LamS X.env.scope scope := by exact lamS_by (by decide +kernel)) (hdef : defaultsOf params X.env = ([], []) := by rfl)
    (hbind : ∀ (q : Str) (cl : List (Str × Addr)) (pm cv ctv : Value), bindArgs (PySem.W.kla_fn "<lambda>" q params body scope cl pm cv ctv) ⟨[], []⟩ = pure [] := by intros; rfl)
    (hdb : (x == ("__debug__" : Str)) = false := by decide) : WE X (.Call (.Name x p) [.Lambda params body scope lpos] [] pos) Γ M Q := ⟨fun F σ H ho hco W hR => by
  obtain ⟨g, oc, od, an, pg, bg, sg, dV, kV, doc, pm, cdv, ct, osl, Ng, a, h1, h2, h3, h4, h5, h6, h7, h8, h9, h10, hG⟩ := c.ex
  refine ⟨_, pe_lamcall (T := T) (t := fun E σ H Q => ∀ (A : Around) (outer : List Env) (s : Shared) (H0 : Hp) (f c' : Addr), Room k (A.deeper (lamEnv X scope s.heap.objs.size f c')) → wpE (lamCx X A outer s H0 E scope f c') body σ H Q)
    hg h1 h2 h3 h4 h5 h6 h7 h8 (hG X _ rfl rfl rfl rfl rfl hgu (hr.mono (Nat.le_succ _))) TB hcode hmT hu hr L hdef hbind (fun A outer s H0 E f c' hr2 => ⟨fun pins s' σ' H' Q' I h => pe_wp.run pins s' σ' H' Q' I (h A outer s H0 f c' hr2)⟩) hdb h9 h10, ?_⟩
  obtain ⟨_, kT⟩ := hco.chg P0 _ hM
  refine ⟨kT.2, fun H1 eN T1 => ⟨F, M, Q, hco.extN hM eN T1, fun F' H' M' v d e c' dv q => hR F' H' M' v d e c' dv q, ?_⟩⟩
  intro E F1 F2 H2 s1 pE s2 c2 R hRR A outer s H0 f c' hr2
  have ho1 : EnvOk X.K F1 Γ σ := ho.mono s1
  have eo : EnvOk X.K F2 (Γ.set j (some (.pin F1 dj))) σ := by
    obtain ⟨v, hv1, hv2⟩ := ho1.get j dj hj
    have e : σ = σ.set j (some v) := by
      obtain ⟨hlt, hv⟩ := List.getElem?_eq_some_iff.mp hv1
      rw [← hv, List.set_getElem_self]
    rw [e]
    exact (ho1.mono s2).set (.pin s2 hn (hv2.mono s2))
  exact (hb A outer s H0 E f c' F1 hr2 ⟨E, takes_of rfl rfl rfl rfl, pE⟩ (passes_of rfl)).run F2 σ H2 eo c2 R hRR⟩
end
section
variable {P : Program} {w : World} {K : PySem.W.Frag} {mg : Str → Option Value} {base : Heap}
theorem TolDG.of {x a : Str} {st : Stmt} {N : List Str} {k : Nat} {RP : (D → MM → Prop) → D → MM → Prop} {EP : (D → MM → Prop) → ED} (d : DefAt K mg x st [a]) (S : FnScope N [a] (defScope st)) (hN : N[0]? = some a) (hv : Vis (defScope st) a) (hd : (a == ("__debug__" : Str)) = false) (hcd : (a == ("__classdict__" : Str)) = false)
    (hb : ∀ (f g : Addr) (cdv : Value) (A : Around) (outer : List Env) (s : Shared) (H : Hp), A.guards = some [] → Room k (A.deeper (PyProof.Rows.envOfC x (defScope st) s.heap.objs.size g cdv)) → ∀ (Fc : Hp) (M : MM) (Qd : D → MM → Prop),
      (∀ (pn : List (Addr × Obj)) (xe : Value → Shared → Prop) (F1 : Hp) (Γ : DL.G) (p1 p2 : Pos), Same Fc F1 → TakesD ((cxOf CX0 P w K mg base N x (defScope st) g cdv A outer s H C8.E0).nox.tr pn xe) F1 (EP Qd) → Γ[0]? = some (some (.pin F1 (.raw f))) →
        WE ((cxOf CX0 P w K mg base N x (defScope st) g cdv A outer s H C8.E0).nox.tr pn xe) (.Call (.Name a p1) [] [] p2) Γ M (RP Qd)) →
      WS (cxOf CX0 P w K mg base N x (defScope st) g cdv A outer s H C8.E0).nox (defBody st) (startD N [.pin Fc (.raw f)]) M { nx := fun _ M' => Qd .non M', rt := Qd }) : TolDG P w K mg base k x RP EP := by
  obtain ⟨g, fd, F, hm, b⟩ := d.ex
  have kp := F.kp
  obtain ⟨oc, od, kV, doc, pm, an, cdv, ct, osl, rfl, lk, hcdv⟩ := F.ex
  refine ⟨g, _, _, _, _, _, _, _, _, _, _, _, _, _, N, a, hm, kp, lk, hcdv, b, S, hN, hv, hd, hcd, fun X q e1 e2 e3 e4 e5 hgu hr => ?_⟩
  subst e1 e2 e3 e4 e5
  intro f c' s H Q tl act hc ⟨F, M, Qd, cH, hQ, hT⟩
  obtain ⟨Fc, sF, cF, hFc⟩ := cH.keep hc codeO_lst (fun C dx fs => codeO_ins fs) (fun a => codeO_own) codeO_ne
  refine (hb f g cdv X.A X.stack s H hgu (hr.deeper _) Fc M Qd fun pn xe F1 Γ p1 p2 s1 ⟨E, tk, pE⟩ h0 => ⟨fun F2 σ H2 ho hco R hR => ?_⟩).run Fc (L2.start N [.ref f]) H (start_ok (.cons (.pin (Same.refl Fc) rfl (.raw f)) .nil)) cF { nx := fun _ H' => Q .non H', rt := Q }
    ⟨fun F' σ' H' Γ' M' e _ c' q => hQ F' H' M' .non .non (sF.trans e) c' .non q, fun F' H' M' v d e c' dv q => hQ F' H' M' v d (sF.trans e) c' dv q, fun _ _ _ _ _ _ _ _ h => h.elim, fun _ _ _ _ _ _ _ _ h => h.elim⟩
  obtain ⟨v, hσ, hv'⟩ := ho.get 0 _ h0
  cases hv' with
  | pin s2 _ h =>
    cases h
    exact ⟨_, act (fun cls d _ H => E cls d H) pn xe E p1 p2 tk fun _ _ _ _ h => h, hσ, hco.sub _ _ ((s1.trans s2) _ _ hFc), hT E F1 F2 H2 (sF.trans s1) pE s2 hco R hR⟩
end
end DL

set_option Elab.async false
set_option linter.all false
set_option autoImplicit false
set_option maxRecDepth 100000
set_option maxHeartbeats 4000000
namespace DL
open PySem L2 PySem.Spec PyProof.Rows LamX
section
variable {X : Cx} {Γ : DL.G} {M : MM} {pos p : Pos} {rest : List Stmt} {Φ : Fi}
/-- a, b, c = x, y, z, plain local names -/
theorem ws_par3 (i j l : Nat) {x y z : Str} {a b c : Expr} {px py pz pt : Pos} {kt k2 pt2} (nd : X.N.Nodup) (hij : i ≠ j) (hil : i ≠ l) (hjl : j ≠ l) (h : WA X [a, b, c] Γ M fun ds M1 => ∃ u v w, ds = [u, v, w] ∧ WS X rest (((Γ.set i (some u)).set j (some v)).set l (some w)) M1 Φ)
    (hi : X.N[i]? = some x := by rfl) (hj : X.N[j]? = some y := by rfl) (hl : X.N[l]? = some z := by rfl) (hx : X.env.scope.names.lookup x = some .local := by rfl) (hy : X.env.scope.names.lookup y = some .local := by rfl) (hz : X.env.scope.names.lookup z = some .local := by rfl)
    (hw : swappedStores [.Tuple [.Name x px, .Name y py, .Name z pz] kt pt] (.Tuple [a, b, c] k2 pt2) X.env = pure (some [x, y, z]) := by rfl)
    (hs : swapsWithSole [.Tuple [.Name x px, .Name y py, .Name z pz] kt pt] (.Tuple [a, b, c] k2 pt2) pos.line X.env = pure false := by rfl) (hcm : X.calm = true := by rfl) :
    WS X (.Assign [.Tuple [.Name x px, .Name y py, .Name z pz] kt pt] (.Tuple [a, b, c] k2 pt2) pos :: rest) Γ M Φ := ⟨fun F σ H he hc E hE => by
  refine ⟨_, pss_cons (ps_par3 hcm nd hi hj hl hij hil hjl hx hy hz pa_wp hw hs) pss_wp, h.run F σ H he hc _ fun F1 H1 M1 vs ds e1 c1 d1 ⟨u, v, w, hd, q⟩ => ?_⟩
  subst hd
  cases d1 with
  | cons a1 d1 =>
    cases d1 with
    | cons a2 d1 =>
      cases d1 with
      | cons a3 d1 =>
        cases d1
        exact ⟨_, _, _, rfl, q.run F1 _ H1 ((((he.mono e1).set a1).set a2).set a3) c1 E (hE.mono e1)⟩⟩
/-- repr(e), e any data, by the room in units alone -/
theorem we_reprU {e : Expr} {Q : D → MM → Prop} (hgu : X.A.guards = some []) (hu : X.A.units + 200 < cLine) (hm : X.mg "repr" = none)
    (h : WE X e Γ M fun x M1 => ∃ q, pyX x = some q ∧ q.showable = true ∧ q.shown.length ≤ sizeLine ∧ q.depth ≤ 100 ∧ Q (.str q.shown) M1)
    (hst : starEach [e] X.env = [(false, eval e X.env)] := by rfl) (hg : Gl X "repr" := by rfl) : WE X (.Call (.Name "repr" p) [e] [] pos) Γ M Q := ⟨fun F σ H he hc W hR => by
  refine ⟨_, pe_callB (call_reprA.or (call_reprX hgu hu)) hg hm (by decide +kernel) (pa_cons pe_wp pa_nil hst) (by decide) (by decide) hst, h.run F σ H he hc _ fun F1 H1 M1 v x e1 c1 d1 ⟨q, hx, h1, h2, h3, h5⟩ => ?_⟩
  have fin : ∀ s : Str, q.shown = s → W (.str s) H1 := fun s e => by rw [← e]; exact hR F1 H1 M1 _ _ e1 c1 (.str _) h5
  have adr : ∀ a, v = .ref a → rReprA [v] H1 W ∨ ∃ F a d q, [v] = [V.ref a] ∧ Same F H1 ∧ Dn X.K F (.ref a) d ∧ pyX d = some q ∧ q.showable = true ∧ q.shown.length ≤ sizeLine ∧ q.depth ≤ 100 ∧ W (.str q.shown) H1 := fun a ea => by
    subst ea
    exact .inr ⟨F1, a, x, q, rfl, c1.sub, d1, hx, h1, h2, h3, fin _ rfl⟩
  cases d1 with
  | non => cases hx; exact .inl (.inr (.inr (.inr ⟨rfl, fin _ rfl⟩)))
  | bl b => cases hx; exact .inl (.inr (.inr (.inl ⟨b, rfl, fin _ rfl⟩)))
  | int i => cases hx; exact .inl (.inr (.inl ⟨i, rfl, of_decide_eq_true h1, fin _ rfl⟩))
  | str t => cases hx; exact .inl (.inl ⟨t, rfl, h2, fin _ rfl⟩)
  | pin s n h => cases hx
  | _ => exact adr _ rfl⟩
end
/-! ### data that can be shown and compared -/
def shChk (b : Nat) (d : D) : Bool := match tyD d, pyX d with
  | some _, some q => q.showable && decide (q.shown.length ≤ b) && decide (q.depth ≤ 100) && PyData.strOk q.shown
  | _, _ => false
structure ShD (b : Nat) (d : D) (q : PyData) : Prop where
  ty : ∃ t, tyD d = some t
  px : pyX d = some q
  sw : q.showable = true
  ln : q.shown.length ≤ b
  dp : q.depth ≤ 100
  ok : PyData.strOk q.shown = true
theorem shChk_ok {b : Nat} {d : D} (h : shChk b d = true) : ∃ q, ShD b d q := by
  unfold shChk at h
  cases ht : tyD d with
  | none => rw [ht] at h; cases h
  | some t =>
    cases hq : pyX d with
    | none => rw [ht, hq] at h; cases h
    | some q =>
      rw [ht, hq] at h
      simp only [Bool.and_eq_true, decide_eq_true_eq] at h
      exact ⟨q, ⟨t, ht⟩, hq, h.1.1.1, h.1.1.2, h.1.2, h.2⟩
end DL

set_option Elab.async false
set_option linter.all false
set_option autoImplicit false
set_option maxRecDepth 100000
set_option maxHeartbeats 4000000
namespace DL
open PySem L2 PySem.Spec PyProof.Rows
/-! ### eight error classes that single clauses name -/
def cauN : List Str := ["InvalidMove", "NotAScript", "Unknown", "InvalidCloth", "TooFew", "InvalidNumber", "InvalidPlace", "NothingToUndo"]
def cauF (i : Nat) : Str := if i = 2 then "index" else "given"
/-- the class at C is the i-th of them -/
structure CauW (K : PySem.W.Frag) (mg : Str → Option Value) (C : Addr) (i : Nat) : Prop where
  lt : i < 8
  nm : ∀ (j : Nat) (x : Str), cauN[j]? = some x → ∃ a, mg x = some (.ref a) ∧ PySem.W.exmAny K (.ref C) [.ref a] = some (decide (j = i))
  xf : XfC K C
  ng : PySem.W.findIn K (.ref C) "given" = some none
  ni : PySem.W.findIn K (.ref C) "index" = some none
theorem ecOne_ok {K : PySem.W.Frag} {C a : Addr} {b : Bool} (h : ecOne K C a b = true) : PySem.W.exmAny K (.ref C) [.ref a] = some b := by
  unfold ecOne at h
  split at h
  · rename_i d e
    rw [e, beq_iff_eq.mp h]
  · cases h
theorem cau_of {K : PySem.W.Frag} {h : Heap} {mg : Str → Option Value} {C : Addr} {i : Nat} {as : List Addr} (X : K.In h) (G : h.Ns mainGlobals mg) (hi : i < 8) (na : NsAll K cauN as) (ck : cauChk K as C i = true)
    (ng : PySem.W.findIn K (.ref C) "given" = some none) (ni : PySem.W.findIn K (.ref C) "index" = some none) : CauW K mg C i := by
  obtain ⟨c1, c2⟩ := Bool.and_eq_true_iff.mp ck
  refine ⟨hi, fun j x e => ?_, xfB_ok c2, ng, ni⟩
  have hj : j < 8 := (List.getElem?_eq_some_iff.mp e).1
  exact ⟨_, PySem.W.mg_of X G (na.get e), ecOne_ok (List.all_eq_true.mp c1 j (List.mem_range.mpr hj))⟩
theorem cau_mk {K : PySem.W.Frag} {h : Heap} {mg : Str → Option Value} {C : Addr} {i : Nat} {a0 a1 a2 a3 a4 a5 a6 a7 : Addr} (X : K.In h) (G : h.Ns mainGlobals mg) (hi : i < 8) (n0 : PySem.W.nsIn K mainGlobals "InvalidMove" = some (some (.ref a0))) (n1 : PySem.W.nsIn K mainGlobals "NotAScript" = some (some (.ref a1))) (n2 : PySem.W.nsIn K mainGlobals "Unknown" = some (some (.ref a2))) (n3 : PySem.W.nsIn K mainGlobals "InvalidCloth" = some (some (.ref a3))) (n4 : PySem.W.nsIn K mainGlobals "TooFew" = some (some (.ref a4))) (n5 : PySem.W.nsIn K mainGlobals "InvalidNumber" = some (some (.ref a5))) (n6 : PySem.W.nsIn K mainGlobals "InvalidPlace" = some (some (.ref a6))) (n7 : PySem.W.nsIn K mainGlobals "NothingToUndo" = some (some (.ref a7)))
    (ck : cauChk K [a0, a1, a2, a3, a4, a5, a6, a7] C i = true) (ng : PySem.W.findIn K (.ref C) "given" = some none) (ni : PySem.W.findIn K (.ref C) "index" = some none) : CauW K mg C i :=
  cau_of (as := [a0, a1, a2, a3, a4, a5, a6, a7]) X G hi ⟨n0, n1, n2, n3, n4, n5, n6, n7, trivial⟩ ck ng ni
/-! ### sorted of a list of ints -/
structure BltS (mg : Str → Option Value) : Prop where
  sorted : mg "sorted" = none
theorem srt2 {a b : Int} {zs : List Int} (h : zs.Perm [a, b]) (s : zs.Pairwise (· ≤ ·)) : zs = [min a b, max a b] := by
  have hl := h.length_eq
  match zs, hl with
  | [x, y], _ =>
    have hx : x ∈ [a, b] := h.mem_iff.mp (by simp)
    have hy : y ∈ [a, b] := h.mem_iff.mp (by simp)
    have ha : a ∈ [x, y] := h.mem_iff.mpr (by simp)
    have hb : b ∈ [x, y] := h.mem_iff.mpr (by simp)
    have hxy : x ≤ y := by
      rw [List.pairwise_cons] at s
      exact s.1 y (by simp)
    simp only [List.mem_cons, List.not_mem_nil, or_false] at hx hy ha hb
    have e1 : x = min a b := by omega
    have e2 : y = max a b := by omega
    rw [e1, e2]
section
variable {X : Cx} {Γ : DL.G} {M : MM} {pos p : Pos}
theorem we_sorted {e : Expr} {Q : D → MM → Prop} (hm : X.mg "sorted" = none) (h : WE X e Γ M fun d M1 => ∃ ns : List Int, d = .lst (ns.map .int) ∧ ns.length < 64 ∧ ∀ zs : List Int, zs.Perm ns → zs.Pairwise (· ≤ ·) → Q (.lst (zs.map .int)) M1)
    (hs : starEach [e] X.env = [(false, eval e X.env)] := by rfl) (hg : Gl X "sorted" := by rfl) : WE X (.Call (.Name "sorted" p) [e] [] pos) Γ M Q := by
  refine we_cb1 cr_sorted hm (by decide +kernel) (fun d M ⟨ns, hd, hl, q⟩ => ?_) h hs hg (by decide) (by decide)
  subst hd
  intro F H vs c dvs R hR
  obtain ⟨v, rfl, dv⟩ := dvs.one
  cases dv with
  | @lst a xs ds k1 k2 =>
    have ex := Dns.ints k2
    subst ex
    refine ⟨a, ns, rfl, SqL.of (c.sub _ _ k1), hl, fun zs p hp h1 hq => ?_⟩
    have s := same_new (o := .lst (zs.map V.int)) (c.sub.free hq)
    exact hR _ _ M _ _ s (c.new hq) (.lst upd_same ((Dns.of_ints zs))) (q zs hp h1)
end
end DL

set_option Elab.async false
set_option linter.all false
set_option autoImplicit false
set_option maxRecDepth 100000
set_option maxHeartbeats 4000000
namespace DL
open PySem L2 PySem.Spec PyProof.Rows
/-! ### the truth of an instance with a __len__ of its own -/
structure NoBool (K : PySem.W.Frag) (C : Addr) : Prop where
  no : PySem.W.findIn K (.ref C) "__bool__" = some none
section
variable {X : Cx} {CX : CXT} {k : Nat} {C f : Addr} {fd : FuncData} {ps : List Str} {sp : Sp} {E : XK} {a : Expr} {ta : TE}
theorem pt_lenOwn (ha : PE X a ta) (hm : Meth X.K C "__len__" f) (nb : NoBool X.K C) (F : FnOk X.prog X.w X.K X.mg X.base CX k f fd ps sp) (hr : Room (k + 1) X.A) (hb : Binds X.K fd ps []) (hx : Passes CX X E)
    (he : ∀ whole, isTrue a X.env whole = (do let v ← whole; standAt a.pos; holding [v] (truthy v)) := by intro _; rfl) :
    PT X a (fun σ H Q => ta σ H fun v H1 => ∃ b dx fs, v = .ref b ∧ H1 b = some (.ins C dx fs) ∧ sp [.ref b] H1 (fun v H' => ∃ n : Int, v = .int n ∧ 0 ≤ n ∧ n < 2 ^ 63 ∧ Q (n != 0) H') E) := by
  refine ⟨fun pins s σ H Q I0 hw => ?_⟩
  refine isTrue_plain (thn (ha.run pins s σ H _ I0 hw) fun v s1 ⟨x, H1, I, r1, q1⟩ => ?_) (he _)
  obtain ⟨b, dx, fs, rfl, ea, q⟩ := q1
  obtain rfl : v = Value.ref b := r1
  obtain ⟨mA, O, _, _, _, _⟩ := ins_get I.hok ea
  obtain ⟨od, J, _⟩ := O.look
  have hl : ([Value.ref b] ++ []).length = ps.length := (F.len _ _ _ _ q).symm ▸ rfl
  have run : wpAny (model X.prog X.w) X.A.in1 (call (.ref f) [.ref b]) (EP X pins σ fun v H' => ∃ n : Int, v = .int n ∧ 0 ≤ n ∧ n < 2 ^ 63 ∧ Q (n != 0) H') X.xe s1 := by
    refine wpAny_call (codeAny_mono (F.run X.A.in1 X.stack s1 H1 ⟨[.ref b], []⟩ [.ref b] [.ref b] _ E hr.in1 I.env0.in1 (hb s1 [.ref b] I.kIn hl) (.cons rfl .nil) q) fun r s' hq => ?_)
    cases r with
    | error er => exact hx pins σ H1 s1 er s' I hq
    | ok fl =>
      cases fl with
      | ret u => exact I.after hq
      | next => exact False.elim hq
      | brk => exact False.elim hq
      | cont => exact False.elim hq
  have key : wpAny (model X.prog X.w) X.A (runValue (.builtin "len" ⟨[.ref b], []⟩)) (fun r s' => ∃ (n : Int) (t : Tok), r = .int n t ∧ TP X pins σ Q (n != 0) s') X.xe s1 := by
    refine wpAny_runValue (codeAny_builtin entry_len ?_)
    rw [Around.under_plainId plain_len _]
    unfold Builtin.«len»
    refine wpAny_bind (m := oneArg "len" _) (wpAny_pure ?_)
    refine wpAny_bind (m := callSpecial? (.ref b) (Str.ofString "__len__")) (PySem.W.special_fn I.kIn J hm.at_ (beq_iff_eq.mp hm.fn) (thn run fun r s' hq => ?_))
    obtain ⟨v, H', I3, rv, n, rfl, h0, h1, q3⟩ := hq
    obtain ⟨t, rfl⟩ := rv
    refine wpAny_bind (wpAny_holding (wpAny_pure ?_))
    refine wpAny_bind (wpAny_letGo ?_)
    show wpAny _ _ (if n < 0 then _ else _) _ _ _
    rw [if_neg (by omega)]
    show wpAny _ _ (if n ≥ 2 ^ 63 then _ else _) _ _ _
    rw [if_neg (by omega)]
    exact wpAny_bind (wpAny_mkInt (wpAny_pure ⟨n, _, rfl, H', I3.tok _, q3⟩))
  unfold truthy
  refine wpAny_bind (m := callSpecial? (.ref b) (Str.ofString "__bool__")) (wpAny_bind (wpAny_bind (J.type.here ((PySem.W.looks_findIn I.kIn nb.no).here (wpAny_pure ?_)))))
  refine wpAny_bind (wpAny_bind (J.type.here ((PySem.W.looks_findIn I.kIn hm.at_).here ?_)))
  exact wpAny_bind (wpAny_mono key (fun r s' h' => by obtain ⟨n, t, rfl, hq⟩ := h'; exact wpAny_pure hq) fun _ _ e => e)
end
section
variable {X : Cx} {Γ : DL.G} {M : MM} {pos p : Pos} {k j : Nat} {C : Addr} {R : RD}
theorem wt_lenI {e : Expr} {Q : Bool → MM → Prop} (c : Met X.prog X.w X.K X.mg X.base k C "__len__" R) (nb : NoBool X.K C) (hr : Room j X.A) (hk : k + 1 ≤ j)
    (h : DL.WE X e Γ M fun x M1 => InsOf M1 C "__len__" x ∧ R [x] M1 fun d M2 => ∃ n : Int, d = .int n ∧ 0 ≤ n ∧ n < 2 ^ 63 ∧ Q (n != 0) M2) (he : ∀ whole, isTrue e X.env whole = (do let v ← whole; standAt e.pos; holding [v] (truthy v)) := by intro _; rfl) : DL.WT X e Γ M Q := ⟨fun F σ H ho hc W hR => by
  obtain ⟨f, fd, ps, hcl, hmt, G, b⟩ := c.ex
  refine ⟨_, pt_lenOwn pe_wp hmt nb G (hr.mono hk) b (L2.pass0 (X := X)) he, h.run F σ H ho hc _ fun F1 H1 M1 v x e1 c1 d1 ⟨hi, h1⟩ => ?_⟩
  obtain ⟨a, dx, fs, rfl, ha, hl⟩ := hi.at c1 d1
  refine ⟨a, dx, fs, rfl, ha, F1, [x], M1, _, c1, .cons d1 .nil, h1, fun F3 H3 M3 v d e3 c3 d3 ⟨n, e, h0, h1, q⟩ => ?_⟩
  subst e
  cases d3
  exact ⟨n, rfl, h0, h1, hR F3 H3 M3 _ (e1.trans e3) c3 q⟩⟩
end
/-! ### greater numbers that repr shows -/
def Big (i : Int) : Prop := i.natAbs < 10 ^ 40
theorem Shw.big {i : Int} (h : Big i) : Shw (.int i) (.int i) 140 0 := by
  have h1 : i.natAbs < 2 ^ 139 := Nat.lt_of_lt_of_le h (by decide)
  have h2 : i.natAbs.log2 < 139 := by
    by_cases h0 : i.natAbs = 0
    · rw [h0]; decide
    · exact (Nat.log2_lt h0).mpr h1
  refine ⟨rfl, ?_, rfl, ?_, ?_, Nat.le_refl _⟩
  · show decide (i.natAbs.log2 < 1920) = true
    exact decide_eq_true (by omega)
  · show decide ((Str.ofString (toString i)).length ≤ 100) = true
    have := int_text_length_le10 (k := 40) (by decide) h
    rw [PySem.ofString_length]
    exact decide_eq_true (by omega)
  · show (if (i == 0) = true then 0 else i.natAbs.log2 + 1) ≤ 140
    split <;> omega
theorem Shws.bigs {n : Nat} : ∀ ns : List Int, (∀ z, z ∈ ns → Big z) → Shws (ns.map .int) (ns.map .int) (141 * ns.length) n
  | [], _ => .nil
  | z :: ns, h => by
    have a := Shws.cons (n := n) (Shw.big (h z List.mem_cons_self)) (Shws.bigs ns fun y hy => h y (List.mem_cons_of_mem _ hy)) (Nat.zero_le _)
    have e : 140 + 1 + 141 * ns.length = 141 * (z :: ns).length := by rw [List.length_cons]; omega
    rw [← e]
    exact a
end DL

set_option Elab.async false
set_option linter.all false
set_option autoImplicit false
set_option maxRecDepth 100000
set_option maxHeartbeats 4000000
namespace DL
open PySem L2 PySem.Spec PyProof.Rows
/-! ### what repr writes can be compared -/
theorem strOk_str (s : String) : PyData.strOk (Str.ofString s) = true := by
  rw [PySem.Str.ofString_eq_toList]
  unfold PyData.strOk
  rw [← Array.all_toList]
  refine List.all_eq_true.mpr fun c hc => decide_eq_true ?_
  have hc' : c ∈ s.toList.map Char.toNat := by simpa using hc
  obtain ⟨x, _, rfl⟩ := List.mem_map.mp hc'
  have := x.valid
  rcases this with h | ⟨_, h⟩
  · exact Nat.lt_trans h (by decide)
  · exact h
theorem strOk_app {a b : Str} (h1 : PyData.strOk a = true) (h2 : PyData.strOk b = true) : PyData.strOk (a ++ b) = true := by
  unfold PyData.strOk at *
  rw [← Array.all_toList] at *
  rw [show (a ++ b).cps = a.cps ++ b.cps from PySem.Str.cps_append a b, Array.toList_append, List.all_append, h1, h2]
  rfl
theorem strOk_join : ∀ ts : List Str, (∀ t, t ∈ ts → PyData.strOk t = true) → PyData.strOk (Str.join ", " ts) = true
  | [], _ => by decide +kernel
  | [x], h => h x List.mem_cons_self
  | x :: y :: r, h => by
    show PyData.strOk (x ++ ", " ++ Str.join ", " (y :: r)) = true
    exact strOk_app (strOk_app (h x List.mem_cons_self) (strOk_str _)) (strOk_join (y :: r) fun t ht => h t (List.mem_cons_of_mem _ ht))
theorem shownAll_ints : ∀ ns : List Int, ∀ t, t ∈ PyData.shownAll (ns.map .int) → PyData.strOk t = true
  | [], t, h => by cases h
  | n :: ns, t, h => by
    have h' : t = PyData.shown (.int n) ∨ t ∈ PyData.shownAll (ns.map .int) := by
      have : t ∈ PyData.shown (.int n) :: PyData.shownAll (ns.map .int) := h
      exact List.mem_cons.mp this
    rcases h' with rfl | h2
    · exact strOk_str _
    · exact shownAll_ints ns t h2
theorem strOk_tup (ns : List Int) : PyData.strOk (PyData.tuple (ns.map .int)).shown = true := by
  show PyData.strOk (tupleText (PyData.shownAll (ns.map .int))) = true
  unfold tupleText
  exact strOk_app (strOk_app (strOk_str _) (strOk_join _ (shownAll_ints ns))) (strOk_str _)
end DL

set_option Elab.async false
set_option linter.all false
set_option autoImplicit false
set_option maxRecDepth 100000
set_option maxHeartbeats 4000000
namespace DL
open PySem L2 PySem.Spec PyProof.Rows
theorem defC_of {K : PySem.W.Frag} {mg : Str → Option Value} {x : Str} {st : Stmt} {ps : List Str} {f : Addr} (s : StandsL K x x st f) (hm : mg x = some (.ref f))
    (hb : ∀ (kV doc pm : Value) (an : Option Addr) (cdv ct : Value) (us : List Value), us.length = ps.length → bindArgs (PySem.W.fnOf x x (defArgs st) (defBody st) (defScope st) .none kV doc pm an cdv ct) ⟨us, []⟩ = pure (ps.zip us)) : DefAtC K mg x st ps (codeA K f) := by
  obtain ⟨oc, od, kV, dc, pm, an, cd, ct, sl, l, ci⟩ := s.at_
  obtain ⟨c, rfl⟩ := He.codeIn_ref ci
  rw [codeA_eq l rfl]
  exact defC_mk l ci s.kp hm hb
theorem rzl_look {K : PySem.W.Frag} {h : Heap} {mg : Str → Option Value} {x qual v f : Str} {C fI : Addr} {st : Stmt} {B newId initId : String} {bmB : List Value} {p1 p2 p3 p4 : Pos} (X : K.In h) (G : h.Ns mainGlobals mg)
    (EB : ExcBaseFacts B newId initId bmB) (SF : PySem.StoreFacts B bmB "object.__setattr__" "object") (n : PySem.W.nsIn K mainGlobals x = some (some (.ref C)))
    (cl : clsB K C newId bmB = true) (ov : PySem.W.excOver K C bmB = true) (sa : PySem.W.findIn K (.ref C) "__setattr__" = some (some (.builtin "object.__setattr__")))
    (exC : PySem.W.subIn K (.ref C) (.type "BaseException") = some true) (tyC : PySem.W.typeIn K (.ref C) = some (.type "type")) (kC : PySem.W.keepIn K (.ref C) = true)
    (hno : PySem.W.findIn K (.ref C) f = some none) (iC : PySem.W.findIn K (.ref C) "__init__" = some (some (.ref fI))) (tI : PySem.W.typeIn K (.ref fI) = some (.type "function"))
    (s : StandsL K "__init__" qual st fI) (S : FnScope ["self", v] ["self", v] (defScope st)) (hb : defBody st = [.Assign [.Attribute (.Name "self" p1) f p2] (.Name v p3) p4])
    (b : ∀ (kV doc pm : Value) (an : Option Addr) (cdv ct : Value) (us : List Value), us.length = (["self", v] : List Str).length → bindArgs (PySem.W.fnOf "__init__" qual (defArgs st) (defBody st) (defScope st) .none kV doc pm an cdv ct) ⟨us, []⟩ = pure ((["self", v] : List Str).zip us))
    (s1 : Vis (defScope st) "self") (s2 : Vis (defScope st) v) (d1 : (v == ("__debug__" : Str)) = false) (d2 : (v == ("__classdict__" : Str)) = false) : RzL K mg x C f := by
  obtain ⟨oc, od, kV, dc, pm, an, cd, ct, sl, l, ci⟩ := s.at_
  have F : Fun K "__init__" qual st fI _ := fun_mk l ci s.kp
  exact ⟨fun P w base => rz_of ⟨EB, SF, clsB_ok cl, ov, sa, exC, tyC, kC⟩ (PySem.W.mg_of X G n) hno iC tI F S hb (F.binds b) s1 s2 d1 d2⟩
theorem ecChk_ok {K : PySem.W.Frag} {as : List Addr} {b0 b1 b2 C : Addr} {i : Nat} (h : ecChk K as b0 b1 b2 C i = true) : errChk K as b0 b1 b2 C i = true := h
end DL

set_option Elab.async false
set_option linter.all false
set_option autoImplicit false
set_option maxRecDepth 100000
set_option maxHeartbeats 4000000
namespace DL
open PySem L2 PySem.Spec PyProof.Rows
/-! the ends over such a head, where no repr is under way -/
theorem walk_ofGE {l : PySem.W.OpenLaw} {n k : Nat} {q : Program} {loose : List Str} {XP : (Str → Option Value) → Heap → Prop} {YP : World → Heap → Prop} {d : DefRec} {x : Str}
    (hn : l.most = some n) (hn2 : n ≤ sizeLine) (hdf : d.params.defaults = []) (hr : Room k callerA)
    (F : ∀ (w : World) (mg : Str → Option Value) (fa : Addr) (h : Heap), YP w h → h.Ns mainGlobals mg → mg d.name = some (.ref fa) →
      ∃ (K : PySem.W.Frag) (fd : FuncData) (sp : Sp), K.In h ∧ (∀ (s : Shared) (u : Value), BindsTo s fd ⟨[u], []⟩ [(x, u)]) ∧ (∀ (H : Hp) (a : Addr) (ns : List Int), ns.length ≤ n → Only H → SqL K H a (ns.map V.int) → sp [.ref a] H (fun v _ => v = .bl true) fun _ _ _ => False) ∧
        ∀ base : Heap, K.In base → base.Ns mainGlobals mg → FnG l.prog w K mg base k fa fd [x] sp) :
    PySem.W.WalkO q loose XP YP l.row.toRowW d [] (fun f vs => PySem.call f vs) := by
  refine Att.attach_call hn hdf fun w s₀ s₁ mg mb fa o pm cd doc a vs ns G Y ho hd hcd hmg hobj hints hlen hg => ?_
  obtain ⟨K, fd, sp, KX, hb, hsp, hF⟩ := F w mg fa _ Y G.T.g hmg
  exact law_callG KX G.T.g G.T.b G.T.builtins G.T.nolimit hg hobj hints (Nat.le_trans hlen hn2) hr hF hb fun H hO hS => hsp H a ns hlen hO hS
theorem walk_ofTGE {l : PySem.W.OpenLaw} {n k : Nat} {q : Program} {loose : List Str} {XP : (Str → Option Value) → Heap → Prop} {YP : World → Heap → Prop} {d : DefRec} {x : Str}
    (hn : l.most = some n) (hn2 : n ≤ sizeLine) (hdf : d.params.defaults = []) (hr : Room k callerA)
    (F : ∀ (w : World) (mg : Str → Option Value) (fa : Addr) (h : Heap), YP w h → h.Ns mainGlobals mg → mg d.name = some (.ref fa) →
      ∃ (K : PySem.W.Frag) (fd : FuncData) (cc T : Addr) (sp : Sp), K.In h ∧ h.get? T = some { cls := .none, data := .fields #[] } ∧ K.lookup T = none ∧ PySem.W.codeHdIn K cc T = true ∧ (∀ (s : Shared) (u : Value), BindsTo s fd ⟨[u], []⟩ [(x, u)]) ∧
        (∀ (H : Hp) (a : Addr) (ns : List Int), ns.length ≤ n → H T = some (.tbl #[]) → SqL K H a (ns.map V.int) → sp [.ref a] H (fun v _ => v = .bl true) fun _ _ _ => False) ∧
        ∀ base : Heap, K.In base → base.Ns mainGlobals mg → LamX.TabB base mg cc T → FnG l.prog w K mg base k fa fd [x] sp) :
    PySem.W.WalkO q loose XP YP l.row.toRowW d [] (fun f vs => PySem.call f vs) := by
  refine Att.attach_call hn hdf fun w s₀ s₁ mg mb fa o pm cd doc a vs ns G Y ho hd hcd hmg hobj hints hlen hg => ?_
  obtain ⟨K, fd, cc, T, sp, KX, h1, h2, h3, h4, h5, h6⟩ := F w mg fa _ Y G.T.g hmg
  exact law_callTG KX G.T.g G.T.b G.T.builtins G.T.nolimit hg h1 h2 h3 G.T.bmain hobj hints (Nat.le_trans hlen hn2) hr h6 h4 fun H hH hS => h5 H a ns hlen hH hS
end DL

set_option Elab.async false
set_option linter.all false
set_option autoImplicit false
set_option maxRecDepth 100000
set_option maxHeartbeats 4000000
namespace DL
open PySem L2 PySem.Spec PyProof.Rows
/-! ### a law with several tables of code objects, where no repr is under way -/
section
variable {P : Program} {w : World} {K : PySem.W.Frag} {mg mb : Str → Option Value}
theorem tabsHeap {h : Heap} {a : Addr} {ts : List Addr} {vs : List Value} {ns : List Int} (KX : K.In h) (ha : h.get? a = some { cls := .type "list", data := .seq vs.toArray }) (hi : IntsAre vs ns) (hl : ns.length ≤ sizeLine) (hT : ∀ t, t ∈ ts → h.get? t = some { cls := .none, data := .fields #[] }) :
    ∃ H : Hp, (∀ t, t ∈ ts → H t = some (.tbl #[])) ∧ SqL K H a (ns.map V.int) ∧ HOk P w H h ∧ (∀ b u, H b = some u → b ∉ ts → b = a ∧ K.lookup a = none ∧ ∃ o xs, u = .frz o (.lst xs)) ∧ a ∉ ts := by
  obtain ⟨H0, hO, hS, hok, hA⟩ := topHeap (P := P) (w := w) KX ha hi hl
  have aT : a ∉ ts := fun z => by
    have e := hT a z
    rw [ha] at e
    cases e
  have free : ∀ t, t ∈ ts → H0 t = none := fun t ht => by
    cases q : H0 t with
    | none => rfl
    | some u => exact absurd ht ((hA t u q).1 ▸ aT)
  have form : ∀ b u, H0 b = some u → ∃ o xs, u = .frz o (.lst xs) := fun b u z => by
    rcases hO b with e | ⟨o, xs, e⟩
    · rw [e] at z; cases z
    · rw [e] at z; cases z; exact ⟨o, xs, rfl⟩
  refine ⟨fun b => if b ∈ ts then some (.tbl #[]) else H0 b, fun t ht => if_pos ht, ?_, fun b u z => ?_, fun b u z hb => ?_, aT⟩
  · have sm : Same H0 (fun b => if b ∈ ts then some (.tbl #[]) else H0 b) := fun b u e => by
      have hb : b ∉ ts := fun z => by rw [free b z] at e; cases e
      show (if b ∈ ts then some (.tbl #[]) else H0 b) = some u
      rw [if_neg hb]
      exact e
    exact sm.seq hS
  · have z : (if b ∈ ts then some (.tbl #[]) else H0 b) = some u := z
    by_cases hb : b ∈ ts
    · rw [if_pos hb] at z
      cases z
      exact hT b hb
    · rw [if_neg hb] at z
      obtain ⟨o, xs, rfl⟩ := form b u z
      exact hok b _ z
  · have z : (if b ∈ ts then some (.tbl #[]) else H0 b) = some u := z
    rw [if_neg hb] at z
    exact ⟨(hA b u z).1, (hA b u z).2, form b u z⟩
theorem law_callTsG {k : Nat} {fa a : Addr} {cs : List (Addr × Addr)} {fd : FuncData} {x : Str} {sp : Sp} {s₁ : Shared} {vs : List Value} {ns : List Int}
    (KX : K.In s₁.heap) (hns : s₁.heap.Ns mainGlobals mg) (hb : s₁.heap.Ns builtinsNs mb) (hbb : ∀ x : Str, x ≠ "__name__" → mb x = bootBuiltins x) (hlim : s₁.heap.NoLimit) (hg : s₁.gens = #[])
    (hT : ∀ p, p ∈ cs → s₁.heap.get? p.2 = some { cls := .none, data := .fields #[] }) (nT : ∀ p, p ∈ cs → K.lookup p.2 = none) (hd : ∀ p, p ∈ cs → PySem.W.codeHdIn K p.1 p.2 = true)
    (hbm : ∃ (bm : Addr) (ob : Obj), mg "__builtins__" = some (.ref bm) ∧ bm ≠ builtinsNs ∧ s₁.heap.get? bm = some ob ∧ ob.cls = .type "module" ∧ ob.dict = some builtinsNs ∧ ob.data = .plain)
    (ha : s₁.heap.get? a = some { cls := .type "list", data := .seq vs.toArray }) (hi : IntsAre vs ns) (hl : ns.length ≤ sizeLine) (hr : Room k callerA)
    (F : ∀ base : Heap, K.In base → base.Ns mainGlobals mg → (∀ p, p ∈ cs → LamX.TabB base mg p.1 p.2) → FnG P w K mg base k fa fd [x] sp) (hbind : ∀ (s : Shared) (u : Value), BindsTo s fd ⟨[u], []⟩ [(x, u)])
    (hsp : ∀ H : Hp, (∀ p, p ∈ cs → H p.2 = some (.tbl #[])) → SqL K H a (ns.map V.int) → sp [.ref a] H (fun v _ => v = .bl true) fun _ _ _ => False) :
    codeAny (model P w) callerA (.call (.ref fa) ⟨[.ref a], []⟩) (fun r s' => r = .ok (.ret (.bool true)) ∧ OldK s₁.heap s'.heap ∧ s'.os = s₁.os ∧ AllBare s'.gens) s₁ := by
  have isT : ∀ t, t ∈ cs.map (·.2) → ∃ p, p ∈ cs ∧ p.2 = t := fun t ht => List.mem_map.mp ht
  obtain ⟨H, hHT, hS, hok, hA, aT⟩ := tabsHeap (P := P) (w := w) (ts := cs.map (·.2)) KX ha hi hl (fun t ht => by obtain ⟨p, hp, rfl⟩ := isT t ht; exact hT p hp)
  have memT : ∀ p, p ∈ cs → p.2 ∈ cs.map (·.2) := fun p hp => List.mem_map.mpr ⟨p, hp, rfl⟩
  -- what is neither the script nor a table stands behind
  have free : ∀ {b : Addr}, b ≠ a → b ∉ cs.map (·.2) → H b = none := fun {b} n1 n2 => by
    cases q : H b with
    | none => rfl
    | some u => exact absurd (hA b u q n2).1 n1
  have noTab : ∀ {b : Addr} {o : Obj}, s₁.heap.get? b = some o → o ≠ { cls := .none, data := .fields #[] } → b ∉ cs.map (·.2) := fun {b o} e n z => by
    obtain ⟨p, hp, rfl⟩ := isT b z
    rw [hT p hp] at e
    exact n (Option.some.inj e).symm
  have dict : ∀ {b : Addr} {o : Obj} {es : Array DictEntry} {ep : Nat}, s₁.heap.get? b = some o → o.data = .dict es ep → b ≠ a ∧ b ∉ cs.map (·.2) := by
    intro b o es ep e d
    refine ⟨fun n => ?_, noTab e fun z => by rw [z] at d; cases d⟩
    subst n
    rw [ha] at e
    cases e
    cases d
  have ns' : ∀ {b : Addr} {m : Str → Option Value}, s₁.heap.Ns b m → (hidT s₁.heap H).Ns b m := fun ⟨o, es, ep, e, d, r⟩ => ⟨o, es, ep, hidT_get e (free (dict e d).1 (dict e d).2), d, r⟩
  have kin : K.In (hidT s₁.heap H) := fun b o e => hidT_get (KX b o e) (by
    by_cases hbT : b ∈ cs.map (·.2)
    · obtain ⟨p, hp, rfl⟩ := isT b hbT
      rw [nT p hp] at e
      cases e
    · cases q : H b with
      | none => rfl
      | some u =>
        obtain ⟨rfl, n, _⟩ := hA b u q hbT
        rw [n] at e
        cases e)
  have md : Mod K mg (hidT s₁.heap H) := ⟨kin, ns' hns, ⟨mb, ns' hb, hbb⟩, hlim.elim fun mc z => ⟨mc, ns' z.1, z.2⟩⟩
  have nofr : ∀ b, b ∉ frs ([] : List Env) := fun b z => by cases z
  have e0 : Env0 P w K mg (hidT s₁.heap H) callerA [] s₁ H := ⟨rfl, md, fun b o e => of_hidT e, Nat.le_of_eq (hidT_size _ _), trivial, fun b z => absurd z (nofr b), hok, .of_eq hg⟩
  have tb : ∀ p, p ∈ cs → LamX.TabB (hidT s₁.heap H) mg p.1 p.2 := fun p hp => by
    obtain ⟨bm, ob, m1, m2, m3, m4, m5, m6⟩ := hbm
    have g1 : bm ≠ mainGlobals := fun z => by
      obtain ⟨o, es, ep, e, d, _⟩ := hns
      rw [← z, m3] at e
      cases e
      rw [m6] at d
      cases d
    have g4 : bm ∉ cs.map (·.2) := noTab m3 fun z => by rw [z] at m4; cases m4
    have g2 : bm ≠ p.2 := fun z => g4 (z ▸ memT p hp)
    have g3 : bm ≠ a := fun z => by
      rw [z, ha] at m3
      cases m3
      cases m6
    exact ⟨PySem.W.codeHd_of_K kin (hd p hp), ⟨bm, ob, m1, m2, g1, g2, hidT_get m3 (free g3 g4), m4, m5, m6⟩, fun z => by
      obtain ⟨o, es, ep, e, d, _⟩ := hns
      have e' := hT p hp
      rw [← z, e] at e'
      cases e'
      cases d⟩
  refine codeAny_mono ((F _ kin (ns' hns) tb).run callerA [] s₁ H ⟨[.ref a], []⟩ [.ref a] [.ref a] _ _ rfl hr e0 (hbind s₁ (.ref a)) (.cons rfl .nil) (hsp H (fun p hp => hHT p.2 (memT p hp)) hS)) fun r s' z => ?_
  cases r with
  | error e => exact False.elim z
  | ok fl =>
    cases fl with
    | ret u =>
      obtain ⟨v, H', os, bare, un, hok', rv, q⟩ := z
      obtain rfl : v = .bl true := q
      obtain rfl : u = Value.bool true := rv
      have still : ∀ b o, b ∉ cs.map (·.2) → s₁.heap.get? b = some o → s'.heap.get? b = some o := fun b o hbT e => by
        cases q : H b with
        | none => exact un.keep b o e q (nofr b) (by simp)
        | some u =>
          obtain ⟨rfl, _, ob, xs, rfl⟩ := hA b u q hbT
          have e1 := (hok b _ q).1
          have e2 := (hok' b _ (un.frzs b ob _ q)).1
          rw [e] at e1
          cases e1
          exact e2
      have tz : ∀ b, b ∈ cs.map (·.2) → ∃ more, s'.heap.get? b = some { cls := .none, data := .fields more } := fun b hb => by
        obtain ⟨more, mz⟩ := un.tbls b #[] (hHT b hb)
        have t2 : s'.heap.get? b = some { cls := .none, data := .fields (#[] ++ more) } := hok' b _ mz
        rw [Array.empty_append] at t2
        exact ⟨more, t2⟩
      refine ⟨rfl, ⟨fun b o e => ?_, fun b o e => ?_⟩, os, bare⟩
      · by_cases hbT : b ∈ cs.map (·.2)
        · obtain ⟨more, t2⟩ := tz b hbT
          obtain ⟨p, hp, rfl⟩ := isT b hbT
          obtain rfl := Option.some.inj ((hT p hp).symm.trans e)
          exact .inr (.inl ⟨((PySem.W.codeHd_of_K KX (hd p hp)).tab (hT p hp)).isCodeTable, rfl, #[], more, rfl, by rw [Array.empty_append]; exact t2⟩)
        · exact .inl (still b o hbT e)
      · by_cases hbT : b ∈ cs.map (·.2)
        · obtain ⟨more, t2⟩ := tz b hbT
          exact ⟨_, t2⟩
        · exact ⟨o, still b o hbT e⟩
    | next => exact False.elim z
    | brk => exact False.elim z
    | cont => exact False.elim z
end
theorem walk_ofTsGE {l : PySem.W.OpenLaw} {n k : Nat} {q : Program} {loose : List Str} {XP : (Str → Option Value) → Heap → Prop} {YP : World → Heap → Prop} {d : DefRec} {x : Str}
    (hn : l.most = some n) (hn2 : n ≤ sizeLine) (hdf : d.params.defaults = []) (hr : Room k callerA)
    (F : ∀ (w : World) (mg : Str → Option Value) (fa : Addr) (h : Heap), YP w h → h.Ns mainGlobals mg → mg d.name = some (.ref fa) →
      ∃ (K : PySem.W.Frag) (fd : FuncData) (cs : List (Addr × Addr)) (sp : Sp), K.In h ∧ (∀ p, p ∈ cs → h.get? p.2 = some { cls := .none, data := .fields #[] }) ∧ (∀ p, p ∈ cs → K.lookup p.2 = none) ∧ (∀ p, p ∈ cs → PySem.W.codeHdIn K p.1 p.2 = true) ∧ (∀ (s : Shared) (u : Value), BindsTo s fd ⟨[u], []⟩ [(x, u)]) ∧
        (∀ (H : Hp) (a : Addr) (ns : List Int), ns.length ≤ n → (∀ p, p ∈ cs → H p.2 = some (.tbl #[])) → SqL K H a (ns.map V.int) → sp [.ref a] H (fun v _ => v = .bl true) fun _ _ _ => False) ∧
        ∀ base : Heap, K.In base → base.Ns mainGlobals mg → (∀ p, p ∈ cs → LamX.TabB base mg p.1 p.2) → FnG l.prog w K mg base k fa fd [x] sp) :
    PySem.W.WalkO q loose XP YP l.row.toRowW d [] (fun f vs => PySem.call f vs) := by
  refine Att.attach_call hn hdf fun w s₀ s₁ mg mb fa o pm cd doc a vs ns G Y ho hd hcd hmg hobj hints hlen hg => ?_
  obtain ⟨K, fd, cs, sp, KX, h1, h2, h3, h4, h5, h6⟩ := F w mg fa _ Y G.T.g hmg
  exact law_callTsG KX G.T.g G.T.b G.T.builtins G.T.nolimit hg h1 h2 h3 G.T.bmain hobj hints (Nat.le_trans hlen hn2) hr h6 h4 fun H hH hS => h5 H a ns hlen hH hS
end DL

set_option Elab.async false
set_option linter.all false
set_option autoImplicit false
set_option maxRecDepth 100000
set_option maxHeartbeats 4000000
namespace DL
open PySem L2 PySem.Spec PyProof.Rows PySem.HandSPX
/-! an own class of errors, called with keywords -/
section
variable {prog : Program} {w : World} {A : Around} {E : Value → Shared → Prop} {R : Result → Shared → Prop} {hp : Heap} {gn : Array GenState} {dr : Drawn} {tk : Nat} {os : OsState}
variable {nm qn : Str} {C N : Addr} {bs bm bmB : List Value} {hd : Bool} {sn : List Str} {sub : List Value} {ab : Bool} {col : Option Bool} {dd : Option Addr} {k0 k1 k2 k3 k5 : Option Value} {B newId initId : String}
variable {us : List Value} {kw : List (Str × Value)}
theorem kwx_check (F : ExcBaseFacts B newId initId bmB) (hT : ∀ X : String, bm.contains (.type X) = bmB.contains (.type X)) {M : Model} {Q : Unit → Shared → Prop}
    (hC : hp.get? C = some (excClassObj nm qn C N bs bm hd sn sub ab col dd k0 k1 k2 k3 k5 newId)) (q : Q () ⟨hp, gn, dr, tk, os⟩) : wpAny M A (checkBuiltinCall newId ⟨.ref C :: us, kw⟩) Q E ⟨hp, gn, dr, tk, os⟩ := by
  have c1 : (Value.ref C :: bm).contains (.type B) = true := by rw [List.contains_cons, hT, F.hasB, Bool.or_true]
  have c2 := F.noStar
  simp only [checkBuiltinCall, F.newKind, F.newSplit, F.newRow]
  repeat (first
    | (refine wpAny_isSubtype_exc hC ?_; rw [c1])
    | refine wpAny_madeBy_exc hC ?_
    | refine wpAny_staticBase_exc hC ?_
    | refine wpAny_loadPart_at hC ?_
    | simp only [bne_self_eq_false, Bool.false_eq_true, if_false]
    | wp_step)
  exact q
theorem kwx_new (F : ExcBaseFacts B newId initId bmB) (hT : ∀ X : String, bm.contains (.type X) = bmB.contains (.type X)) (hC : hp.get? C = some (excClassObj nm qn C N bs bm hd sn sub ab col dd k0 k1 k2 k3 k5 newId))
    (q : R (.ok (.ret (.ref (hp.objs.size + 1)))) ⟨(hp.push (W.kdv_tup us)).push (excO C hp.objs.size), gn, dr, tk, os⟩) (hl : us.length ≤ sizeLine) :
    codeAny (model prog w) A (.builtin newId ⟨.ref C :: us, kw⟩) R ⟨hp, gn, dr, tk, os⟩ := by
  have hends := F.ends
  have c1 : (Value.ref C :: bm).contains (.type B) = true := by rw [List.contains_cons, hT, F.hasB, Bool.or_true]
  have c2 : (Value.ref C :: bm).contains (.type "AttributeError") = false := by rw [List.contains_cons, hT, F.noAttr]; rfl
  have c3 : (Value.ref C :: bm).contains (.type "NameError") = false := by rw [List.contains_cons, hT, F.noName]; rfl
  refine PySem.codeAny_builtinAt F.entry ?_
  unfold Builtin.«BaseException.__new__»
  refine PySem.wpAt_bind ?_
  show PySem.wpAt _ _ _ (stack >>= _) _ _ _
  refine PySem.wpAt_bind (PySem.wpAt_stack fun p below => PySem.wpAt_of_wpAny ?_)
  wp_walk
  refine PySem.wpAt_of_wpAny ?_
  rw [F.owner]
  repeat (first
    | with_reducible refine wpAny_loadPart_at hC ?_
    | with_reducible refine wpAny_madeHere_exc F.canon hC ?_
    | (with_reducible refine wpAny_isSubtype_exc hC ?_; first | rw [c1] | rw [c2] | rw [c3])
    | wp_step)
  show R _ _
  rw [Heap.size_push]
  exact q
theorem kwx_type {fI : Addr} {Q : Fin → Shared → Prop} (F : ExcBaseFacts B newId initId bmB) (hT : ∀ X : String, bm.contains (.type X) = bmB.contains (.type X)) (hC : hp.get? C = some (excClassObj nm qn C N bs bm hd sn sub ab col dd k0 k1 k2 k3 k5 newId))
    (li : W.Looks (model prog w) hp (typeLookup (.ref C) "__init__") (some (.ref fI))) (lb : ∀ self, W.Looks (model prog w) hp (bindSpecial (.ref fI) self) (.ref fI, [self])) (hl : us.length ≤ sizeLine)
    (q : codeAny (model prog w) A (.call (.ref fI) ⟨.ref (hp.objs.size + 1) :: us, kw⟩)
      (fun r s' => match r with | .ok (.ret v) => v = .none ∧ Q (.done (.ret (.ref (hp.objs.size + 1)))) s' | .ok _ => False | .error e => E e s')
      ⟨(hp.push (W.kdv_tup us)).push (excO C hp.objs.size), gn, dr, tk, os⟩) : wpAny (model prog w) A (Builtin.«type.__call__» ⟨.ref C :: us, kw⟩) Q E ⟨hp, gn, dr, tk, os⟩ := by
  repeat (first
    | with_reducible refine wpAny_madeBy_exc hC ?_
    | with_reducible refine wpAny_loadPart_at hC ?_
    | wp_step)
  refine codeAny_call_builtin_code (Code.quiet_builtin _ F.quiet) (kwx_check F hT hC (kwx_new F hT hC ?_ hl))
  show wpAny _ _ _ _ _ _
  have grow : ∀ b o, hp.get? b = some o → ((hp.push (W.kdv_tup us)).push (excO C hp.objs.size)).get? b = some o := fun b o e => Heap.get?_push_of_some _ (Heap.get?_push_of_some _ e)
  have cls1 := grow _ _ hC
  have new1 : ((hp.push (W.kdv_tup us)).push (excO C hp.objs.size)).get? (hp.objs.size + 1) = some (excO C hp.objs.size) := by heap_get
  have self1 : (Value.ref C :: bm).contains (.ref C) = true := by simp
  have li1 := li.keeps grow
  have lb1 := (lb (.ref (hp.objs.size + 1))).keeps grow
  unfold isInstance
  repeat (first
    | (with_reducible refine wpAny_isSubtype_exc cls1 ?_; rw [self1])
    | with_reducible refine wpAny_loadPart_at new1 ?_
    | wp_step)
  show wpAny _ _ (typeLookup (.ref C) _) _ _ _
  refine li1.at (wpAny_holding (wpAny_bind (lb1.at ?_)))
  refine wpAny_bind (wpAny_call (codeAny_mono q fun r s' z => ?_))
  cases r with
  | error er => exact z
  | ok fl =>
    cases fl with
    | ret v =>
      obtain ⟨rfl, z2⟩ := z
      exact wpAny_pure (wpAny_pure z2)
    | _ => exact z.elim
theorem kwx_call {fI : Addr} (F : ExcBaseFacts B newId initId bmB) (hT : ∀ X : String, bm.contains (.type X) = bmB.contains (.type X)) (hC : hp.get? C = some (excClassObj nm qn C N bs bm hd sn sub ab col dd k0 k1 k2 k3 k5 newId))
    (li : W.Looks (model prog w) hp (typeLookup (.ref C) "__init__") (some (.ref fI))) (lb : ∀ self, W.Looks (model prog w) hp (bindSpecial (.ref fI) self) (.ref fI, [self])) (hl : us.length ≤ sizeLine)
    (q : codeAny (model prog w) (A.under (.builtin "type.__call__" ⟨.ref C :: us, kw⟩)) (.call (.ref fI) ⟨.ref (hp.objs.size + 1) :: us, kw⟩) (W.InitBack (hp.objs.size + 1) R) ⟨(hp.push (W.kdv_tup us)).push (excO C hp.objs.size), gn, dr, tk, os⟩) :
    codeAny (model prog w) A (.call (.ref C) ⟨us, kw⟩) R ⟨hp, gn, dr, tk, os⟩ := by
  have t1 := tc_lookup
  have t2 := tc_bind (.ref C)
  have t3 := tc_sub
  have ty : (⟨hp, gn, dr, tk, os⟩ : Shared).TypeIs (.ref C) "type" := ⟨_, hC, rfl⟩
  refine codeAny_of_tree ?_
  show wpAny _ _ (callAny (.ref C) _) _ _ _
  repeat (any_goals (first
    | with_reducible refine wpAny_loadPart_at hC ?_
    | assumption
    | wp_step))
  refine ⟨rfl, codeAny_call_builtin_at (Code.quiet_builtin _ (by decide +kernel)) entry_typeCall ?_⟩
  have chk : ∀ {M : Model} {A' : Around} {E' : Value → Shared → Prop} {Q' : Unit → Shared → Prop}, Q' () ⟨hp, gn, dr, tk, os⟩ → wpAny M A' (checkBuiltinCall "type.__call__" ⟨.ref C :: us, kw⟩) Q' E' ⟨hp, gn, dr, tk, os⟩ := fun {M A' E' Q'} h => by
    simp only [checkBuiltinCall, tc_kind, tc_split]
    repeat (any_goals (first
      | assumption
      | with_reducible refine wpAny_map ?_
      | with_reducible refine wpAny_onRaise ?_
      | with_reducible refine wpAny_loadPart_at hC ?_
      | wp_step))
  refine chk (kwx_type F hT hC li lb hl (codeAny_mono q fun r s' z => ?_))
  rcases r with er | (v | _ | _ | _) <;> exact z
end
end DL

set_option Elab.async false
set_option linter.all false
set_option autoImplicit false
set_option maxRecDepth 100000
set_option maxHeartbeats 4000000
namespace DL
open PySem L2 PySem.Spec PyProof.Rows
/-! ### a further field of an exception that has its dict -/
section
open Builtin Builtin.ObjectAttr
variable {prog : Program} {w : World} {A : Around} {E : Value → Shared → Prop} {R : Result → Shared → Prop} {hp : Heap} {g : Array GenState} {d : Drawn} {t : Nat} {os : OsState} {K : PySem.W.Frag} {B newId initId : String} {bmB : List Value}
theorem next_field {name : Str} {tk : Tok} {v : Value} {x C dx : Addr} {fv : Array Value} {m0 : Str → Option Value} {nl : List Str} (T : OexB K C B newId initId bmB) (X : K.In hp) (hx : hp.get? x = some { cls := .ref C, dict := some dx, data := .fields fv })
    (hn : hp.Ns1 dx m0) (hw : Within m0 nl) (hz : nl.length ≤ 1000) (ha : PySem.W.findIn K (.ref C) name = some none)
    (hq : ∀ h' tk', (∀ b o, b ≠ dx → hp.get? b = some o → h'.get? b = some o) → h'.Ns1 dx (fun y => if y = name then some v else m0 y) → R (.ok (.ret .none)) ⟨h', g, d, tk', os⟩) :
    codeAny (model prog w) A (.call (.builtin "object.__setattr__") ⟨[.ref x, .str name tk, v], []⟩) R ⟨hp, g, d, t, os⟩ := by
  obtain ⟨nm, q, N, bs, bm, sn, sub, ab, col, dd, k0, k1, k2, k3, k5, hC, hbm⟩ := T.cls
  have hcl : PySem.W.clsIn K C = some { name := nm, bases := bs, mro := .ref C :: bm, ns := N, qualname := q, hasDict := true, slotNames := sn, subclasses := sub, abstract := ab, collection := col, hasDel := false } := by unfold PySem.W.clsIn; rw [hC] <;> rfl
  have tkr : PySem.W.takerIn K C name = some none := by unfold PySem.W.takerIn; rw [ha]; rfl
  obtain ⟨oD, esD, epD, hoD, hdD, _⟩ := hn.count hw
  have looks := PySem.W.looks_clsIn (M := model prog w) X hcl
  refine PySem.W.osa_openX (od := some oD) T.store X ⟨hx, rfl, rfl, hoD⟩ T.over tkr fun b => ?_
  show wpAny _ _ (storeInOwnDict (.ref x) (.ref C) (.str name tk) name v b) _ _ _
  unfold storeInOwnDict ownDictForStores
  repeat (first | with_reducible refine PySem.OEX.store_in_old hn hw hz ?_ | with_reducible refine wpAny_loadPart_at hx ?_ | with_reducible refine looks.at ?_ | wp_step)
  exact fun h' tk' hn' hs => hq h' tk' (fun b o hb ho => (hs.2 b hb).trans ho) hn'
end
section
variable {X : Cx} {pins : List (Addr × Obj)} {σ : L2.St} {H : Hp} {s : Shared} {a C dx : Addr} {f : Str} {y : V} {u : Value} {fs : List (Str × V)} {Q : Unit → Shared → Prop} {E : Value → Shared → Prop} {A : Around} {B newId initId : String} {bmB : List Value}
theorem field_next (T : OexB X.K C B newId initId bmB) (I : Inv X pins σ H s) (e : H a = some (exo a C (some dx))) (ed : H dx = some (exd dx fs)) (hl : fs.length ≤ 900) (hno : PySem.W.findIn X.K (.ref C) f = some none) (ry : RelV y u)
    (h : ∀ s', Inv X pins σ (upd H dx (exd dx ((f, y) :: fs))) s' → Q () s') : wpAny (model X.prog X.w) A (setAttr (.ref a) f u) Q E s := by
  obtain ⟨t1, ho⟩ := exo_at I.hok e
  obtain ⟨mA, hns, rel⟩ := exd_at I.hok ed
  have hw := within_of rel
  obtain ⟨hp, g, d, t, os⟩ := s
  obtain ⟨oD, _, _, hoD, _, _⟩ := hns.count hw
  refine PySem.W.set_plain I.kIn (ox := { cls := .ref C, dict := some dx, data := .fields #[.ref t1, .none, .none, .none, .bool false, .none] }) (od := some oD) ⟨ho, rfl, rfl, hoD⟩ T.sa ?_
  refine next_field T I.kIn ho hns hw (by rw [List.length_map]; omega) hno fun h' tk' k hn => ?_
  have there : ∃ o, h'.get? dx = some o := by
    obtain ⟨o, _, _, e', _⟩ := hn
    exact ⟨o, e'⟩
  exact h _ (I.write (t' := tk') (x := dx) (e := dx) (o := exd dx ((f, y) :: fs)) (by rw [ed]; exact True.intro) (.inl rfl) k there (exd_ok hn (relO_put ry rel)))
end
/-- self.f = e, a further one -/
def tNxt (K : PySem.W.Frag) (C : Addr) (f : Str) (to te : TE) : TS := fun D σ H => te σ H fun y H1 => to σ H1 fun x H2 => ∃ (a dx : Addr) (fs : List (Str × V)), x = .ref a ∧ PySem.W.findIn K (.ref C) f = some none ∧ fs.length ≤ 900 ∧ H2 a = some (exo a C (some dx)) ∧ H2 dx = some (exd dx fs) ∧ D.nx σ (upd H2 dx (exd dx ((f, y) :: fs)))
theorem ps_nxt {X : Cx} {C : Addr} {f : Str} {o e : Expr} {to te : TE} {p' pos : Pos} {B newId initId : String} {bmB : List Value} (T : OexB X.K C B newId initId bmB) (ho : PE X o to) (he : PE X e te) (hs : swapsWith e (some (.Attribute o f p')) pos.line X.env = pure false := by rfl) :
    PS X (.Assign [.Attribute o f p'] e pos) (tNxt X.K C f to te) := by
  refine ⟨fun pins s σ H D I h => ?_⟩
  refine plainObj_wpAny_Assign_Attribute (thn (he.run pins s σ H _ I h) fun v s1 ⟨y, H1, I1, r1, q1⟩ => thn (ho.run pins s1 σ H1 _ I1 q1) fun u s2 ⟨x, H2, I2, r2, a, dx, fs, ex, hno, hl, ea, ed, q⟩ => ?_) hs
  subst ex
  obtain rfl : u = Value.ref a := r2
  exact field_next T I2 ea ed hl hno r1 fun s' J => ⟨σ, _, J, q⟩
/-- __init__(self, v, u) that keeps both -/
def spTwo (C : Addr) (f g : Str) : Sp := fun vs H Q _ => ∃ (a : Addr) (v u : V), vs = [.ref a, v, u] ∧ H a = some (exo a C none) ∧ ∀ dx, H dx = none → dx ≠ a → Q .non (upd (upd (upd H dx (exd dx [(f, v)])) a (exo a C (some dx))) dx (exd dx [(g, u), (f, v)]))
/-! ### C(..) as a value -/
structure Ry (P : Program) (w : World) (K : PySem.W.Frag) (mg : Str → Option Value) (base : Heap) (x : Str) (C : Addr) (qual : Str) (st : Stmt) (ps : List Str) (sp : Sp) : Prop where
  ex : ∃ (B newId initId : String) (bmB : List Value) (fI : Addr) (fd : FuncData), OexB K C B newId initId bmB ∧ mg x = some (.ref C) ∧ PySem.W.findIn K (.ref C) "__init__" = some (some (.ref fI)) ∧ PySem.W.typeIn K (.ref fI) = some (.type "function") ∧
    FnOk P w K mg base CX0 1 fI fd ps sp ∧ Fun K "__init__" qual st fI fd ∧ Binds K fd ps []
def gPos {α : Type} (us _ws : List α) : List α := us
theorem kb_pos {K : PySem.W.Frag} {fd : FuncData} {ps : List Str} (hb : Binds K fd ps []) : KB K fd ps [] gPos :=
  ⟨fun s us ws X l => by
    have z := hb s us X (by rw [List.append_nil]; exact l)
    rw [List.append_nil] at z
    exact z, fun r _ => r, fun r _ => r⟩
def tXv (C : Addr) (sp : Sp) (gV : List V → List V → List V) (t tk : TA) : TE := fun σ H Q => t σ H fun vs H1 => tk σ H1 fun zs H2 => vs.length ≤ 1000 ∧ ∀ a, H2 a = none → sp (gV (.ref a :: vs) zs) (upd H2 a (exo a C none)) (fun z H3 => z = .non ∧ Q (.ref a) H3) fun _ _ _ => False
section
variable {X : Cx} {x qual : Str} {C : Addr} {st : Stmt} {ps ks : List Str} {sp : Sp} {j : Nat} {p pos : Pos} {g : {α : Type} → List α → List α → List α}
theorem run_xv {pins : List (Addr × Obj)} {σ : L2.St} {H : Hp} {s : Shared} {Q : VK} {us ws : List Value} {vs zs : List V} {B newId initId : String} {bmB : List Value} {fI : Addr} {fd : FuncData} (T : OexB X.K C B newId initId bmB)
    (iC : PySem.W.findIn X.K (.ref C) "__init__" = some (some (.ref fI))) (tI : PySem.W.typeIn X.K (.ref fI) = some (.type "function")) (F : FnOk X.prog X.w X.K X.mg X.base CX0 1 fI fd ps sp) (kb : KB X.K fd ps ks g) (hr : Room j X.A) (hk : 2 ≤ j) (I : Inv X pins σ H s) (r : Vals vs us) (rz : Vals zs ws) (hl : vs.length ≤ 1000)
    (h : ∀ a, H a = none → sp (g (.ref a :: vs) zs) (upd H a (exo a C none)) (fun z H2 => z = .non ∧ Q (.ref a) H2) fun _ _ _ => False) :
    wpAny (model X.prog X.w) X.A (call (.ref C) us (ks.zip ws)) (EP X pins σ Q) X.xe s := by
  obtain ⟨nm, q, N, bs, bm, sn, sub, ab, col, dd, k0, k1, k2, k3, k5, hC, hbm⟩ := T.cls
  obtain ⟨hp, gn, dr, tk, os⟩ := s
  have na : H (hp.objs.size + 1) = none := I.hok.fresh (Nat.le_succ _)
  have hq := h (hp.objs.size + 1) na
  have grow : ∀ b o, hp.get? b = some o → ((hp.push (PySem.W.kdv_tup us)).push (PySem.HandSPX.excO C hp.objs.size)).get? b = some o := fun b o e => Heap.get?_push_of_some _ (Heap.get?_push_of_some _ e)
  have new1 : ((hp.push (PySem.W.kdv_tup us)).push (PySem.HandSPX.excO C hp.objs.size)).get? (hp.objs.size + 1) = some (PySem.HandSPX.excO C hp.objs.size) := by heap_get
  have I2 : Inv X pins σ (upd H (hp.objs.size + 1) (exo (hp.objs.size + 1) C none)) ⟨(hp.push (PySem.W.kdv_tup us)).push (PySem.HandSPX.excO C hp.objs.size), gn, dr, tk, os⟩ :=
    I.laid (t' := tk) (o := exo (hp.objs.size + 1) C none) grow (Nat.le_succ _) (exo_ok new1)
  have r1 : Vals (V.ref (hp.objs.size + 1) :: vs) (Value.ref (hp.objs.size + 1) :: us) := .cons rfl r
  have r2 := kb.relV r1 rz
  have hus : us.length ≤ sizeLine := by rw [← r.length, sizeLine_eq]; omega
  have hln : (g (Value.ref (hp.objs.size + 1) :: us) ws).length = ps.length := by rw [← r2.length]; exact F.len _ _ _ _ hq
  refine wpAny_call (kwx_call T.base (fun Y => PySem.W.excTail_contains Y bm hbm) (I.kIn _ _ hC) (PySem.W.looks_findIn I.kIn iC) (fun self => PySem.W.bind_fn I.kIn self tI) hus
    (codeAny_mono (F.run _ X.stack _ _ ⟨Value.ref (hp.objs.size + 1) :: us, ks.zip ws⟩ (g (Value.ref (hp.objs.size + 1) :: us) ws) _ _ (fun _ _ _ => False) ((hr.mono hk).make C us (ks.zip ws)) (I2.env0.make C us (ks.zip ws)) (kb.to _ _ ws I2.kIn hln) r2 hq) fun r s' hq' => ?_))
  cases r with
  | error er => exact False.elim hq'
  | ok fl =>
    cases fl with
    | ret u =>
      obtain ⟨v, H', I3, rv, ev, q3⟩ := I2.after hq'
      subst ev
      exact ⟨rv, ⟨V.ref (hp.objs.size + 1), H', I3, rfl, q3⟩⟩
    | next => exact False.elim hq'
    | brk => exact False.elim hq'
    | cont => exact False.elim hq'
theorem pe_xv {e : Expr} {es : List Expr} {t : TA} (R : Ry X.prog X.w X.K X.mg X.base x C qual st ps sp) (hr : Room j X.A) (hk : 2 ≤ j) (ha : PA X (e :: es) t) (hg : Gl X x := by rfl)
    (hdb : (x == ("__debug__" : Str)) = false := by decide) (he : starEach (e :: es) X.env = (false, eval e X.env) :: starEach es X.env := by rfl) (hpl : (backTo pos (starEach es X.env)).any (·.1) = false := by rfl) :
    PE X (.Call (.Name x p) (e :: es) [] pos) (tXv C sp gPos t tNil) := by
  obtain ⟨B, newId, initId, bmB, fI, fd, T, hm, iC, tI, F, _, b⟩ := R.ex
  refine ⟨fun pins s σ H Q I h => ?_⟩
  refine wpAny_Call_Name_kw (ld_glob I hg hm ?_ hdb)
  refine PySem.W.callWith_K (h₀ := X.base) I.ok.mod.kin T.kC (thn (ha.run pos pins s σ H _ I h) fun us s1 ⟨vs, H1, I1, r1, hl, q1⟩ => ⟨I1.kIn, ?_⟩) he hpl
  exact run_xv (ws := []) (zs := []) T iC tI F (kb_pos b) hr hk I1 r1 .nil hl q1
theorem pe_xvK {kws : List Keyword} {tk : TA} (R : Ry X.prog X.w X.K X.mg X.base x C qual st ps sp) (b : KwFn "__init__" qual st ps ks g) (hr : Room j X.A) (hk : 2 ≤ j) (hkw : PK X kws tk) (hg : Gl X x := by rfl)
    (hall : (backToKw pos (keywordEach kws X.env)).all (·.1.isSome) = true := by rfl) (hks : (backToKw pos (keywordEach kws X.env)).filterMap (·.1) = ks := by rfl) (hdb : (x == ("__debug__" : Str)) = false := by decide)
    (hpl : ((backTo pos (starEach [] X.env)).any (·.1) || (backToKw pos (keywordEach kws X.env)).any (·.1.isNone)) = false := by rfl) :
    PE X (.Call (.Name x p) [] kws pos) (tXv C sp g tNil tk) := by
  obtain ⟨B, newId, initId, bmB, fI, fd, T, hm, iC, tI, F, Fn, _⟩ := R.ex
  refine ⟨fun pins s σ H Q I h => ?_⟩
  refine wpAny_Call_Name_kw (ld_glob I hg hm ?_ hdb)
  refine PySem.W.callWith_KW0 (h₀ := X.base) I.ok.mod.kin T.kC hall ?_ hpl
  refine thn (hkw.run pos pins s σ H _ I h) fun ws s2 ⟨zs, H2, I2, rz, hl, q2⟩ => ⟨I2.kIn, ?_⟩
  rw [hks]
  exact run_xv (us := []) (vs := []) T iC tI F (b X.K fI fd Fn) hr hk I2 .nil rz hl q2
end
theorem exd_tbl {dx : Addr} {fs : List (Str × V)} : ∀ ps, exd dx fs ≠ .tbl ps := fun ps z => by
  have z' : HO.ext _ = HO.tbl ps := z
  cases z'
/-- a new error and its dict stay -/
theorem Con.newX {K : PySem.W.Frag} {F H : Hp} {M : MM} {a dx C : Addr} {fs : List (Str × V)} {ds : List D} (c : Con K F M H) (hd : H dx = none) (ha : H a = none) (hne : dx ≠ a) (dn : Dns K F (fs.map (·.2)) ds) :
    ∃ F', Same F F' ∧ Con K F' M (upd (upd H dx (exd dx fs)) a (exo a C (some dx))) ∧ Dn K F' (.ref a) (.exc C (fs.map (·.1)) ds) := by
  have s1 : Same F (upd F dx (exd dx fs)) := same_new (c.sub.free hd)
  have c1 := c.new (o := exd dx fs) hd exd_tbl
  have ha1 : upd H dx (exd dx fs) a = none := by rw [upd_ne (Ne.symm hne)]; exact ha
  have s2 : Same (upd F dx (exd dx fs)) (upd (upd F dx (exd dx fs)) a (exo a C (some dx))) := same_new (c1.sub.free ha1)
  refine ⟨_, s1.trans s2, c1.new ha1 (fun ps => exo_tbl), .exc upd_same (.inr ⟨dx, rfl, ?_⟩) rfl (dn.mono (s1.trans s2))⟩
  rw [upd_ne hne, upd_same]
theorem up3 {H : Hp} {a dx : Addr} {o1 o2 o3 : HO} (hne : dx ≠ a) : upd (upd (upd H a o1) dx o2) a o3 = upd (upd H dx o2) a o3 := by
  funext b
  by_cases hb : b = a
  · subst hb; rw [upd_same, upd_same]
  · rw [upd_ne hb, upd_ne hb]
    by_cases hd : b = dx
    · subst hd; rw [upd_same, upd_same]
    · rw [upd_ne hd, upd_ne hd, upd_ne hb]
theorem up4 {H : Hp} {a dx : Addr} {o1 o2 o3 o4 : HO} (hne : dx ≠ a) : upd (upd (upd (upd H a o1) dx o2) a o3) dx o4 = upd (upd H dx o4) a o3 := by
  funext b
  by_cases hd : b = dx
  · subst hd; rw [upd_same, upd_ne hne, upd_same]
  · rw [upd_ne hd]
    by_cases hb : b = a
    · subst hb; rw [upd_same, upd_same]
    · rw [upd_ne hb, upd_ne hb, upd_ne hd, upd_ne hd, upd_ne hb]
section
variable {X : Cx} {Γ : G} {M : MM} {pos p : Pos} {j : Nat} {x qual f f2 v v2 : Str} {C : Addr} {st : Stmt} {ps : List Str}
theorem one_done {F H : Hp} {vs : List V} {ds : List D} {R : VK} {Q : D → MM → Prop} (hR : Post X F Q R) (c1 : Con X.K F M H) (d1 : Dns X.K F vs ds) {d : D} (e : ds = [d]) (z : Q (.exc C [f] [d]) M) (a : Addr) (ha : H a = none) :
    spInit C f (.ref a :: vs) (upd H a (exo a C none)) (fun z H3 => z = .non ∧ R (.ref a) H3) fun _ _ _ => False := by
  subst e
  obtain ⟨u, rfl, dv⟩ := d1.one
  refine ⟨a, u, rfl, upd_same, fun dx hdx hne => ⟨rfl, ?_⟩⟩
  have hd : H dx = none := by rw [upd_ne hne] at hdx; exact hdx
  rw [up3 hne]
  obtain ⟨F', s', c', dn⟩ := c1.newX (C := C) (fs := [(f, u)]) hd ha hne (.cons dv .nil)
  exact hR F' _ M _ _ s' c' dn z
theorem two_done {F H : Hp} {vs : List V} {R : VK} {Q : D → MM → Prop} {d d2 : D} (hR : Post X F Q R) (c1 : Con X.K F M H) (d1 : Dns X.K F vs [d, d2]) (z : Q (.exc C [f2, f] [d2, d]) M) (a : Addr) (ha : H a = none) :
    spTwo C f f2 (.ref a :: vs) (upd H a (exo a C none)) (fun z H3 => z = .non ∧ R (.ref a) H3) fun _ _ _ => False := by
  obtain ⟨u, u2, rfl, dv, dv2⟩ := d1.two
  refine ⟨a, u, u2, rfl, upd_same, fun dx hdx hne => ⟨rfl, ?_⟩⟩
  have hd : H dx = none := by rw [upd_ne hne] at hdx; exact hdx
  rw [up4 hne]
  obtain ⟨F', s', c', dn⟩ := c1.newX (C := C) (fs := [(f2, u2), (f, u)]) hd ha hne (.cons dv2 (.cons dv .nil))
  exact hR F' _ M _ _ s' c' dn z
/-- C(e) -/
theorem we_xv1 {e : Expr} {Q : D → MM → Prop} (R : Ry X.prog X.w X.K X.mg X.base x C qual st ps (spInit C f)) (hr : Room j X.A) (hk : 2 ≤ j) (h : WE X e Γ M fun d M1 => Q (.exc C [f] [d]) M1) (hg : Gl X x := by rfl)
    (hdb : (x == ("__debug__" : Str)) = false := by decide) (he : starEach [e] X.env = (false, eval e X.env) :: starEach [] X.env := by rfl) (hpl : (backTo pos (starEach [] X.env)).any (·.1) = false := by rfl) : WE X (.Call (.Name x p) [e] [] pos) Γ M Q := ⟨fun F σ H ho hc W hR => by
  refine ⟨_, pe_xv R hr hk pa_wp hg hdb he hpl, (wa_cons (h.imp fun d M1 z => wa_nil ⟨d, rfl, z⟩) he : WA X [e] Γ M fun ds M1 => ∃ d, ds = [d] ∧ Q (.exc C [f] [d]) M1) |>.run F σ H ho hc _ fun F1 H1 M1 vs ds e1 c1 d1 ⟨d, hd, z⟩ => ?_⟩
  refine ⟨by rw [d1.length, hd]; exact (by decide : (1 : Nat) ≤ 1000), fun a ha => ?_⟩
  exact one_done (Q := Q) (fun F' H' M' w z s => hR F' H' M' w z (e1.trans s)) c1 d1 hd z a ha⟩
/-- C(f = e) -/
theorem we_xvK1 {n : Option Str} {kp : Pos} {e : Expr} {Q : D → MM → Prop} (R : Ry X.prog X.w X.K X.mg X.base x C qual st ps (spInit C f)) (b : KwFn "__init__" qual st ps [v] (gKw 1 1 [0])) (hr : Room j X.A) (hk : 2 ≤ j) (h : WE X e Γ M fun d M1 => Q (.exc C [f] [d]) M1) (hg : Gl X x := by rfl)
    (hall : (backToKw pos (keywordEach [⟨n, e, kp⟩] X.env)).all (·.1.isSome) = true := by rfl) (hks : (backToKw pos (keywordEach [⟨n, e, kp⟩] X.env)).filterMap (·.1) = [v] := by rfl) (hdb : (x == ("__debug__" : Str)) = false := by decide)
    (hpl : ((backTo pos (starEach [] X.env)).any (·.1) || (backToKw pos (keywordEach [⟨n, e, kp⟩] X.env)).any (·.1.isNone)) = false := by rfl) : WE X (.Call (.Name x p) [] [⟨n, e, kp⟩] pos) Γ M Q := ⟨fun F σ H ho hc W hR => by
  refine ⟨_, pe_xvK R b hr hk pk_wp hg hall hks hdb hpl, (wk_cons (h.imp fun d M1 z => wk_nil ⟨d, rfl, z⟩) : WK X [⟨n, e, kp⟩] Γ M fun ds M1 => ∃ d, ds = [d] ∧ Q (.exc C [f] [d]) M1) |>.run F σ H ho hc _ fun F1 H1 M1 vs ds e1 c1 d1 ⟨d, hd, z⟩ => ?_⟩
  refine ⟨Nat.zero_le _, fun a ha => ?_⟩
  have hv : ∃ u, vs = [u] := by subst hd; obtain ⟨u, e, _⟩ := d1.one; exact ⟨u, e⟩
  obtain ⟨u, hu⟩ := hv
  have e2 : gKw 1 1 [0] [V.ref a] vs = V.ref a :: vs := by rw [hu]; rfl
  rw [e2]
  exact one_done (Q := Q) (fun F' H' M' w z s => hR F' H' M' w z (e1.trans s)) c1 d1 hd z a ha⟩
/-- C(e, e2) -/
theorem we_xv2 {e e2 : Expr} {Q : D → MM → Prop} (R : Ry X.prog X.w X.K X.mg X.base x C qual st ps (spTwo C f f2)) (hr : Room j X.A) (hk : 2 ≤ j) (h : WA X [e, e2] Γ M fun ds M1 => ∃ d d2, ds = [d, d2] ∧ Q (.exc C [f2, f] [d2, d]) M1) (hg : Gl X x := by rfl)
    (hdb : (x == ("__debug__" : Str)) = false := by decide) (he : starEach [e, e2] X.env = (false, eval e X.env) :: starEach [e2] X.env := by rfl) (hpl : (backTo pos (starEach [e2] X.env)).any (·.1) = false := by rfl) : WE X (.Call (.Name x p) [e, e2] [] pos) Γ M Q := ⟨fun F σ H ho hc W hR => by
  refine ⟨_, pe_xv R hr hk pa_wp hg hdb he hpl, h.run F σ H ho hc _ fun F1 H1 M1 vs ds e1 c1 d1 ⟨d, d2, hd, z⟩ => ?_⟩
  subst hd
  refine ⟨by rw [d1.length]; exact (by decide : (2 : Nat) ≤ 1000), fun a ha => ?_⟩
  exact two_done (Q := Q) (fun F' H' M' w z s => hR F' H' M' w z (e1.trans s)) c1 d1 z a ha⟩
/-- C(g = e2, f = e) -/
theorem we_xvK2 {n n2 : Option Str} {kp kp2 : Pos} {e e2 : Expr} {Q : D → MM → Prop} (R : Ry X.prog X.w X.K X.mg X.base x C qual st ps (spTwo C f f2)) (b : KwFn "__init__" qual st ps [v2, v] (gKw 1 2 [1, 0])) (hr : Room j X.A) (hk : 2 ≤ j)
    (h : WK X [⟨n2, e2, kp2⟩, ⟨n, e, kp⟩] Γ M fun ds M1 => ∃ d d2, ds = [d2, d] ∧ Q (.exc C [f2, f] [d2, d]) M1) (hg : Gl X x := by rfl)
    (hall : (backToKw pos (keywordEach [⟨n2, e2, kp2⟩, ⟨n, e, kp⟩] X.env)).all (·.1.isSome) = true := by rfl) (hks : (backToKw pos (keywordEach [⟨n2, e2, kp2⟩, ⟨n, e, kp⟩] X.env)).filterMap (·.1) = [v2, v] := by rfl) (hdb : (x == ("__debug__" : Str)) = false := by decide)
    (hpl : ((backTo pos (starEach [] X.env)).any (·.1) || (backToKw pos (keywordEach [⟨n2, e2, kp2⟩, ⟨n, e, kp⟩] X.env)).any (·.1.isNone)) = false := by rfl) : WE X (.Call (.Name x p) [] [⟨n2, e2, kp2⟩, ⟨n, e, kp⟩] pos) Γ M Q := ⟨fun F σ H ho hc W hR => by
  refine ⟨_, pe_xvK R b hr hk pk_wp hg hall hks hdb hpl, h.run F σ H ho hc _ fun F1 H1 M1 vs ds e1 c1 d1 ⟨d, d2, hd, z⟩ => ?_⟩
  subst hd
  refine ⟨Nat.zero_le _, fun a ha => ?_⟩
  obtain ⟨u2, u, rfl, dv2, dv⟩ := d1.two
  have e2 : gKw 1 2 [1, 0] [V.ref a] [u2, u] = V.ref a :: [u, u2] := rfl
  rw [e2]
  exact two_done (Q := Q) (fun F' H' M' w z s => hR F' H' M' w z (e1.trans s)) c1 (.cons dv (.cons dv2 .nil)) z a ha⟩
/-- C(), nothing of its own -/
theorem pe_xv0 (R : RnL X.K X.mg x C) (hg : Gl X x := by rfl) (hdb : (x == ("__debug__" : Str)) = false := by decide) : PE X (.Call (.Name x p) [] [] pos) (fun _ H Q => ∀ a, H a = none → Q (.ref a) (upd H a (exo a C none))) := by
  obtain ⟨B, newId, initId, bmB, EB, ei, hm, kC, h1, h2⟩ := R.ex
  refine ⟨fun pins s σ H Q I h => ?_⟩
  refine wpAny_Call_Name_kw (ld_glob I hg hm ?_ hdb)
  refine PySem.W.callWith_K0 I.kIn kC ?_
  obtain ⟨bm, N, nm, qn, bs, hdct, sn, sub, ab, col, dd, k0, k1, k2, k3, k5, mN, hC, hN, hni, T⟩ := L2.exc_obj I.kIn ei
  refine wpAny_call_exc_subT EB T hC hN hni (fun h' a made => ?_) (Nat.zero_le _)
  have hn : H a = none := I.hok.gone made.new
  obtain ⟨t, ht, _, _⟩ := made.there
  exact ⟨.ref a, upd H a (exo a C none), I.laidN made.keeps made.new hn (exo_ok ht), rfl, h a hn⟩
theorem we_xv0 {Q : D → MM → Prop} (R : RnL X.K X.mg x C) (q : Q (.exc C [] []) M) (hg : Gl X x := by rfl) (hdb : (x == ("__debug__" : Str)) = false := by decide) : WE X (.Call (.Name x p) [] [] pos) Γ M Q := ⟨fun F σ H ho hc W hR => by
  refine ⟨_, pe_xv0 R hg hdb, fun a ha => ?_⟩
  exact hR (upd F a (exo a C none)) _ M _ _ (same_new (hc.sub.free ha)) (hc.new ha (fun ps => exo_tbl)) (.exc (od := none) (fs := []) upd_same (.inl ⟨rfl, rfl⟩) rfl .nil) q⟩
end
/-! ### what is asked of such a value -/
section
variable {X : Cx} {Γ : G} {M : MM} {pos p p1 p2 p3 : Pos} {x f : Str} {C : Addr}
theorem inst_v {pins : List (Addr × Obj)} {σ : L2.St} {H : Hp} {s : Shared} {a : Addr} {od : Option Addr} {fs : List (Str × V)} (I : Inv X pins σ H s) (h1 : H a = some (exo a C od)) (h2 : ExcD H od fs) :
    ∃ o ob, PySem.W.InstAt s.heap a o C ob ∧ ∀ name v, fs.lookup name = some v → ∃ oo u, ob = some oo ∧ RelV v u ∧ PySem.W.lookIn name oo = some (some u) := by
  obtain ⟨t1, ho⟩ := exo_at I.hok h1
  rcases h2 with ⟨k1, k2⟩ | ⟨dx, k1, k2⟩
  · subst k1 k2
    exact ⟨_, none, ⟨ho, rfl, rfl, trivial⟩, fun name v e => by cases e⟩
  · subst k1
    obtain ⟨mA, hns, rel⟩ := exd_at I.hok k2
    obtain ⟨od, ho2, hl⟩ := lookIn_ns hns
    refine ⟨_, some od, ⟨ho, rfl, rfl, ho2⟩, fun name v e => ?_⟩
    obtain ⟨u, hu, ru⟩ := RelO.some_of (v := v) (o := mA name) (by rw [← e]; exact rel name)
    exact ⟨od, u, rfl, ru, by rw [hl, hu]⟩
theorem call_isV (T : ExcC X.K C) : CallR X (.builtin "isinstance") (fun xs H Q => ∃ (a : Addr) (od : Option Addr) (fs : List (Str × V)) (c : V) (cv : Value) (b : Bool), xs = [.ref a, c] ∧ H a = some (exo a C od) ∧ ExcD H od fs ∧ (∀ u, RelV c u → u = cv) ∧ PySem.W.kitOne X.K (.ref C) cv = some b ∧ Q (.bl b) H) := by
  intro pins s σ H xs us Q I r h
  obtain ⟨a, od, fs, c, cv, b, rfl, k1, k2, hcv, e, q⟩ := h
  cases r with
  | cons rx rr =>
    cases rr with
    | cons rt rr =>
      cases rr
      cases rx
      obtain rfl := hcv _ rt
      obtain ⟨o, ob, J, _⟩ := inst_v I k1 k2
      obtain ⟨cd, hcd, _⟩ := PySem.W.any_some T.hd
      exact PySem.W.kia_one (PySem.W.kitx_exc (by rw [hcd]; rfl) T.hg T.hk T.hs T.ha T.hn T.ht T.hm) I.kIn J e (fun z => nomatch z) fun tk => ⟨.bl b, H, I.kept (t' := tk) fun _ _ z => z, rfl, q⟩
/-- isinstance(e, c) of an error that is a value -/
theorem we_isV {e : Expr} {cv : Value} {b : Bool} {Q : D → MM → Prop} (T : ExcC X.K C) (hmi : X.mg "isinstance" = none) (hc : X.mg x = some cv ∧ (∃ a, cv = .ref a) ∨ X.mg x = none ∧ bootBuiltins x = some cv ∧ x ≠ "__name__" ∧ ∃ t, cv = .type t) (hk : PySem.W.kitOne X.K (.ref C) cv = some b)
    (h : WE X e Γ M fun y M1 => ∃ ns es, y = .exc C ns es ∧ Q (.bl b) M1) (hg : Gl X x := by rfl) (hgi : Gl X "isinstance" := by rfl) (hdb : (x == ("__debug__" : Str)) = false := by decide)
    (hst : starEach [e, .Name x p2] X.env = [(false, eval e X.env), (false, eval (.Name x p2) X.env)] := by rfl) : WE X (.Call (.Name "isinstance" p1) [e, .Name x p2] [] pos) Γ M Q := ⟨fun F σ H ho hco W hR => by
  have name : ∃ v : V, PE X (.Name x p2) (tC v) ∧ ∀ u, RelV v u → u = cv := by
    rcases hc with ⟨h1, a, h2⟩ | ⟨h1, h2, h3, t, h4⟩
    · subst h2
      exact ⟨.ref a, pe_glob hg h1 rfl hdb, fun u r => r⟩
    · subst h4
      exact ⟨.ty t, pe_bltn hg h1 h2 rfl h3 hdb, fun u r => r⟩
  obtain ⟨v, pv, rv⟩ := name
  refine ⟨_, pe_callB (call_isV T) hgi hmi (by decide +kernel) (pa_cons pe_wp (pa_cons pv pa_nil) hst) (by decide) (by decide) hst, h.run F σ H ho hco _ fun F1 H1 M1 u y e1 c1 d1 ⟨ns, es, hy, q⟩ => ?_⟩
  subst hy
  cases d1 with
  | @exc a _ od fs _ _ k1 k2 k3 k4 => exact ⟨a, od, fs, v, cv, b, rfl, c1.sub _ _ k1, k2.mono c1.sub, rv, hk, hR F1 H1 M1 _ _ e1 c1 (.bl b) q⟩⟩
/-- e.f of such a value -/
theorem pe_vfld {e : Expr} {te : TE} (T : XfC X.K C) (hno : PySem.W.findIn X.K (.ref C) f = some none) (he : PE X e te) (hb : attributeBase e f X.env (eval e X.env) = eval e X.env) :
    PE X (.Attribute e f pos) (fun σ H Q => te σ H fun x H1 => ∃ (a : Addr) (od : Option Addr) (fs : List (Str × V)) (v : V), x = .ref a ∧ H1 a = some (exo a C od) ∧ ExcD H1 od fs ∧ fs.lookup f = some v ∧ Q v H1) := by
  refine ⟨fun pins s σ H Q I h => ?_⟩
  refine attr_of hb (thn (he.run pins s σ H _ I h) fun u s1 ⟨x, H1, I1, rx, a, od, fs, v, ex, k1, k2, l, q⟩ => ?_)
  subst ex
  obtain rfl : u = Value.ref a := rx
  obtain ⟨o, ob, J, hl⟩ := inst_v I1 k1 k2
  obtain ⟨oo, u, eo, ru, lu⟩ := hl _ _ l
  subst eo
  exact HandSPX.exc_get I1.kIn J T.ga T.gg T.exC (PySem.W.findObj_own T.hdC hno rfl lu) (handed_of ru) ⟨v, H1, I1.tok _, ru, q⟩
theorem we_vfld {e : Expr} {Q : D → MM → Prop} (T : XfC X.K C) (hno : PySem.W.findIn X.K (.ref C) f = some none) (h : WE X e Γ M fun y M1 => ∃ ns es v, y = .exc C ns es ∧ getN f ns es = some v ∧ Q v M1) (hb : attributeBase e f X.env (eval e X.env) = eval e X.env := by rfl) :
    WE X (.Attribute e f pos) Γ M Q := ⟨fun F σ H ho hco W hR => by
  refine ⟨_, pe_vfld T hno pe_wp hb, h.run F σ H ho hco _ fun F1 H1 M1 u y e1 c1 d1 ⟨ns, es, v, hy, g, q⟩ => ?_⟩
  subst hy
  cases d1 with
  | @exc a _ od fs _ _ k1 k2 k3 k4 =>
    subst k3
    obtain ⟨w, l1, l2⟩ := getN_at k4 g
    exact ⟨a, od, fs, w, rfl, c1.sub _ _ k1, k2.mono c1.sub, l1, hR F1 H1 M1 w v e1 c1 l2 q⟩⟩
end
end DL

set_option Elab.async false
set_option linter.all false
set_option autoImplicit false
set_option maxRecDepth 100000
set_option maxHeartbeats 4000000
namespace DL
open PySem L2 PySem.Spec PyProof.Rows
/-! ### an error at hand as a value -/
structure InHandV (X : Cx) (Γ : G) (C : Addr) (i : Nat) (ns : List Str) (es : List D) (i0 : Nat) (y : Str) : Prop where
  t : ErrW X.K X.mg C i
  h0 : Γ[i0]? = some (some (.exc C ns es))
  hN : X.N[i0]? = some y
  hv : Vis X.env.scope y
  mi : X.mg "isinstance" = none
section
variable {X : Cx} {Γ : G} {M : MM} {pos p1 p2 p3 : Pos} {x : Str} {C : Addr} {i : Nat} {ns : List Str} {es : List D} {Q : D → MM → Prop} {y : Str}
theorem we_isVW {i0 : Nat} (h : InHandV X Γ C i ns es i0 y) (j : Nat) (q : Q (.bl (decide (j = i))) M) (hx : errN[j]? = some x := by rfl) (hg : Gl X x := by rfl) (hgi : Gl X "isinstance" := by rfl) (hst : starEach [.Name y p3, .Name x p2] X.env = [(false, eval (.Name y p3) X.env), (false, eval (.Name x p2) X.env)] := by rfl)
    (hdb : (x == ("__debug__" : Str)) = false := by decide) (h1 : (y == ("__debug__" : Str)) = false := by decide) (h2 : (y == ("__classdict__" : Str)) = false := by decide) : WE X (.Call (.Name "isinstance" p1) [.Name y p3, .Name x p2] [] pos) Γ M Q := by
  obtain ⟨a, k1, k2⟩ := h.t.nm j x hx
  exact we_isV h.t.ex h.mi (.inl ⟨k1, a, rfl⟩) k2 (we_var i0 h.h0 ⟨ns, es, rfl, q⟩ h.hN h.hv h1 h2) hg hgi hdb hst
theorem we_isVB {i0 : Nat} (h : InHandV X Γ C i ns es i0 y) (j : Nat) (q : Q (.bl (decide (j = errK i))) M) (hx : errB[j]? = some x := by rfl) (hg : Gl X x := by rfl) (hgi : Gl X "isinstance" := by rfl) (hst : starEach [.Name y p3, .Name x p2] X.env = [(false, eval (.Name y p3) X.env), (false, eval (.Name x p2) X.env)] := by rfl)
    (hdb : (x == ("__debug__" : Str)) = false := by decide) (h1 : (y == ("__debug__" : Str)) = false := by decide) (h2 : (y == ("__classdict__" : Str)) = false := by decide) : WE X (.Call (.Name "isinstance" p1) [.Name y p3, .Name x p2] [] pos) Γ M Q := by
  obtain ⟨a, k1, k2⟩ := h.t.bs j x hx
  exact we_isV h.t.ex h.mi (.inl ⟨k1, a, rfl⟩) k2 (we_var i0 h.h0 ⟨ns, es, rfl, q⟩ h.hN h.hv h1 h2) hg hgi hdb hst
theorem we_isVP {i0 : Nat} {T : String} (h : InHandV X Γ C i ns es i0 y) (j : Nat) (q : Q (.bl (decide (j = errK i))) M) (hx : errP[j]? = some (x, T) := by rfl) (hg : Gl X x := by rfl) (hgi : Gl X "isinstance" := by rfl) (hst : starEach [.Name y p3, .Name x p2] X.env = [(false, eval (.Name y p3) X.env), (false, eval (.Name x p2) X.env)] := by rfl)
    (hdb : (x == ("__debug__" : Str)) = false := by decide) (h1 : (y == ("__debug__" : Str)) = false := by decide) (h2 : (y == ("__classdict__" : Str)) = false := by decide) : WE X (.Call (.Name "isinstance" p1) [.Name y p3, .Name x p2] [] pos) Γ M Q := by
  obtain ⟨k1, k2, k3, k4⟩ := h.t.pl j x T hx
  exact we_isV h.t.ex h.mi (.inr ⟨k1, k2, k3, T, rfl⟩) k4 (we_var i0 h.h0 ⟨ns, es, rfl, q⟩ h.hN h.hv h1 h2) hg hgi hdb hst
theorem we_vgiven {i0 : Nat} {v : D} (h : InHandV X Γ C i ns es i0 y) (hg : getN "given" ns es = some v) (q : Q v M) (hb : attributeBase (.Name y p3) "given" X.env (eval (.Name y p3) X.env) = eval (.Name y p3) X.env := by rfl)
    (h1 : (y == ("__debug__" : Str)) = false := by decide) (h2 : (y == ("__classdict__" : Str)) = false := by decide) : WE X (.Attribute (.Name y p3) "given" pos) Γ M Q :=
  we_vfld h.t.xf h.t.ng (we_var i0 h.h0 ⟨ns, es, v, rfl, hg, q⟩ h.hN h.hv h1 h2) hb
theorem we_vindex {i0 : Nat} {v : D} (h : InHandV X Γ C i ns es i0 y) (hg : getN "index" ns es = some v) (q : Q v M) (hb : attributeBase (.Name y p3) "index" X.env (eval (.Name y p3) X.env) = eval (.Name y p3) X.env := by rfl)
    (h1 : (y == ("__debug__" : Str)) = false := by decide) (h2 : (y == ("__classdict__" : Str)) = false := by decide) : WE X (.Attribute (.Name y p3) "index" pos) Γ M Q :=
  we_vfld h.t.xf h.t.ni (we_var i0 h.h0 ⟨ns, es, v, rfl, hg, q⟩ h.hN h.hv h1 h2) hb
theorem we_vshown {i0 : Nat} {v : D} (h : InHandV X Γ C i ns es i0 y) (hs : PySem.W.findIn X.K (.ref C) "shown" = some none) (hg : getN "shown" ns es = some v) (q : Q v M) (hb : attributeBase (.Name y p3) "shown" X.env (eval (.Name y p3) X.env) = eval (.Name y p3) X.env := by rfl)
    (h1 : (y == ("__debug__" : Str)) = false := by decide) (h2 : (y == ("__classdict__" : Str)) = false := by decide) : WE X (.Attribute (.Name y p3) "shown" pos) Γ M Q :=
  we_vfld h.t.xf hs (we_var i0 h.h0 ⟨ns, es, v, rfl, hg, q⟩ h.hN h.hv h1 h2) hb
end
/-! ### what the top says of such a class -/
structure RyL (K : PySem.W.Frag) (mg : Str → Option Value) (x : Str) (C : Addr) (qual : Str) (st : Stmt) (f : Str) : Prop where
  ex : ∀ (P : Program) (w : World) (base : Heap), Ry P w K mg base x C qual st ["self", f] (spInit C f)
structure Ry2L (K : PySem.W.Frag) (mg : Str → Option Value) (x : Str) (C : Addr) (qual : Str) (st : Stmt) (f g : Str) : Prop where
  ex : ∀ (P : Program) (w : World) (base : Heap), Ry P w K mg base x C qual st ["self", f, g] (spTwo C f g)
  ng : PySem.W.findIn K (.ref C) g = some none
theorem ryl_look {K : PySem.W.Frag} {h : Heap} {mg : Str → Option Value} {x qual f : Str} {C fI : Addr} {st : Stmt} {B newId initId : String} {bmB : List Value} {p1 p2 p3 p4 : Pos} (X : K.In h) (G : h.Ns mainGlobals mg)
    (EB : ExcBaseFacts B newId initId bmB) (SF : PySem.StoreFacts B bmB "object.__setattr__" "object") (n : PySem.W.nsIn K mainGlobals x = some (some (.ref C)))
    (cl : clsB K C newId bmB = true) (ov : PySem.W.excOver K C bmB = true) (sa : PySem.W.findIn K (.ref C) "__setattr__" = some (some (.builtin "object.__setattr__")))
    (exC : PySem.W.subIn K (.ref C) (.type "BaseException") = some true) (tyC : PySem.W.typeIn K (.ref C) = some (.type "type")) (kC : PySem.W.keepIn K (.ref C) = true)
    (hno : PySem.W.findIn K (.ref C) f = some none) (iC : PySem.W.findIn K (.ref C) "__init__" = some (some (.ref fI))) (tI : PySem.W.typeIn K (.ref fI) = some (.type "function"))
    (s : StandsL K "__init__" qual st fI) (S : FnScope ["self", f] ["self", f] (defScope st)) (hb : defBody st = [.Assign [.Attribute (.Name "self" p1) f p2] (.Name f p3) p4])
    (b : ∀ (kV doc pm : Value) (an : Option Addr) (cdv ct : Value) (us : List Value), us.length = (["self", f] : List Str).length → bindArgs (PySem.W.fnOf "__init__" qual (defArgs st) (defBody st) (defScope st) .none kV doc pm an cdv ct) ⟨us, []⟩ = pure ((["self", f] : List Str).zip us))
    (s1 : Vis (defScope st) "self") (s2 : Vis (defScope st) f) (d1 : (f == ("__debug__" : Str)) = false) (d2 : (f == ("__classdict__" : Str)) = false) : RyL K mg x C qual st f := by
  obtain ⟨oc, od, kV, dc, pm, an, cd, ct, sl, l, ci⟩ := s.at_
  have F : Fun K "__init__" qual st fI _ := fun_mk l ci s.kp
  refine ⟨fun P w base => ⟨B, newId, initId, bmB, fI, _, ⟨EB, SF, clsB_ok cl, ov, sa, exC, tyC, kC⟩, PySem.W.mg_of X G n, iC, tI, ?_, F, F.binds b⟩⟩
  refine F.ok S (fun vs H Q E ⟨a, y, e, _⟩ => by rw [e]; rfl) fun cdv A outer s H vs Q E hr ⟨a, y, e, h1, h2⟩ => ?_
  subst e
  rw [hb]
  refine ⟨_, pss_one (ps_fst ⟨EB, SF, clsB_ok cl, ov, sa, exC, tyC, kC⟩ (pe_var (i := 0) rfl s1 (by decide) (by decide)) (pe_var (i := 1) rfl s2 d1 d2)), ?_⟩
  exact ⟨y, rfl, .ref a, rfl, a, rfl, hno, h1, fun dx n ne => h2 dx n ne⟩
theorem ry2l_look {K : PySem.W.Frag} {h : Heap} {mg : Str → Option Value} {x qual f g : Str} {C fI : Addr} {st : Stmt} {B newId initId : String} {bmB : List Value} {p1 p2 p3 p4 q1 q2 q3 q4 : Pos} (X : K.In h) (G : h.Ns mainGlobals mg)
    (EB : ExcBaseFacts B newId initId bmB) (SF : PySem.StoreFacts B bmB "object.__setattr__" "object") (n : PySem.W.nsIn K mainGlobals x = some (some (.ref C)))
    (cl : clsB K C newId bmB = true) (ov : PySem.W.excOver K C bmB = true) (sa : PySem.W.findIn K (.ref C) "__setattr__" = some (some (.builtin "object.__setattr__")))
    (exC : PySem.W.subIn K (.ref C) (.type "BaseException") = some true) (tyC : PySem.W.typeIn K (.ref C) = some (.type "type")) (kC : PySem.W.keepIn K (.ref C) = true)
    (hno : PySem.W.findIn K (.ref C) f = some none) (hno2 : PySem.W.findIn K (.ref C) g = some none) (iC : PySem.W.findIn K (.ref C) "__init__" = some (some (.ref fI))) (tI : PySem.W.typeIn K (.ref fI) = some (.type "function"))
    (s : StandsL K "__init__" qual st fI) (S : FnScope ["self", f, g] ["self", f, g] (defScope st)) (hb : defBody st = [.Assign [.Attribute (.Name "self" p1) f p2] (.Name f p3) p4, .Assign [.Attribute (.Name "self" q1) g q2] (.Name g q3) q4])
    (b : ∀ (kV doc pm : Value) (an : Option Addr) (cdv ct : Value) (us : List Value), us.length = (["self", f, g] : List Str).length → bindArgs (PySem.W.fnOf "__init__" qual (defArgs st) (defBody st) (defScope st) .none kV doc pm an cdv ct) ⟨us, []⟩ = pure ((["self", f, g] : List Str).zip us))
    (s1 : Vis (defScope st) "self") (s2 : Vis (defScope st) f) (s3 : Vis (defScope st) g) (d1 : (f == ("__debug__" : Str)) = false) (d2 : (f == ("__classdict__" : Str)) = false) (d3 : (g == ("__debug__" : Str)) = false) (d4 : (g == ("__classdict__" : Str)) = false) : Ry2L K mg x C qual st f g := by
  obtain ⟨oc, od, kV, dc, pm, an, cd, ct, sl, l, ci⟩ := s.at_
  have F : Fun K "__init__" qual st fI _ := fun_mk l ci s.kp
  refine ⟨fun P w base => ⟨B, newId, initId, bmB, fI, _, ⟨EB, SF, clsB_ok cl, ov, sa, exC, tyC, kC⟩, PySem.W.mg_of X G n, iC, tI, ?_, F, F.binds b⟩, hno2⟩
  refine F.ok S (fun vs H Q E ⟨a, y, u, e, _⟩ => by rw [e]; rfl) fun cdv A outer s H vs Q E hr ⟨a, y, u, e, h1, h2⟩ => ?_
  subst e
  rw [hb]
  have T : OexB K C B newId initId bmB := ⟨EB, SF, clsB_ok cl, ov, sa, exC, tyC, kC⟩
  refine ⟨_, pss_cons (ps_fst T (pe_var (i := 0) rfl s1 (by decide) (by decide)) (pe_var (i := 1) rfl s2 d1 d2)) (pss_one (ps_nxt T (pe_var (i := 0) rfl s1 (by decide) (by decide)) (pe_var (i := 2) rfl s3 d3 d4))), ?_⟩
  refine ⟨y, rfl, .ref a, rfl, a, rfl, hno, h1, fun dx n ne => ?_⟩
  refine ⟨u, rfl, .ref a, rfl, a, dx, [(f, y)], rfl, hno2, by show 1 ≤ 900; decide, upd_same, by rw [upd_ne ne, upd_same], ?_⟩
  exact h2 dx n ne
/-! ### data with dicts of scalars anywhere: what repr shows of them -/
mutual
def pyY : D → Option PyData
  | .non => some .none
  | .bl b => some (.bool b)
  | .int i => some (.int i)
  | .str s => some (.str s)
  | .lst ds => (pyYs ds).map .list
  | .tup ds => (pyYs ds).map .tuple
  | .dct ks ds => (scPs ds).map fun qs => .dict ((ks.map keyP).zip qs)
  | .frz _ => none
  | .raw _ => none
  | .ins _ _ _ => none
  | .pin _ _ => none
  | .exc _ _ _ => none
  | .xcp _ _ _ _ => none
def pyYs : List D → Option (List PyData)
  | [] => some []
  | d :: ds => (pyY d).bind fun x => (pyYs ds).map fun xs => x :: xs
end
structure SysK (K : PySem.W.Frag) : Prop where
  at_ : ∃ o, K.lookup sysModules = some o
section
variable {X : Cx} {pins : List (Addr × Obj)} {σ : L2.St} {H F : Hp} {s : Shared}
mutual
theorem read_y (I : Inv X pins σ H s) (e : Same F H) (S : SysK X.K) : ∀ {v : V} {d : D} {u : Value} {q : PyData}, Dn X.K F v d → RelV v u → pyY d = some q → ∃ as, Reads s.heap u q as ∧ sysModules ∉ as
  | _, _, _, _, .non, r, h => by simp only [pyY] at h; cases h; cases r; exact ⟨_, .none, List.not_mem_nil⟩
  | _, _, _, _, .bl b, r, h => by simp only [pyY] at h; cases h; cases r; exact ⟨_, .bool b, List.not_mem_nil⟩
  | _, _, _, _, .int i, r, h => by simp only [pyY] at h; cases h; obtain ⟨t, rfl⟩ := r; exact ⟨_, .int i t, List.not_mem_nil⟩
  | _, _, _, _, .str x, r, h => by simp only [pyY] at h; cases h; obtain ⟨t, rfl⟩ := r; exact ⟨_, .str x t, List.not_mem_nil⟩
  | _, _, _, _, .lst (a := a) h1 h2, r, h => by
    simp only [pyY] at h
    obtain ⟨qs, e1, rfl⟩ := Option.map_eq_some_iff.mp h
    cases r
    have hs := SqL.of (K := X.K) (e _ _ h1)
    obtain ⟨its, rv, ⟨o, n, ho, hc, _, hd⟩, _⟩ := I.list hs
    obtain ⟨as, hr, hn⟩ := reads_y I e S h2 rv e1
    refine ⟨_, .list ho hc hd hr, fun z => ?_⟩
    rcases List.mem_cons.mp z with z | z
    · obtain ⟨o2, ho2⟩ := S.at_
      have := (I.bs sysModules o2 (I.ok.mod.kin _ _ ho2)).2
      rw [z, e _ _ h1] at this
      cases this
    · exact hn z
  | _, _, _, _, .tup (a := a) h1 h2, r, h => by
    simp only [pyY] at h
    obtain ⟨qs, e1, rfl⟩ := Option.map_eq_some_iff.mp h
    cases r
    obtain ⟨its, rv, ⟨o, ho, hc, n, hd⟩, _⟩ := I.tuple (sqT_mono e h1)
    obtain ⟨as, hr, hn⟩ := reads_y I e S h2 rv e1
    exact ⟨_, .tuple ho hc hd hr, hn⟩
  | _, _, _, _, .dct (a := a) (kvs := kvs) (ks := ks) (ds := ds) k1 k2 k3, r, h => by
    simp only [pyY] at h
    obtain ⟨qs, e1, rfl⟩ := Option.map_eq_some_iff.mp h
    cases r
    obtain ⟨_, hd, vs, rel, o, es, ep, ho, hx, hdat, _, hp, _⟩ := dk_of I.hok (e _ _ k1)
    obtain ⟨r1, r2⟩ := pairs_read (h := s.heap) hp rel k3 e1
    rw [k2] at r1
    have hlen : (ks.map keyP).length = qs.length := by
      rw [List.length_map, scPs_len e1, ← k2, List.length_map, ← k3.length, List.length_map]
    have z1 : ((ks.map keyP).zip qs).map (·.1) = ks.map keyP := List.map_fst_zip (by omega)
    have z2 : ((ks.map keyP).zip qs).map (·.2) = qs := List.map_snd_zip (by omega)
    refine ⟨_, .dict ho hx.1 hdat (by rw [z1]; exact r1) (by rw [z2]; exact r2), fun hm => ?_⟩
    have := beq_eq_false_iff_ne.mp hd
    simp only [List.append_nil, List.mem_singleton] at hm
    exact this hm.symm
  | _, _, _, _, .raw _, _, h => by simp only [pyY] at h; cases h
  | _, _, _, _, .ins _ _ _, _, h => by simp only [pyY] at h; cases h
  | _, _, _, _, .pin _ _ _, _, h => by simp only [pyY] at h; cases h
  | _, _, _, _, .exc _ _ _ _, _, h => by simp only [pyY] at h; cases h
  | _, _, _, _, .xcp _ _ _, _, h => by simp only [pyY] at h; cases h
  | _, _, _, _, .frz _ _, _, h => by simp only [pyY] at h; cases h
theorem reads_y (I : Inv X pins σ H s) (e : Same F H) (S : SysK X.K) : ∀ {vs : List V} {ds : List D} {us : List Value} {qs : List PyData}, Dns X.K F vs ds → Vals vs us → pyYs ds = some qs → ∃ as, ReadsAll s.heap us qs as ∧ sysModules ∉ as
  | _, _, _, _, .nil, r, h => by simp only [pyYs] at h; cases h; cases r; exact ⟨_, .nil, List.not_mem_nil⟩
  | _, _, _, _, .cons h1 h2, r, h => by
    simp only [pyYs] at h
    obtain ⟨x, e1, h3⟩ := Option.bind_eq_some_iff.mp h
    obtain ⟨xs, e2, rfl⟩ := Option.map_eq_some_iff.mp h3
    cases r with
    | cons r1 r2 =>
      obtain ⟨as, q1, n1⟩ := read_y I e S h1 r1 e1
      obtain ⟨bs, q2, n2⟩ := reads_y I e S h2 r2 e2
      exact ⟨_, .cons q1 q2, fun z => (List.mem_append.mp z).elim n1 n2⟩
end
end
section
variable {X : Cx} {Γ : G} {M : MM} {pos p : Pos} {k j : Nat}
theorem call_reprY (S : SysK X.K) (hg : X.A.guards = some []) (hu : X.A.units + 200 < cLine) : CallR X (.builtin "repr") (fun xs H Q => ∃ F a d q, xs = [.ref a] ∧ Same F H ∧ Dn X.K F (.ref a) d ∧ pyY d = some q ∧ q.showable = true ∧ q.shown.length ≤ sizeLine ∧ q.depth ≤ 100 ∧ Q (.str q.shown) H) := by
  intro pins s σ H xs us Q I r h
  obtain ⟨F, a, d, q, rfl, e, hd, hx, hs, hz, hp, hq⟩ := h
  obtain ⟨u, rfl, ru⟩ := vals1 r
  obtain rfl : u = Value.ref a := ru
  obtain ⟨as, rd, hno⟩ := read_y I e S hd (rfl : RelV (.ref a) (.ref a)) hx
  refine repr_of_reads' rd hs (fun _ => hno) hg (by omega) (fun _ _ e => e) (fun h' u tk hk => ?_) hz
  exact ⟨.str q.shown, H, I.kept hk, ⟨u, rfl⟩, hq⟩
/-- repr(e), e any data -/
theorem we_reprY {e : Expr} {Q : D → MM → Prop} (S : SysK X.K) (hgu : X.A.guards = some []) (hr : Room j X.A) (hm : X.mg "repr" = none)
    (h : WE X e Γ M fun x M1 => ∃ q, pyY x = some q ∧ q.showable = true ∧ q.shown.length ≤ sizeLine ∧ q.depth ≤ 100 ∧ Q (.str q.shown) M1)
    (hst : starEach [e] X.env = [(false, eval e X.env)] := by rfl) (hg : Gl X "repr" := by rfl) : WE X (.Call (.Name "repr" p) [e] [] pos) Γ M Q := ⟨fun F σ H he hc W hR => by
  refine ⟨_, pe_callB (call_reprA.or (call_reprY S hgu (by have := hr.un; omega))) hg hm (by decide +kernel) (pa_cons pe_wp pa_nil hst) (by decide) (by decide) hst, h.run F σ H he hc _ fun F1 H1 M1 v x e1 c1 d1 ⟨q, hx, h1, h2, h3, h5⟩ => ?_⟩
  have fin : ∀ s : Str, q.shown = s → W (.str s) H1 := fun s e => by rw [← e]; exact hR F1 H1 M1 _ _ e1 c1 (.str _) h5
  have adr : ∀ a, v = .ref a → rReprA [v] H1 W ∨ ∃ F a d q, [v] = [V.ref a] ∧ Same F H1 ∧ Dn X.K F (.ref a) d ∧ pyY d = some q ∧ q.showable = true ∧ q.shown.length ≤ sizeLine ∧ q.depth ≤ 100 ∧ W (.str q.shown) H1 := fun a ea => by
    subst ea
    exact .inr ⟨F1, a, x, q, rfl, c1.sub, d1, hx, h1, h2, h3, fin _ rfl⟩
  cases d1 with
  | non => simp only [pyY] at hx; cases hx; exact .inl (.inr (.inr (.inr ⟨rfl, fin _ rfl⟩)))
  | bl b => simp only [pyY] at hx; cases hx; exact .inl (.inr (.inr (.inl ⟨b, rfl, fin _ rfl⟩)))
  | int i => simp only [pyY] at hx; cases hx; exact .inl (.inr (.inl ⟨i, rfl, of_decide_eq_true h1, fin _ rfl⟩))
  | str t => simp only [pyY] at hx; cases hx; exact .inl (.inl ⟨t, rfl, h2, fin _ rfl⟩)
  | pin s n h => simp only [pyY] at hx; cases hx
  | _ => exact adr _ rfl⟩
end
end DL

set_option Elab.async false
set_option linter.all false
set_option autoImplicit false
set_option maxRecDepth 100000
set_option maxHeartbeats 4000000
namespace T01
open PySem L2 DL

/-! ### small helps -/
theorem dec_and_l {p q : Prop} [Decidable p] [Decidable q] (h : decide p = true) : decide q = decide (p ∧ q) := by
  have h' := of_decide_eq_true h
  by_cases hq : q <;> simp [h', hq]
theorem dec_and_f {p q : Prop} [Decidable p] [Decidable q] (h : decide p = false) : false = decide (p ∧ q) := by
  have h' := of_decide_eq_false h
  simp [h']
theorem atI_ints' {ns : List Int} {i : Nat} {n z : Int} (hz : z = (i : Int)) (h : ns[i]? = some n) : atI (ns.map D.int) z = some (.int n) := by
  rw [hz]; exact atI_ints h
theorem getD_some {ns : List Int} {i : Nat} (h : i < ns.length) : ns[i]? = some (ns.getD i 0) := by
  rw [List.getD_eq_getElem?_getD, List.getElem?_eq_getElem h]
  rfl
theorem sz100 {n : Nat} (h : n ≤ 100000) : n ≤ sizeLine := Nat.le_trans h (by decide)
theorem szlt {n : Nat} (h : n < 100000) : n < sizeLine := Nat.lt_of_lt_of_le h (by decide)

/-! ### data -/
def clD (g G : Int) : Option Int → D
  | none => .tup [.int g, .int G]
  | some e => .tup [.int g, .int G, .int e]
theorem cl_ix0 {g G : Int} {o : Option Int} {M : MM} {Q : D → MM → Prop} (h : Q (.int g) M) : IxQ (clD g G o) (.int 0) M Q := by
  cases o <;> exact ⟨_, rfl, h⟩
theorem cl_ix1 {g G : Int} {o : Option Int} {M : MM} {Q : D → MM → Prop} (h : Q (.int G) M) : IxQ (clD g G o) (.int 1) M Q := by
  cases o <;> exact ⟨_, rfl, h⟩
structure ClOk (g G : Int) (o : Option Int) : Prop where
  g1 : 1 ≤ g
  gG : g < G
  G9 : G ≤ 9
def reach (g : Int) (o : Option Int) (i p : Int) : Int := match o with
  | none => p
  | some e => max p (e + i * g)
def dLeft (g G : Int) (ns : List Int) (i : Nat) (goal : Int) (k : Nat) : Int := max (goal - ((i : Int) - k) * G) (min (ns.getD k 0) (goal - ((i : Int) - k) * g))
def dRight (g G : Int) (ns : List Int) (i : Nat) (goal : Int) (k : Nat) : Int := max (goal + ((k : Int) + 1) * g) (min (ns.getD (i + 1 + k) 0) (goal + ((k : Int) + 1) * G))
/-- the standing behind a drawing of the ring i to its goal -/
def drawL (g G : Int) (ns : List Int) (i : Nat) (goal : Int) : List Int :=
  (List.range i).map (dLeft g G ns i goal) ++ goal :: (List.range (ns.length - (i + 1))).map (dRight g G ns i goal)

section
variable {P : Program} {w : World} {K : PySem.W.Frag} {mg : Str → Option Value} {base : Heap}

/-! ### kinds -/
def RisInt : RD := fun ds M Q => ∃ d t, ds = [d] ∧ tyD d = some t ∧ Q (.bl (decide (t = "int"))) M
def RisIndex : RD := fun ds M Q => ∃ i n : Int, ds = [.int i, .int n] ∧ Q (.bl (decide (0 ≤ i ∧ i < n))) M
def RisFilled : RD := fun ds M Q => ∃ xs, ds = [.tup xs] ∧ Q (.bl (decide ((0 : Int) < (xs.length : Int)))) M
/-! ### hanging -/
def Rclamped : RD := fun ds M Q => ∃ p l h : Int, ds = [.int p, .int l, .int h] ∧ Q (.int (max l (min p h))) M
def Rreached : RD := fun ds M Q => ∃ (g G : Int) (o : Option Int) (i p : Int), ds = [clD g G o, .int i, .int p] ∧ (-(2 ^ 64) < i ∧ i < 2 ^ 64) ∧ Q (.int (reach g o i p)) M
def Rdrawn : RD := fun ds M Q => ∃ (g G : Int) (o : Option Int) (ns : List Int) (i : Nat) (p : Int), ds = [clD g G o, tI ns, .int (i : Int), .int p] ∧ i < ns.length ∧ ns.length ≤ 1000 ∧ Q (tI (drawL g G ns i (reach g o i p))) M
end
end T01

set_option Elab.async false
set_option linter.all false
set_option autoImplicit false
set_option maxRecDepth 100000
set_option maxHeartbeats 4000000
namespace T01
open PySem L2 DL

/-! ### moves -/
inductive Mv where
  | draw (l : Bool) (j x : Int) | carry (x : Int) | off (l : Bool) | on (l : Bool) (x : Int) | some (x : Int)
abbrev side (l : Bool) : Str := if l = true then "left" else "right"
def mvD : Mv → D
  | .draw l j x => .tup [.str "draw", .str (side l), .int j, .int x]
  | .carry x => .tup [.str "carry", .str "", .int 0, .int x]
  | .off l => .tup [.str "off", .str (side l), .int 0, .int 0]
  | .on l x => .tup [.str "on", .str (side l), .int 1, .int x]
  | .some x => .tup [.str "some", .str "", .int 0, .int x]
def ringIx (l : Bool) (j : Int) (n : Nat) : Nat := if l = true then (j - 1).toNat else ((n : Int) - j).toNat
def cutEnd (l : Bool) (ns : List Int) : List Int := if l = true then ns.drop 1 else ns.dropLast
def hookEnd (l : Bool) (ns : List Int) : List Int := if l = true then ns.getD 0 0 :: ns else ns ++ [ns.getD (ns.length - 1) 0]
def drawTo (g G : Int) (o : Option Int) (ns : List Int) (i : Nat) (x : Int) : List Int := drawL g G ns i (reach g o i x)
/-- the standing behind a move -/
def mvNs (g G : Int) (o : Option Int) (ns : List Int) : Mv → List Int
  | .draw l j x => drawTo g G o ns (ringIx l j ns.length) x
  | .carry x => ns.map (· + x)
  | .off l => cutEnd l ns
  | .on l x => drawTo g G o (hookEnd l ns) (ringIx l 1 (ns.length + 1)) x
  | .some _ => ns
def mvCl (o : Option Int) : Mv → Option Int
  | .carry x => o.map (· + x)
  | _ => o
def needs : Mv → Int
  | .draw _ j _ => j
  | .off _ => 2
  | _ => 1
def gains : Mv → Int
  | .on _ _ => 1
  | .off _ => -1
  | _ => 0
theorem hookEnd_len {l : Bool} {ns : List Int} : (hookEnd l ns).length = ns.length + 1 := by cases l <;> simp [hookEnd]
theorem cut_from (ds : List D) (k : Nat) : cutD ds (some (k : Int)) none = ds.drop k := by
  unfold cutD
  rw [HT.sIx_nat, HT.sIx_none]
  by_cases h : k ≤ ds.length
  · rw [Nat.min_eq_left h]
    exact List.take_of_length_le (by rw [List.length_drop]; exact Nat.le_refl _)
  · rw [Nat.min_eq_right (by omega), List.drop_of_length_le (by omega), List.drop_of_length_le (by omega)]
    simp
theorem cut_to (ds : List D) (k : Nat) : cutD ds none (some (k : Int)) = ds.take k := by
  unfold cutD
  rw [HT.sIx_nat, HT.sIx_none, Nat.sub_zero, List.drop_zero]
  by_cases h : k ≤ ds.length
  · rw [Nat.min_eq_left h]
  · rw [Nat.min_eq_right (by omega), List.take_of_length_le (Nat.le_refl _), List.take_of_length_le (by omega)]
theorem cut_last (ds : List D) : cutD ds none (some (-1)) = ds.dropLast := by
  unfold cutD
  rw [HT.sIx_none, Nat.sub_zero, List.drop_zero, List.dropLast_eq_take]
  have e : HT.sIx ds.length ds.length (some (-1)) = ds.length - 1 := by
    show (if (-1 : Int) < 0 then ((-1) + (ds.length : Int)).toNat else min (-1 : Int).toNat ds.length) = ds.length - 1
    rw [if_pos (by decide)]
    omega
  rw [e]
section
variable {P : Program} {w : World} {K : PySem.W.Frag} {mg : Str → Option Value} {base : Heap}
def Rcarried : RD := fun ds M Q => ∃ (g G : Int) (o : Option Int) (ns : List Int) (x : Int), ds = [clD g G o, tI ns, .int x] ∧ ns.length ≤ 1000 ∧ Q (.tup [clD g G (o.map (· + x)), tI (ns.map (· + x))]) M
/-- [v + way for v in a tuple of ints] -/
theorem we_lcAdd {X : Cx} {Γ : DL.G} {M : MM} {pos px : Pos} {elt iter : Expr} {x : Str} {scope : Scope} {Q : D → MM → Prop} (k : Nat) (w : Int) (hN : X.N.Nodup) (hg : ∀ (s : Shared) (H : Hp) (C : Addr) (cl : List (Str × Addr)) (fp : List Addr), PG (X.blk s H scope (compEnvC scope cl C X.env) fp) (.Name x px) (gName k))
    (helt : ∀ (n : Int) (M : MM) (Q : D → MM → Prop), Q (.int (n + w)) M → ∀ (s : Shared) (H : Hp) (C : Addr) (cl : List (Str × Addr)) (fp : List Addr), WE (X.blk s H scope (compEnvC scope cl C X.env) fp) elt (Γ.set k (some (.int n))) M Q)
    (h : WE X iter Γ M fun d M1 => ∃ ns : List Int, d = tI ns ∧ ns.length ≤ 1000 ∧ Q (.lst ((ns.map (· + w)).map .int)) M1)
    (ok : BlkOk X.N X.env.scope scope [(x, k)] := by exact blkOk_by (by kernel_rfl)) (hcm : X.calm = true := by rfl) (hs : ∀ x, foldedSetIterable iter X.env x = pure x := by intro _; rfl) :
    WE X (.ListComp elt [⟨.Name x px, iter, [], 0⟩] scope pos) Γ M Q := by
  refine we_lc k hN hg (wi_tup (h.imp fun d M1 ⟨ns, e, hl, q⟩ => ⟨ns.map .int, e, fun a ha => ?_⟩)) ok hcm hs
  refine ⟨fun n acc M' => M' = M1 ∧ acc = ((ns.take n).map (· + w)).map .int, ⟨rfl, rfl⟩, fun _ _ _ _ _ _ => trivial, ?_, ?_⟩
  · rintro i acc M' hi hm ⟨rfl, rfl⟩ _ _ _ _ _
    rw [List.length_map] at hi
    refine wts_nil ⟨fun _ s H C cl fp => ?_, fun h => absurd h (by decide)⟩
    have e1 : dAt (ns.map D.int) i = .int (ns.getD i 0) := dAt_of (by rw [List.getElem?_map, getD_some hi]; rfl)
    rw [e1]
    refine helt _ _ _ ⟨by simp; exact szlt (by omega), M', rfl, hm, rfl, ?_⟩ s H C cl fp
    rw [List.take_succ, getD_some hi]
    simp
  · rintro acc M' hm ⟨rfl, rfl⟩
    rw [List.length_map, List.take_of_length_le (Nat.le_refl _)]
    exact q
def Rtaken : RD := fun ds M Q => ∃ (l : Bool) (ns : List Int), ds = [tI ns, .str (side l)] ∧ Q (tI (cutEnd l ns)) M
def Rhooked : RD := fun ds M Q => ∃ (l : Bool) (ns : List Int), 0 < ns.length ∧ ns.length ≤ 1000 ∧ ds = [tI ns, .str (side l)] ∧ Q (tI (hookEnd l ns)) M
theorem atI_lastI {ns : List Int} (h : 0 < ns.length) : atI (ns.map D.int) (-1) = some (.int (ns.getD (ns.length - 1) 0)) := by
  have hne : ns ≠ [] := by intro z; rw [z] at h; exact absurd h (by decide)
  have e : ns.dropLast ++ [ns.getD (ns.length - 1) 0] = ns := by
    have h2 : ns.getLast hne = ns.getD (ns.length - 1) 0 := by
      rw [List.getLast_eq_getElem, List.getD_eq_getElem?_getD, List.getElem?_eq_getElem (by omega)]
      rfl
    rw [← h2]
    exact List.dropLast_concat_getLast hne
  have e2 : ns.map D.int = ns.dropLast.map D.int ++ [.int (ns.getD (ns.length - 1) 0)] := by
    conv => lhs; rw [← e]
    rw [List.map_append]
    rfl
  rw [e2]
  exact atI_last _ _
/-- a move that may be done -/
def MvFits (m : Mv) (n : Nat) : Prop := match m with
  | .draw _ j _ => 1 ≤ j ∧ j ≤ (n : Int)
  | .some _ => False
  | _ => 0 < n
def Rmov : RD := fun ds M Q => ∃ (g G : Int) (o : Option Int) (ns : List Int) (m : Mv), MvFits m ns.length ∧ ns.length ≤ 999 ∧ ds = [clD g G o, tI ns, mvD m] ∧ Q (.tup [clD g G (mvCl o m), tI (mvNs g G o ns m)]) M
theorem ring_at {l : Bool} {j : Int} {n : Nat} (h1 : 1 ≤ j) (h2 : j ≤ (n : Int)) : ringIx l j n < n := by
  cases l
  · show ((n : Int) - j).toNat < n
    omega
  · show (j - 1).toNat < n
    omega
end
end T01

set_option Elab.async false
set_option linter.all false
set_option autoImplicit false
set_option maxRecDepth 100000
set_option maxHeartbeats 4000000
namespace T01
open PySem L2 DL

/-! ### numbers as words -/
abbrev num (n : Int) : Str := Str.ofString (toString n)
def wordOk (n : Int) : Bool :=
  decide ((Txt.removeprefix (num n) "-").length ≤ 2) && Txt.isdecimal (Txt.removeprefix (num n) "-") && (PySem.intText? (num n) == some n) && decide ((num n).length ≤ 640)
theorem words_ok : (List.range 199).all (fun k => wordOk ((k : Int) - 99)) = true := by decide +kernel
theorem word_ok {n : Int} (h1 : -99 ≤ n) (h2 : n ≤ 99) : (Txt.removeprefix (num n) "-").length ≤ 2 ∧ Txt.isdecimal (Txt.removeprefix (num n) "-") = true ∧ PySem.intText? (num n) = some n ∧ (num n).length ≤ 640 := by
  have h := List.all_eq_true.mp words_ok (n + 99).toNat (List.mem_range.mpr (by omega))
  have e : (((n + 99).toNat : Nat) : Int) - 99 = n := by omega
  rw [e] at h
  unfold wordOk at h
  simp only [Bool.and_eq_true, decide_eq_true_eq, beq_iff_eq] at h
  exact ⟨h.1.1.1, h.1.1.2, h.1.2, h.2⟩
theorem two_signs : (num 99).length = 2 := by decide +kernel
theorem small_log {n : Int} (h1 : -99 ≤ n) (h2 : n ≤ 99) : n.natAbs.log2 < 1920 := by
  have : n.natAbs ≤ 99 := by omega
  have h3 : n.natAbs < 2 ^ 7 := by omega
  by_cases h0 : n.natAbs = 0
  · rw [h0]; decide
  · have := (Nat.log2_lt h0).mpr h3
    omega
/-! ### words joined by blanks and cut again -/
abbrev cod (x : Str) : List Nat := x.cps.toList
theorem blank_is : (" " : Str) = SX.S [32] := by decide +kernel
theorem split_words {parts : List (List Nat)} (h0 : parts ≠ []) (h : ∀ p ∈ parts, (32 : Nat) ∉ p) : Txt.split (SX.S (TL.joinL [32] parts)) " " = parts.map SX.S := by
  rw [blank_is, SX.split_S (by decide) (by decide), SX.spl_join h0 h]
theorem S_cod (x : Str) : SX.S (cod x) = x := SX.S_tl x
def noBlank (x : Str) : Bool := !(cod x).contains 32
theorem noBlank_of {x : Str} (h : noBlank x = true) : (32 : Nat) ∉ cod x := by
  unfold noBlank at h
  simpa using h
theorem nums_blank : (List.range 199).all (fun k => noBlank (num ((k : Int) - 99)) && decide ((num ((k : Int) - 99)).length ≤ 3)) = true := by decide +kernel
theorem num_blank {n : Int} (h1 : -99 ≤ n) (h2 : n ≤ 99) : noBlank (num n) = true ∧ (num n).length ≤ 3 := by
  have h := List.all_eq_true.mp nums_blank (n + 99).toNat (List.mem_range.mpr (by omega))
  have e : (((n + 99).toNat : Nat) : Int) - 99 = n := by omega
  rw [e] at h
  simpa using h
theorem app_cod (x y : Str) : x ++ y = SX.S (cod x ++ cod y) := by
  conv => lhs; rw [← S_cod x, ← S_cod y]
  exact SX.S_cat _ _
/-- four words -/
theorem split4 {a b c d : Str} (ha : noBlank a = true) (hb : noBlank b = true) (hc : noBlank c = true) (hd : noBlank d = true) :
    Txt.split (a ++ ((" " : Str) ++ (b ++ ((" " : Str) ++ (c ++ ((" " : Str) ++ d)))))) " " = [a, b, c, d] := by
  have e : a ++ ((" " : Str) ++ (b ++ ((" " : Str) ++ (c ++ ((" " : Str) ++ d))))) = SX.S (TL.joinL [32] [cod a, cod b, cod c, cod d]) := by
    rw [blank_is]
    conv => lhs; rw [← S_cod a, ← S_cod b, ← S_cod c, ← S_cod d]
    simp only [SX.S_cat]
    rfl
  rw [e, split_words (by simp) (by
    intro p hp
    simp only [List.mem_cons, List.not_mem_nil, or_false] at hp
    rcases hp with rfl | rfl | rfl | rfl
    · exact noBlank_of ha
    · exact noBlank_of hb
    · exact noBlank_of hc
    · exact noBlank_of hd)]
  simp only [List.map_cons, List.map_nil, S_cod]
/-- the row of a drawing, as it is glued -/
def drawRow (side : Str) (j p : Int) : Str := side ++ (" " : Str) ++ num j ++ (" to " : Str) ++ num p
theorem to_is : (" to " : Str) = (" " : Str) ++ (("to" : Str) ++ (" " : Str)) := by decide +kernel
theorem app_assoc (x y z : Str) : x ++ y ++ z = x ++ (y ++ z) := by
  rw [← S_cod x, ← S_cod y, ← S_cod z]
  simp only [SX.S_cat, List.append_assoc]
theorem drawRow_split {side : Str} {j p : Int} (hs : noBlank side = true) (h1 : -99 ≤ j) (h2 : j ≤ 99) (h3 : -99 ≤ p) (h4 : p ≤ 99) : Txt.split (drawRow side j p) " " = [side, num j, "to", num p] := by
  unfold drawRow
  rw [to_is]
  simp only [app_assoc]
  exact split4 hs (num_blank h1 h2).1 (by decide +kernel) (num_blank h3 h4).1
theorem app_len (x y : Str) : (x ++ y).length = x.length + y.length := by
  rw [← S_cod x, ← S_cod y, SX.S_cat]
  simp [SX.S_len]
theorem drawRow_len {side : Str} {j p : Int} (hs : side.length ≤ 10) (h1 : -99 ≤ j) (h2 : j ≤ 99) (h3 : -99 ≤ p) (h4 : p ≤ 99) : (drawRow side j p).length ≤ 100 := by
  have a := (num_blank h1 h2).2
  have b := (num_blank h3 h4).2
  have c : (" " : Str).length = 1 := by decide +kernel
  have d : (" to " : Str).length = 4 := by decide +kernel
  unfold drawRow
  simp only [app_len]
  omega

section
variable {P : Program} {w : World} {K : PySem.W.Frag} {mg : Str → Option Value} {base : Heap}
/-- the module's constants -/
structure Cst (K : PySem.W.Frag) (mg : Str → Option Value) : Prop where
  cloth : ∃ t, mg "MOST_CLOTH" = some (.int 9 t)
  named : ∃ t, mg "MOST_NAMED" = some (.int 5 t)
  place : ∃ t, mg "MOST_PLACE" = some (.int 99 t)
  sides : ∃ a, mg "SIDES" = some (.ref a) ∧ ∀ F, SqT K F a [.str "left", .str "right"]
/-! ### rows -/
def Rwritten : RD := fun ds M Q => ∃ n : Int, -99 ≤ n ∧ n ≤ 99 ∧ ds = [.str (num n)] ∧ Q (.int n) M
def RrowPlace : RD := fun ds M Q => ∃ n : Int, ds = [.int n] ∧ Q (.bl (decide (-99 ≤ n ∧ n ≤ 99))) M
def Rplaced : RD := fun ds M Q => ∃ (n : Int) (k s r : D), -99 ≤ n ∧ n ≤ 99 ∧ ds = [.lst [.str (num n)], k, s, r] ∧ Q (.tup [k, s, r, .int n]) M
def RreadDraw : RD := fun ds M Q => ∃ (sd : Str) (j n : Int), 1 ≤ j ∧ j ≤ 5 ∧ -99 ≤ n ∧ n ≤ 99 ∧ ds = [.lst [.str sd, .str (num j), .str "to", .str (num n)]] ∧ Q (.tup [.str "draw", .str sd, .int j, .int n]) M
def RreadMove : RD := fun ds M Q => ∃ (sd row : Str) (j n : Int), (sd = "left" ∨ sd = "right") ∧ 1 ≤ j ∧ j ≤ 5 ∧ -99 ≤ n ∧ n ≤ 99 ∧ ds = [.str row] ∧ row.length ≤ 100 ∧ Txt.split row " " = [sd, num j, "to", num n] ∧ Q (.tup [.str "draw", .str sd, .int j, .int n]) M
def Rneeded : RD := fun ds M Q => ∃ (sd : Str) (j n : Int), ds = [.tup [.str "draw", .str sd, .int j, .int n]] ∧ Q (.int j) M
/-! ### what a drawing's move does -/
def moveIx (sd : Str) (j : Int) (n : Nat) : Nat := if sd = "left" then (j - 1).toNat else ((n : Int) - j).toNat
def Rmoved : RD := fun ds M Q => ∃ (g G : Int) (o : Option Int) (ns : List Int) (sd : Str) (j p : Int), (sd = "left" ∨ sd = "right") ∧ 1 ≤ j ∧ j ≤ (ns.length : Int) ∧ ns.length ≤ 1000 ∧ ds = [clD g G o, tI ns, .tup [.str "draw", .str sd, .int j, .int p]] ∧
  Q (.tup [clD g G o, tI (drawL g G ns (moveIx sd j ns.length) (reach g o (moveIx sd j ns.length) p))]) M
end
end T01

set_option Elab.async false
set_option linter.all false
set_option autoImplicit false
set_option maxRecDepth 100000
set_option maxHeartbeats 4000000
namespace T01
open PySem L2 DL

/-! ### rows of moves -/
def mvWords : Mv → List Str
  | .draw l j x => [side l, num j, "to", num x]
  | .carry x => ["carry", num x]
  | .off l => ["off", side l]
  | .on l x => ["on", side l, num x]
  | .some x => ["some", "to", num x]
def Near (x : Int) : Prop := -99 ≤ x ∧ x ≤ 99
def MvOk : Mv → Prop
  | .draw _ j x => 1 ≤ j ∧ j ≤ 5 ∧ Near x
  | .carry x => Near x
  | .off _ => True
  | .on _ x => Near x
  | .some x => Near x
theorem nums_lay : (List.range 199).all (fun k => PyData.canLay0 (.str (num ((k : Int) - 99)))) = true := by decide +kernel
theorem num_lay {n : Int} (h : Near n) : PyData.canLay0 (.str (num n)) = true := by
  have h1 := h.1
  have h2 := h.2
  have z := List.all_eq_true.mp nums_lay (n + 99).toNat (List.mem_range.mpr (by omega))
  have e : (((n + 99).toNat : Nat) : Int) - 99 = n := by omega
  rwa [e] at z
theorem not_some {a : Str} {r : List Str} (h : a ≠ "some") : decide (a :: r = (["some", "to"] : List Str)) = false := decide_eq_false fun e => h (List.cons.inj e).1
section
variable {P : Program} {w : World} {K : PySem.W.Frag} {mg : Str → Option Value} {base : Heap}
def RreadOff : RD := fun ds M Q => ∃ l : Bool, ds = [lS ["off", side l]] ∧ Q (mvD (.off l)) M
def Rread : RD := fun ds M Q => ∃ (m : Mv) (row : Str), MvOk m ∧ ds = [.str row] ∧ row.length ≤ 100 ∧ Txt.split row " " = mvWords m ∧ Q (mvD m) M
def Rneeds : RD := fun ds M Q => ∃ m : Mv, ds = [mvD m] ∧ Q (.int (needs m)) M
def Rgains : RD := fun ds M Q => ∃ m : Mv, ds = [mvD m] ∧ Q (.int (gains m)) M
end
end T01

set_option Elab.async false
set_option linter.all false
set_option autoImplicit false
set_option maxRecDepth 100000
set_option maxHeartbeats 4000000
namespace T01
open PySem L2 DL

/-- a standing -/
structure Stand (g G : Int) (o : Option Int) (ns : List Int) : Prop where
  ne : 0 < ns.length
  first : ∀ e, o = some e → e ≤ ns.getD 0 0
  gaps : ∀ i : Nat, i + 1 < ns.length → g ≤ ns.getD (i + 1) 0 - ns.getD i 0 ∧ ns.getD (i + 1) 0 - ns.getD i 0 ≤ G
theorem dAt_ints {ns : List Int} {i : Nat} (h : i < ns.length) : dAt (ns.map D.int) i = .int (ns.getD i 0) := dAt_of (by rw [List.getElem?_map, getD_some h]; rfl)
theorem mupd_comm {M : MM} {a b : Addr} {x y : MO} (h : a ≠ b) : mupd (mupd M a x) b y = mupd (mupd M b y) a x := by
  funext c
  unfold mupd
  by_cases h1 : c = a
  · subst h1
    rw [if_neg h, if_pos rfl, if_pos rfl]
  · by_cases h2 : c = b
    · rw [if_pos h2, if_neg h1, if_pos h2]
    · rw [if_neg h2, if_neg h1, if_neg h1, if_neg h2]
abbrev rn : List Str := ["_cloth", "_places", "_past"]

section
variable {P : Program} {w : World} {K : PySem.W.Frag} {mg : Str → Option Value} {base : Heap}
def Rwrong : RD := fun ds M Q => ∃ (g G : Int) (o : Option Int) (ns : List Int), Stand g G o ns ∧ ns.length ≤ 1000 ∧ ds = [clD g G o, tI ns] ∧ Q .non M
/-- a cloth that may be passed -/
structure ClIn (g G : Int) (o : Option Int) : Prop where
  ok : ClOk g G o
  e1 : ∀ e, o = some e → -99 ≤ e ∧ e ≤ 99
def RisCloth : RD := fun ds M Q => ∃ (g G : Int) (o : Option Int), ClIn g G o ∧ ds = [clD g G o] ∧ Q (.bl true) M
theorem cl_tup (g G : Int) (o : Option Int) : ∃ ns : List Int, clD g G o = tI ns ∧ (ns.length = 2 ∨ ns.length = 3) := by
  cases o with
  | none => exact ⟨[g, G], rfl, .inl rfl⟩
  | some e => exact ⟨[g, G, e], rfl, .inr rfl⟩
def RcheckCloth : RD := fun ds M Q => ∃ (g G : Int) (o : Option Int), ClIn g G o ∧ ds = [clD g G o] ∧ Q .non M
def RisStanding : RD := fun ds M Q => ∃ (g G : Int) (o : Option Int) (ns : List Int), ClIn g G o ∧ Stand g G o ns ∧ ns.length ≤ 1000 ∧ ds = [clD g G o, tI ns] ∧ Q (.bl true) M
/-! ### rails -/
structure RC (K : PySem.W.Frag) (C : Addr) : Prop where
  cls : Cls K C
  nC : NoAttr K C "_cloth"
  nP : NoAttr K C "_places"
  nH : NoAttr K C "_past"
/-- a rail at r, its past at p -/
structure RailAt (M : MM) (C r p : Addr) (c pl : D) (past : List D) : Prop where
  ins : M r = some (.ins C rn [c, pl, .raw p])
  lst : M p = some (.lst past)
  ne : r ≠ p
theorem gC {c pl : D} {p : Addr} : getN "_cloth" rn [c, pl, .raw p] = some c := by rfl
theorem gP {c pl : D} {p : Addr} : getN "_places" rn [c, pl, .raw p] = some pl := by rfl
theorem gH {c pl : D} {p : Addr} : getN "_past" rn [c, pl, .raw p] = some (.raw p) := by rfl
theorem pC {c pl c' : D} {p : Addr} : putN "_cloth" c' rn [c, pl, .raw p] = [c', pl, .raw p] := by rfl
theorem pP {c pl c' : D} {p : Addr} : putN "_places" c' rn [c, pl, .raw p] = [c, c', .raw p] := by rfl
variable {C : Addr}
/-- what _become leaves -/
def become (M : MM) (C r p : Addr) (c pl : D) (past : List D) (c' pl' : D) : MM := mupd (mupd M p (.lst (past ++ [.tup [c, pl]]))) r (.ins C rn [c', pl', .raw p])
theorem RailAt.become {M : MM} {r p : Addr} {c pl c' pl' : D} {past : List D} (R : RailAt M C r p c pl past) : RailAt (become M C r p c pl past c' pl') C r p c' pl' (past ++ [.tup [c, pl]]) :=
  ⟨mupd_same, by unfold T01.become; rw [mupd_ne (Ne.symm R.ne), mupd_same], R.ne⟩
theorem become_ne {M : MM} {r p b : Addr} {c pl c' pl' : D} {past : List D} (h1 : b ≠ r) (h2 : b ≠ p) : become M C r p c pl past c' pl' b = M b := by
  unfold become; rw [mupd_ne h1, mupd_ne h2]
def Rbecome (C : Addr) : RD := fun ds M Q => ∃ (r p : Addr) (c pl c' pl' : D) (past : List D), RailAt M C r p c pl past ∧ past.length < 100000 ∧ ds = [.raw r, c', pl'] ∧ Q pl' (become M C r p c pl past c' pl')
def Rdo (C : Addr) : RD := fun ds M Q => ∃ (r p : Addr) (g G : Int) (o : Option Int) (ns : List Int) (past : List D) (sd : Str) (j x : Int), RailAt M C r p (clD g G o) (tI ns) past ∧ past.length < 100000 ∧ (sd = "left" ∨ sd = "right") ∧ 1 ≤ j ∧ j ≤ (ns.length : Int) ∧ ns.length ≤ 1000 ∧ ds = [.raw r, .tup [.str "draw", .str sd, .int j, .int x]] ∧
  Q (tI (drawL g G ns (moveIx sd j ns.length) (reach g o (moveIx sd j ns.length) x))) (become M C r p (clD g G o) (tI ns) past (clD g G o) (tI (drawL g G ns (moveIx sd j ns.length) (reach g o (moveIx sd j ns.length) x))))
theorem ins_of {M : MM} {r p : Addr} {c pl : D} {past : List D} {m : Str} (R : RailAt M C r p c pl past) (h : m ∉ rn) : InsOf M C m (.raw r) := ⟨_, _, R.ins, h⟩
def Rmove (C : Addr) : RD := fun ds M Q => ∃ (r p : Addr) (g G : Int) (o : Option Int) (ns : List Int) (past : List D) (sd row : Str) (j x : Int), RailAt M C r p (clD g G o) (tI ns) past ∧ past.length < 100000 ∧ (sd = "left" ∨ sd = "right") ∧ 1 ≤ j ∧ j ≤ 5 ∧ -99 ≤ x ∧ x ≤ 99 ∧ j ≤ (ns.length : Int) ∧ ns.length ≤ 1000 ∧ row.length ≤ 100 ∧ Txt.split row " " = [sd, num j, "to", num x] ∧ ds = [.raw r, .str row] ∧
  Q (tI (drawL g G ns (moveIx sd j ns.length) (reach g o (moveIx sd j ns.length) x))) (become M C r p (clD g G o) (tI ns) past (clD g G o) (tI (drawL g G ns (moveIx sd j ns.length) (reach g o (moveIx sd j ns.length) x))))
def Rdraw (C : Addr) : RD := fun ds M Q => ∃ (r p : Addr) (g G : Int) (o : Option Int) (ns : List Int) (past : List D) (i : Nat) (x : Int), RailAt M C r p (clD g G o) (tI ns) past ∧ past.length < 100000 ∧ i < ns.length ∧ ns.length ≤ 1000 ∧ ds = [.raw r, .int (i : Int), .int x] ∧
  Q (tI (drawL g G ns i (reach g o i x))) (become M C r p (clD g G o) (tI ns) past (clD g G o) (tI (drawL g G ns i (reach g o i x))))
/-! properties -/
def RgetC (C : Addr) : RD := fun ds M Q => ∃ (r p : Addr) (c pl : D) (past : List D), RailAt M C r p c pl past ∧ ds = [.raw r] ∧ Q c M
def RgetP (C : Addr) : RD := fun ds M Q => ∃ (r p : Addr) (c pl : D) (past : List D), RailAt M C r p c pl past ∧ ds = [.raw r] ∧ Q pl M
def RgetH (C : Addr) : RD := fun ds M Q => ∃ (r p : Addr) (c pl : D) (past : List D), RailAt M C r p c pl past ∧ ds = [.raw r] ∧ Q (.int (past.length : Nat)) M
def Rinit (C : Addr) : RD := fun ds M Q => ∃ (r : Addr) (g G : Int) (o : Option Int) (ns : List Int), ClIn g G o ∧ Stand g G o ns ∧ ns.length ≤ 1000 ∧ M r = some (.ins C [] []) ∧ ds = [.raw r, clD g G o, tI ns] ∧
  ∀ p, p ≠ r → M p = none → Q .non (mupd (mupd M p (.lst [])) r (.ins C rn [clD g G o, tI ns, .raw p]))
end
end T01

set_option Elab.async false
set_option linter.all false
set_option autoImplicit false
set_option maxRecDepth 100000
set_option maxHeartbeats 4000000
namespace T01
open PySem L2 DL

/-! ### the row of a cloth -/
def clWords (g G : Int) : Option Int → List Str
  | none => ["cloth", num g, num G]
  | some e => ["cloth", num g, num G, "from", num e]
def clNums (g G : Int) (o : Option Int) : List Int := [g, G] ++ o.toList
theorem clNums_is {g G : Int} {o : Option Int} : tI (clNums g G o) = clD g G o := by cases o <;> rfl
theorem ClIn.near {g G : Int} {o : Option Int} (h : ClIn g G o) : ∀ x, x ∈ clNums g G o → Near x := by
  intro x hx
  have h1 := h.ok.g1
  have h2 := h.ok.gG
  have h3 := h.ok.G9
  cases o with
  | none =>
    simp only [clNums, Option.toList, List.append_nil, List.mem_cons, List.not_mem_nil, or_false] at hx
    rcases hx with rfl | rfl <;> exact ⟨by omega, by omega⟩
  | some e =>
    have he := h.e1 e rfl
    simp only [clNums, Option.toList, List.cons_append, List.nil_append, List.mem_cons, List.not_mem_nil, or_false] at hx
    rcases hx with rfl | rfl | rfl
    · exact ⟨by omega, by omega⟩
    · exact ⟨by omega, by omega⟩
    · exact he
def clFrom : Option Int → List Str
  | none => []
  | some _ => ["from"]
section
variable {g G : Int} {o : Option Int} {M : MM} {Q : D → MM → Prop}
theorem clw_head (z : Q (.str "cloth") M) : IxQ (.lst ((clWords g G o).map D.str)) (.int 0) M Q := by
  cases o with
  | none => exact ⟨_, rfl, z⟩
  | some e => exact ⟨_, rfl, z⟩
theorem clw_len : ([PyData.int 3, PyData.int 5].any fun z => PyData.eqv z (.int ((((clWords g G o).map D.str).length : Nat) : Int))) = true := by
  have h : ((clWords g G o).map D.str).length = 3 ∨ ((clWords g G o).map D.str).length = 5 := by
    cases o with
    | none => exact .inl rfl
    | some e => exact .inr rfl
  rcases h with h | h <;> rw [h] <;> decide
theorem clw_mid (z : Q (lS (clFrom o)) M) : SlQ (.lst ((clWords g G o).map D.str)) (some 3) (some 4) M Q := by
  cases o with
  | none => exact z
  | some e => exact z
theorem clw_from : InQ (lS (clFrom o)) (.tup [.lst [], .lst [.str "from"]]) M fun b M' => b = true ∧ M' = M := by
  cases o with
  | none => exact ⟨.list [], [.list [], .list [.str "from"]], rfl, rfl, by decide +kernel, by decide +kernel, by decide +kernel, rfl⟩
  | some e => exact ⟨.list [.str "from"], [.list [], .list [.str "from"]], rfl, rfl, by decide +kernel, by decide +kernel, by decide +kernel, rfl⟩
theorem clw_add (z : Q (.lst (((clNums g G o).map num).map D.str)) M) : SlQ (.lst ((clWords g G o).map D.str)) (some 1) (some 3) M fun x M1 => SlQ (.lst ((clWords g G o).map D.str)) (some 4) none M1 fun y M2 => AddQ x y M2 Q := by
  cases o with
  | none => exact ⟨by show 2 + 0 ≤ sizeLine; decide, z⟩
  | some e => exact ⟨by show 2 + 1 ≤ sizeLine; decide, z⟩
end
section
variable {P : Program} {w : World} {K : PySem.W.Frag} {mg : Str → Option Value} {base : Heap}
def RreadCloth : RD := fun ds M Q => ∃ (g G : Int) (o : Option Int) (row : Str), ClIn g G o ∧ ds = [.str row] ∧ row.length ≤ 100 ∧ Txt.split row " " = clWords g G o ∧ Q (clD g G o) M
/-! ### the least number -/
def leastF : Int → Int → List Mv → Int
  | l, _, [] => l
  | l, c, m :: ms => leastF (max l (needs m - c)) (c + gains m) ms
def Rleast : RD := fun ds M Q => ∃ ms : List Mv, ds = [.tup (ms.map mvD)] ∧ Q (.int (leastF 1 0 ms)) M
theorem drop_at {ms : List Mv} {i : Nat} (h : i < ms.length) : ms.drop i = ms[i] :: ms.drop (i + 1) := List.drop_eq_getElem_cons h
end
end T01

set_option Elab.async false
set_option linter.all false
set_option autoImplicit false
set_option maxRecDepth 100000
set_option maxHeartbeats 4000000
/-! the mathematics of drawings -/
namespace T01
open PySem L2 DL

def tab (n : Nat) (f : Nat → Int) : List Int := (List.range n).map f
theorem tab_len (n : Nat) (f : Nat → Int) : (tab n f).length = n := by simp [tab]
theorem tab_getD {n : Nat} {f : Nat → Int} {k : Nat} (h : k < n) : (tab n f).getD k 0 = f k := by
  rw [List.getD_eq_getElem?_getD]
  simp [tab, h]
theorem tab_get {n : Nat} {f : Nat → Int} {k : Nat} (h : k < n) : (tab n f)[k]? = some (f k) := by simp [tab, h]
theorem tab_ext {n : Nat} {f g : Nat → Int} (h : ∀ k, k < n → f k = g k) : tab n f = tab n g := by
  unfold tab
  exact List.map_congr_left fun k hk => h k (List.mem_range.mp hk)
theorem tab_set {n : Nat} {f : Nat → Int} {k : Nat} {v : Int} : (tab n f).set k v = tab n fun j => if j = k then v else f j := by
  apply List.ext_getElem?
  intro j
  by_cases hj : j < n
  · by_cases hk : j = k
    · subst hk
      rw [List.getElem?_set_self (by rw [tab_len]; exact hj), tab_get hj, if_pos rfl]
    · rw [List.getElem?_set_ne (Ne.symm hk), tab_get hj, tab_get hj, if_neg hk]
  · rw [List.getElem?_eq_none (by rw [List.length_set, tab_len]; omega), List.getElem?_eq_none (by rw [tab_len]; omega)]
theorem of_tab (ns : List Int) : ns = tab ns.length fun k => ns.getD k 0 := by
  apply List.ext_getElem?
  intro j
  by_cases hj : j < ns.length
  · rw [tab_get hj, getD_some hj]
  · rw [List.getElem?_eq_none (by omega), List.getElem?_eq_none (by rw [tab_len]; omega)]
/-- where the ring k is behind the drawing of the ring i to its goal -/
def dv (g G : Int) (ns : List Int) (i : Nat) (goal : Int) (k : Nat) : Int :=
  if k < i then dLeft g G ns i goal k else if k = i then goal else dRight g G ns i goal (k - (i + 1))
theorem drawL_tab {g G : Int} {ns : List Int} {i : Nat} {goal : Int} (hi : i < ns.length) : drawL g G ns i goal = tab ns.length (dv g G ns i goal) := by
  apply List.ext_getElem?
  intro j
  unfold drawL
  by_cases hj : j < ns.length
  · rw [tab_get hj]
    unfold dv
    by_cases h1 : j < i
    · rw [List.getElem?_append_left (by simpa using h1), if_pos h1]
      simp [h1]
    · rw [List.getElem?_append_right (by simpa using Nat.le_of_not_lt h1), if_neg h1, List.length_map, List.length_range]
      by_cases h2 : j = i
      · subst h2
        simp
      · rw [if_neg h2]
        obtain ⟨m, rfl⟩ : ∃ m, j = i + 1 + m := ⟨j - (i + 1), by omega⟩
        have e1 : i + 1 + m - i = m + 1 := by omega
        have e2 : i + 1 + m - (i + 1) = m := by omega
        rw [e1, e2, List.getElem?_cons_succ]
        have hm : m < ns.length - (i + 1) := by omega
        simp [hm]
  · rw [List.getElem?_eq_none (by simp; omega), List.getElem?_eq_none (by rw [tab_len]; omega)]
theorem drawL_len {g G : Int} {ns : List Int} {i : Nat} {goal : Int} (hi : i < ns.length) : (drawL g G ns i goal).length = ns.length := by rw [drawL_tab hi, tab_len]
theorem mul_le {m g G : Int} (hm : 0 ≤ m) (h : g ≤ G) : m * g ≤ m * G := Int.mul_le_mul_of_nonneg_left h hm
section
variable {g G : Int} {o : Option Int} {ns : List Int} {i : Nat} {goal : Int}
/-- a ring to the right by its left neighbour -/
theorem dv_up (hg : g ≤ G) (hgap : ∀ k : Nat, k + 1 < ns.length → g ≤ ns.getD (k + 1) 0 - ns.getD k 0 ∧ ns.getD (k + 1) 0 - ns.getD k 0 ≤ G) {k : Nat} (hk : i ≤ k) (hn : k + 1 < ns.length) :
    min (max (ns.getD (k + 1) 0) (dv g G ns i goal k + g)) (dv g G ns i goal k + G) = dv g G ns i goal (k + 1) := by
  obtain ⟨g1, g2⟩ := hgap k hn
  have e2 : dv g G ns i goal (k + 1) = dRight g G ns i goal (k - i) := by
    unfold dv
    rw [if_neg (by omega), if_neg (by omega)]
    congr 1
    omega
  rw [e2]
  by_cases h : k = i
  · subst h
    have e1 : dv g G ns k goal k = goal := by unfold dv; rw [if_neg (by omega), if_pos rfl]
    rw [e1]
    unfold dRight
    have z : k - k = 0 := by omega
    rw [z]
    simp only [Nat.add_zero]
    have a1 : ((0 : Nat) : Int) + 1 = 1 := by omega
    rw [a1, Int.one_mul, Int.one_mul]
    omega
  · obtain ⟨m, rfl⟩ : ∃ m, k = i + 1 + m := ⟨k - (i + 1), by omega⟩
    have e1 : dv g G ns i goal (i + 1 + m) = dRight g G ns i goal m := by
      unfold dv
      rw [if_neg (by omega), if_neg (by omega)]
      congr 1
      omega
    rw [e1]
    unfold dRight
    have z : i + 1 + m - i = m + 1 := by omega
    rw [z]
    have a1 : (((m + 1 : Nat) : Int) + 1) * g = ((m : Int) + 1) * g + g := by
      have : (((m + 1 : Nat) : Int) + 1) = ((m : Int) + 1) + 1 := by omega
      rw [this, Int.add_mul ((m : Int) + 1) 1 g, Int.one_mul]
    have a2 : (((m + 1 : Nat) : Int) + 1) * G = ((m : Int) + 1) * G + G := by
      have : (((m + 1 : Nat) : Int) + 1) = ((m : Int) + 1) + 1 := by omega
      rw [this, Int.add_mul ((m : Int) + 1) 1 G, Int.one_mul]
    rw [a1, a2]
    have a3 := mul_le (m := (m : Int) + 1) (by omega) hg
    have a4 : i + 1 + (m + 1) = i + 1 + m + 1 := by omega
    rw [a4]
    generalize ((m : Int) + 1) * g = A at *
    generalize ((m : Int) + 1) * G = B at *
    omega
/-- a ring to the left by its right neighbour -/
theorem dv_down (hg : g ≤ G) (hgap : ∀ k : Nat, k + 1 < ns.length → g ≤ ns.getD (k + 1) 0 - ns.getD k 0 ∧ ns.getD (k + 1) 0 - ns.getD k 0 ≤ G) {k : Nat} (hk : k < i) (hn : i < ns.length) :
    min (max (ns.getD k 0) (dv g G ns i goal (k + 1) - G)) (dv g G ns i goal (k + 1) - g) = dv g G ns i goal k := by
  obtain ⟨g1, g2⟩ := hgap k (by omega)
  have e2 : dv g G ns i goal k = dLeft g G ns i goal k := by unfold dv; rw [if_pos hk]
  rw [e2]
  by_cases h : k + 1 = i
  · subst h
    have e1 : dv g G ns (k + 1) goal (k + 1) = goal := by unfold dv; rw [if_neg (by omega), if_pos rfl]
    rw [e1]
    unfold dLeft
    have a1 : (((k + 1 : Nat) : Int) - (k : Int)) = 1 := by omega
    rw [a1, Int.one_mul, Int.one_mul]
    omega
  · have e1 : dv g G ns i goal (k + 1) = dLeft g G ns i goal (k + 1) := by unfold dv; rw [if_pos (by omega)]
    rw [e1]
    unfold dLeft
    have e3 : ((i : Int) - (k : Int)) = ((i : Int) - ((k + 1 : Nat) : Int)) + 1 := by omega
    rw [e3, Int.add_mul _ 1 g, Int.add_mul _ 1 G, Int.one_mul, Int.one_mul]
    have a3 := mul_le (m := (i : Int) - ((k + 1 : Nat) : Int)) (by omega) hg
    generalize ((i : Int) - ((k + 1 : Nat) : Int)) * g = A at *
    generalize ((i : Int) - ((k + 1 : Nat) : Int)) * G = B at *
    omega
theorem dv_at : dv g G ns i goal i = goal := by unfold dv; rw [if_neg (by omega), if_pos rfl]
/-- two neighbours behind a drawing -/
theorem dv_gap (hg : g ≤ G) (hgap : ∀ k : Nat, k + 1 < ns.length → g ≤ ns.getD (k + 1) 0 - ns.getD k 0 ∧ ns.getD (k + 1) 0 - ns.getD k 0 ≤ G) (hi : i < ns.length) {k : Nat} (hn : k + 1 < ns.length) :
    g ≤ dv g G ns i goal (k + 1) - dv g G ns i goal k ∧ dv g G ns i goal (k + 1) - dv g G ns i goal k ≤ G := by
  by_cases h : i ≤ k
  · have := dv_up (goal := goal) hg hgap h hn
    omega
  · have := dv_down (goal := goal) hg hgap (k := k) (by omega) hi
    omega
theorem draw_stand (hg : g ≤ G) (St : Stand g G o ns) (hi : i < ns.length) (hgo : ∀ e, o = some e → e + i * g ≤ goal) : Stand g G o (drawL g G ns i goal) := by
  rw [drawL_tab hi]
  refine ⟨by rw [tab_len]; exact St.ne, fun e he => ?_, fun k hk => ?_⟩
  · rw [tab_getD St.ne]
    have h0 := St.first e he
    have h1 := hgo e he
    by_cases h : 0 < i
    · unfold dv
      rw [if_pos h]
      unfold dLeft
      have a : ((i : Int) - ((0 : Nat) : Int)) * g = (i : Int) * g := by simp
      rw [a]
      generalize ((i : Int) - ((0 : Nat) : Int)) * G = B
      omega
    · have : i = 0 := by omega
      subst this
      rw [dv_at]
      simpa using h1
  · rw [tab_len] at hk
    rw [tab_getD hk, tab_getD (by omega)]
    exact dv_gap hg St.gaps hi hk
/-- the same drawing once more -/
theorem draw_twice (hg : g ≤ G) (hi : i < ns.length) : drawL g G (drawL g G ns i goal) i goal = drawL g G ns i goal := by
  have hl := drawL_len (g := g) (G := G) (goal := goal) hi
  rw [drawL_tab (ns := drawL g G ns i goal) (by rw [hl]; exact hi), hl, drawL_tab hi]
  refine tab_ext fun k hk => ?_
  have hget : (tab ns.length (dv g G ns i goal)).getD k 0 = dv g G ns i goal k := tab_getD hk
  by_cases h1 : k < i
  · have e : dv g G ns i goal k = dLeft g G ns i goal k := by unfold dv; rw [if_pos h1]
    have e2 : dv g G (tab ns.length (dv g G ns i goal)) i goal k = dLeft g G (tab ns.length (dv g G ns i goal)) i goal k := by unfold dv; rw [if_pos h1]
    rw [e2, e]
    unfold dLeft
    rw [hget, e]
    unfold dLeft
    have a3 := mul_le (m := (i : Int) - (k : Int)) (by omega) hg
    generalize ((i : Int) - (k : Int)) * g = A at *
    generalize ((i : Int) - (k : Int)) * G = B at *
    omega
  · by_cases h2 : k = i
    · subst h2
      rw [dv_at, dv_at]
    · obtain ⟨m, rfl⟩ : ∃ m, k = i + 1 + m := ⟨k - (i + 1), by omega⟩
      have e : ∀ ns, dv g G ns i goal (i + 1 + m) = dRight g G ns i goal m := fun ns => by
        unfold dv
        rw [if_neg (by omega), if_neg (by omega)]
        congr 1
        omega
      rw [e, e]
      unfold dRight
      rw [hget, e]
      unfold dRight
      have a3 := mul_le (m := (m : Int) + 1) (by omega) hg
      generalize ((m : Int) + 1) * g = A at *
      generalize ((m : Int) + 1) * G = B at *
      omega
/-- how far two rings of a standing are apart -/
theorem stand_far (St : Stand g G o ns) : ∀ (m k : Nat), k + m < ns.length → (m : Int) * g ≤ ns.getD (k + m) 0 - ns.getD k 0 ∧ ns.getD (k + m) 0 - ns.getD k 0 ≤ (m : Int) * G
  | 0, k, _ => by simp
  | m + 1, k, h => by
    obtain ⟨i1, i2⟩ := stand_far St m k (by omega)
    obtain ⟨g1, g2⟩ := St.gaps (k + m) (by omega)
    have e1 : ((m + 1 : Nat) : Int) * g = (m : Int) * g + g := by
      have : ((m + 1 : Nat) : Int) = (m : Int) + 1 := by omega
      rw [this, Int.add_mul, Int.one_mul]
    have e2 : ((m + 1 : Nat) : Int) * G = (m : Int) * G + G := by
      have : ((m + 1 : Nat) : Int) = (m : Int) + 1 := by omega
      rw [this, Int.add_mul, Int.one_mul]
    rw [e1, e2, show k + (m + 1) = k + m + 1 by omega]
    generalize (m : Int) * g = A at *
    generalize (m : Int) * G = B at *
    omega
/-- a ring that is drawn to where it is -/
theorem draw_stays (St : Stand g G o ns) (hi : i < ns.length) : drawL g G ns i (ns.getD i 0) = ns := by
  rw [drawL_tab hi]
  conv => rhs; rw [of_tab ns]
  refine tab_ext fun k hk => ?_
  by_cases h1 : k < i
  · obtain ⟨a, b⟩ := stand_far St (i - k) k (by omega)
    have e : k + (i - k) = i := by omega
    rw [e] at a b
    have e2 : ((i - k : Nat) : Int) = (i : Int) - (k : Int) := by omega
    rw [e2] at a b
    unfold dv
    rw [if_pos h1]
    unfold dLeft
    generalize ((i : Int) - (k : Int)) * g = A at *
    generalize ((i : Int) - (k : Int)) * G = B at *
    omega
  · by_cases h2 : k = i
    · subst h2
      rw [dv_at]
    · obtain ⟨m, rfl⟩ : ∃ m, k = i + 1 + m := ⟨k - (i + 1), by omega⟩
      obtain ⟨a, b⟩ := stand_far St (m + 1) i (by omega)
      have e : i + (m + 1) = i + 1 + m := by omega
      rw [e] at a b
      have e2 : ((m + 1 : Nat) : Int) = (m : Int) + 1 := by omega
      rw [e2] at a b
      unfold dv
      rw [if_neg (by omega), if_neg (by omega)]
      have e3 : i + 1 + m - (i + 1) = m := by omega
      rw [e3]
      unfold dRight
      generalize ((m : Int) + 1) * g = A at *
      generalize ((m : Int) + 1) * G = B at *
      omega
theorem reach_stays (St : Stand g G o ns) (hi : i < ns.length) : reach g o i (ns.getD i 0) = ns.getD i 0 := by
  cases o with
  | none => rfl
  | some e =>
    obtain ⟨a, _⟩ := stand_far St i 0 (by omega)
    have h0 := St.first e rfl
    rw [Nat.zero_add] at a
    show max (ns.getD i 0) (e + (i : Int) * g) = _
    generalize (i : Int) * g = A at *
    omega
theorem reach_ge {p : Int} : ∀ e, o = some e → e + i * g ≤ reach g o i p := by
  intro e he
  subst he
  show e + (i : Int) * g ≤ max p (e + (i : Int) * g)
  omega
/-- a ring more at the right end -/
theorem stand_more (St : Stand g G o ns) {gap : Int} (h1 : g ≤ gap) (h2 : gap ≤ G) : Stand g G o (ns ++ [ns.getD (ns.length - 1) 0 + gap]) := by
  have gl : ∀ k, k < ns.length → (ns ++ [ns.getD (ns.length - 1) 0 + gap]).getD k 0 = ns.getD k 0 := fun k hk => by
    rw [List.getD_eq_getElem?_getD, List.getElem?_append_left hk, List.getD_eq_getElem?_getD]
  have gr : (ns ++ [ns.getD (ns.length - 1) 0 + gap]).getD ns.length 0 = ns.getD (ns.length - 1) 0 + gap := by
    rw [List.getD_eq_getElem?_getD, List.getElem?_append_right (Nat.le_refl _)]
    simp
  refine ⟨by simp, fun e he => by rw [gl 0 St.ne]; exact St.first e he, fun k hk => ?_⟩
  rw [List.length_append, List.length_singleton] at hk
  by_cases h : k + 1 < ns.length
  · rw [gl _ h, gl _ (by omega)]
    exact St.gaps k h
  · have e : k + 1 = ns.length := by omega
    rw [e, gr, gl k (by omega)]
    have e2 : ns.length - 1 = k := by omega
    rw [e2]
    omega
end
theorem atI_lastD {ns : List Int} (h : 0 < ns.length) : atI (ns.map D.int) (-1) = some (.int (ns.getD (ns.length - 1) 0)) := by
  have e : ns = ns.dropLast ++ [ns.getD (ns.length - 1) 0] := by
    have hne : ns ≠ [] := by intro z; rw [z] at h; exact absurd h (by decide)
    have h1 := (List.dropLast_concat_getLast hne).symm
    have h2 : ns.getLast hne = ns.getD (ns.length - 1) 0 := by
      rw [List.getLast_eq_getElem, List.getD_eq_getElem?_getD, List.getElem?_eq_getElem (by omega)]
      rfl
    rw [← h2]
    exact h1
  have e2 : ns.map D.int = ns.dropLast.map D.int ++ [.int (ns.getD (ns.length - 1) 0)] := by
    conv => lhs; rw [e]
    rw [List.map_append]
    rfl
  rw [e2]
  exact atI_last _ _
end T01

set_option Elab.async false
set_option linter.all false
set_option autoImplicit false
set_option maxRecDepth 100000
set_option maxHeartbeats 4000000
namespace T01
open PySem L2 DL

/-! ### scripts -/
structure Cst2 (mg : Str → Option Value) : Prop where
  moves : ∃ t, mg "MOST_MOVES" = some (.int 10 t)
/-- rows that make a script -/
structure Sheet (rows : List Str) (g G : Int) (o : Option Int) (ms : List Mv) : Prop where
  len : rows.length = ms.length + 1
  few : ms.length ≤ 10
  cl : ClIn g G o
  hl : (rows.getD 0 "").length ≤ 100
  hw : Txt.split (rows.getD 0 "") " " = clWords g G o
  ok : ∀ (k : Nat) (h : k < ms.length), MvOk ms[k]
  rl : ∀ k : Nat, k < ms.length → (rows.getD (k + 1) "").length ≤ 100
  rs : ∀ (k : Nat) (h : k < ms.length), Txt.split (rows.getD (k + 1) "") " " = mvWords ms[k]
abbrev sn : List Str := ["_rows", "_cloth", "_moves"]
abbrev scD (rows : List Str) (g G : Int) (o : Option Int) (ms : List Mv) : List D := [tS rows, clD g G o, .tup (ms.map mvD)]
def mvP : Mv → PyData
  | .draw l j x => .tuple [.str "draw", .str (side l), .int j, .int x]
  | .carry x => .tuple [.str "carry", .str "", .int 0, .int x]
  | .off l => .tuple [.str "off", .str (side l), .int 0, .int 0]
  | .on l x => .tuple [.str "on", .str (side l), .int 1, .int x]
  | .some x => .tuple [.str "some", .str "", .int 0, .int x]
theorem py_mv (m : Mv) : py (mvD m) = some (mvP m) := by cases m <;> rfl
theorem pys_mv : ∀ ms : List Mv, pys (ms.map mvD) = some (ms.map mvP)
  | [] => rfl
  | m :: ms => by
    show (py (mvD m)).bind (fun y => (pys (ms.map mvD)).map fun ys => y :: ys) = _
    rw [py_mv, pys_mv ms]
    rfl
theorem lay_mv (m : Mv) : PyData.canLay0 (mvP m) = true := by
  cases m with
  | draw l j x => show (PyData.strOk "draw" && (PyData.strOk (side l) && (true && (true && true)))) = true; cases l <;> decide +kernel
  | carry x => show (PyData.strOk "carry" && (PyData.strOk "" && (true && (true && true)))) = true; decide +kernel
  | off l => show (PyData.strOk "off" && (PyData.strOk (side l) && (true && (true && true)))) = true; cases l <;> decide +kernel
  | on l x => show (PyData.strOk "on" && (PyData.strOk (side l) && (true && (true && true)))) = true; cases l <;> decide +kernel
  | some x => show (PyData.strOk "some" && (PyData.strOk "" && (true && (true && true)))) = true; decide +kernel
theorem lays_mv : ∀ ms : List Mv, PyData.canLayAll0 (ms.map mvP) = true
  | [] => rfl
  | m :: ms => by
    show (PyData.canLay0 (mvP m) && PyData.canLayAll0 (ms.map mvP)) = true
    rw [lay_mv, lays_mv ms]
    rfl
theorem depth_mv (m : Mv) : PyData.depth (mvP m) = 1 := by cases m <;> rfl
theorem depths_mv : ∀ ms : List Mv, PyData.depthAll (ms.map mvP) ≤ 1
  | [] => Nat.zero_le _
  | m :: ms => by
    show max (PyData.depth (mvP m)) (PyData.depthAll (ms.map mvP)) ≤ 1
    rw [depth_mv]
    have := depths_mv ms
    omega
theorem shaped_mv (ms : List Mv) : SeqAt.shaped (.list (ms.map mvP)) = true := by
  unfold SeqAt.shaped
  have h1 : PyData.canLay0 (.list (ms.map mvP)) = true := by simp only [PyData.canLay0]; exact lays_mv ms
  have h2 : PyData.depth (.list (ms.map mvP)) ≤ 64 := by
    have := depths_mv ms
    simp only [PyData.depth]
    omega
  rw [h1, decide_eq_true h2]
  rfl
theorem none_mv : ∀ ms : List Mv, ((ms.map mvP).any fun z => PyData.eqv z .none) = false
  | [] => rfl
  | m :: ms => by
    rw [List.map_cons, List.any_cons, none_mv ms]
    cases m <;> rfl
theorem getS {rows : List Str} {i : Nat} (h : i < rows.length) : rows[i]? = some (rows.getD i "") := by
  rw [List.getD_eq_getElem?_getD, List.getElem?_eq_getElem h]
  rfl
structure SC (K : PySem.W.Frag) (S : Addr) : Prop where
  cls : Cls K S
  nR : NoAttr K S "_rows"
  nC : NoAttr K S "_cloth"
  nM : NoAttr K S "_moves"
section
variable {P : Program} {w : World} {K : PySem.W.Frag} {mg : Str → Option Value} {base : Heap} {S : Addr}
def RsInit (S : Addr) : RD := fun ds M Q => ∃ (a : Addr) (rows : List Str) (g G : Int) (o : Option Int) (ms : List Mv), Sheet rows g G o ms ∧ M a = some (.ins S [] []) ∧ ds = [.raw a, tS rows] ∧ Q .non (mupd M a (.ins S sn (scD rows g G o ms)))
def RsRead (S : Addr) : RD := fun ds M Q => ∃ (text : Str) (rows : List Str) (g G : Int) (o : Option Int) (ms : List Mv), Sheet rows g G o ms ∧ ds = [.raw S, .str text] ∧ text.length ≤ 2000 ∧ Txt.split text "\n" = rows ∧ ∀ a, M a = none → Q (.raw a) (mupd M a (.ins S sn (scD rows g G o ms)))
/-- a script at s -/
def ScAt (M : MM) (S s : Addr) (rows : List Str) (g G : Int) (o : Option Int) (ms : List Mv) : Prop := M s = some (.ins S sn (scD rows g G o ms))
def RsRows (S : Addr) : RD := fun ds M Q => ∃ (s : Addr) (rows : List Str) (g G : Int) (o : Option Int) (ms : List Mv), ScAt M S s rows g G o ms ∧ ds = [.raw s] ∧ Q (tS rows) M
def RsCloth (S : Addr) : RD := fun ds M Q => ∃ (s : Addr) (rows : List Str) (g G : Int) (o : Option Int) (ms : List Mv), ScAt M S s rows g G o ms ∧ ds = [.raw s] ∧ Q (clD g G o) M
def RsMoves (S : Addr) : RD := fun ds M Q => ∃ (s : Addr) (rows : List Str) (g G : Int) (o : Option Int) (ms : List Mv), ScAt M S s rows g G o ms ∧ ds = [.raw s] ∧ Q (.tup (ms.map mvD)) M
end
end T01

set_option Elab.async false
set_option linter.all false
set_option autoImplicit false
set_option maxRecDepth 100000
set_option maxHeartbeats 4000000
namespace T01
open PySem L2 DL

/-! ### leading -/
def isSome : Mv → Bool
  | .some _ => true
  | _ => false
def enough : Int → List Mv → Prop
  | _, [] => True
  | n, m :: ms => needs m ≤ n ∧ enough (n + gains m) ms
/-- cloth's end and standing behind moves -/
def leads (g G : Int) : Option Int → List Int → List Mv → Option Int × List Int
  | o, ns, [] => (o, ns)
  | o, ns, m :: ms => leads g G (mvCl o m) (mvNs g G o ns m) ms
theorem mvNs_len {g G : Int} {o : Option Int} {ns : List Int} {m : Mv} (hk : isSome m = false) (h1 : MvOk m) (h : needs m ≤ (ns.length : Int)) : ((mvNs g G o ns m).length : Int) = (ns.length : Int) + gains m := by
  have hl : ∀ {ns : List Int} {i : Nat} {x : Int}, i < ns.length → (drawTo g G o ns i x).length = ns.length := fun {ns i x} hi => by
    unfold drawTo drawL
    simp
    omega
  cases m with
  | draw l j x =>
    show ((drawTo g G o ns (ringIx l j ns.length) x).length : Int) = _
    rw [hl (ring_at h1.1 h)]
    show (ns.length : Int) = (ns.length : Int) + 0
    omega
  | carry x =>
    show ((ns.map (· + x)).length : Int) = (ns.length : Int) + 0
    rw [List.length_map]
    omega
  | off l =>
    have h2 : (2 : Int) ≤ (ns.length : Int) := h
    show ((cutEnd l ns).length : Int) = (ns.length : Int) + -1
    cases l <;> simp [cutEnd] <;> omega
  | on l x =>
    have h2 : (1 : Int) ≤ (ns.length : Int) := h
    show ((drawTo g G o (hookEnd l ns) (ringIx l 1 (ns.length + 1)) x).length : Int) = (ns.length : Int) + 1
    rw [hl (by rw [hookEnd_len]; exact ring_at (by decide) (by omega)), hookEnd_len]
    omega
  | some x => cases hk
theorem fits_of {m : Mv} {n : Nat} (hk : isSome m = false) (h1 : MvOk m) (h : needs m ≤ (n : Int)) : MvFits m n := by
  cases m with
  | draw l j x => exact ⟨h1.1, h⟩
  | carry x => have h2 : (1 : Int) ≤ (n : Int) := h; show 0 < n; omega
  | off l => have h2 : (2 : Int) ≤ (n : Int) := h; show 0 < n; omega
  | on l x => have h2 : (1 : Int) ≤ (n : Int) := h; show 0 < n; omega
  | some x => cases hk
theorem gains_le (m : Mv) : gains m ≤ 1 := by cases m <;> simp [gains]
section
variable {P : Program} {w : World} {K : PySem.W.Frag} {mg : Str → Option Value} {base : Heap} {S C : Addr}
def Rdo2 (C : Addr) : RD := fun ds M Q => ∃ (r p : Addr) (g G : Int) (o : Option Int) (ns : List Int) (past : List D) (m : Mv), RailAt M C r p (clD g G o) (tI ns) past ∧ past.length < 100000 ∧ MvFits m ns.length ∧ ns.length ≤ 999 ∧ ds = [.raw r, mvD m] ∧
  Q (tI (mvNs g G o ns m)) (become M C r p (clD g G o) (tI ns) past (clD g G (mvCl o m)) (tI (mvNs g G o ns m)))
def Rmove2 (C : Addr) : RD := fun ds M Q => ∃ (r p : Addr) (g G : Int) (o : Option Int) (ns : List Int) (past : List D) (m : Mv) (row : Str), RailAt M C r p (clD g G o) (tI ns) past ∧ past.length < 100000 ∧ MvOk m ∧ isSome m = false ∧ needs m ≤ (ns.length : Int) ∧ ns.length ≤ 999 ∧ row.length ≤ 100 ∧ Txt.split row " " = mvWords m ∧ ds = [.raw r, .str row] ∧
  Q (tI (mvNs g G o ns m)) (become M C r p (clD g G o) (tI ns) past (clD g G (mvCl o m)) (tI (mvNs g G o ns m)))
theorem mv_is {m : Mv} (hk : isSome m = false) : isNon (mvD m) = false ∧ ∃ k : Str, k ≠ "some" ∧ ∀ (M : MM) (Q : D → MM → Prop), Q (.str k) M → IxQ (mvD m) (.int 0) M Q := by
  cases m with
  | draw l j x => exact ⟨rfl, "draw", by decide +kernel, fun M Q z => ⟨_, rfl, z⟩⟩
  | carry x => exact ⟨rfl, "carry", by decide +kernel, fun M Q z => ⟨_, rfl, z⟩⟩
  | off l => exact ⟨rfl, "off", by decide +kernel, fun M Q z => ⟨_, rfl, z⟩⟩
  | on l x => exact ⟨rfl, "on", by decide +kernel, fun M Q z => ⟨_, rfl, z⟩⟩
  | some x => cases hk
/-! the tests ahead of a script that is followed -/
structure ClsIn (K : PySem.W.Frag) (mg : Str → Option Value) (x : Str) (S : Addr) : Prop where
  at_ : mg x = some (.ref S)
  in_ : ∃ om, K.lookup S = some om ∧ om.cls ≠ .type "tuple"
def RchkS (S : Addr) : RD := fun ds M Q => ∃ (s : Addr) (rows : List Str) (g G : Int) (o : Option Int) (ms : List Mv), ScAt M S s rows g G o ms ∧ ds = [.raw s] ∧ Q .non M
def RchkK (S : Addr) : RD := fun ds M Q => ∃ (s : Addr) (rows : List Str) (g G : Int) (o : Option Int) (ms : List Mv), ScAt M S s rows g G o ms ∧ (∀ m, m ∈ ms → isSome m = false) ∧ ds = [.raw s] ∧ Q .non M
def RchkE (S : Addr) : RD := fun ds M Q => ∃ (s : Addr) (rows : List Str) (g G : Int) (o : Option Int) (ms : List Mv) (n : Int), ScAt M S s rows g G o ms ∧ rows.length = ms.length + 1 ∧ enough n ms ∧ ds = [.raw s, .int n] ∧ Q .non M
end
end T01

set_option Elab.async false
set_option linter.all false
set_option autoImplicit false
set_option maxRecDepth 100000
set_option maxHeartbeats 4000000
namespace T01
open PySem L2 DL

def Grow (M M' : MM) : Prop := ∀ x m, M x = some m → M' x = some m
theorem rail_new {M : MM} {C r p : Addr} {c pl : D} {o1 : MO} (hpr : p ≠ r) : RailAt (mupd (mupd (mupd M r o1) p (.lst [])) r (.ins C rn [c, pl, .raw p])) C r p c pl [] :=
  ⟨mupd_same, by rw [mupd_ne hpr, mupd_same], Ne.symm hpr⟩
theorem eqQ_cl {g G : Int} {o : Option Int} {M : MM} {Q : Bool → MM → Prop} (h : Q true M) : EqQ (clD g G o) (clD g G o) M Q := by
  obtain ⟨vs, hvs, _⟩ := cl_tup g G o
  rw [hvs]
  refine eqQ_ints ?_
  rw [decide_eq_true (rfl : vs = vs)]
  exact h
/-- what stands elsewhere stays -/
def Keeps (M M' : MM) (r p : Addr) : Prop := ∀ x m, x ≠ r → x ≠ p → M x = some m → M' x = some m
theorem Keeps.become {M M' : MM} {C r p : Addr} {c pl c' pl' : D} {past : List D} (h : Keeps M M' r p) : Keeps M (become M' C r p c pl past c' pl') r p := fun x m h1 h2 e => by
  rw [become_ne h1 h2]
  exact h x m h1 h2 e
section
variable {P : Program} {w : World} {K : PySem.W.Frag} {mg : Str → Option Value} {base : Heap} {S C : Addr}
/-- moves that may be done one behind the other -/
structure Doable (n : Nat) (ms : List Mv) : Prop where
  few : ms.length ≤ 10
  ok : ∀ m, m ∈ ms → MvOk m
  kn : ∀ m, m ∈ ms → isSome m = false
  en : enough (n : Int) ms
def Rfollow (S C : Addr) : RD := fun ds M Q => ∃ (r p s : Addr) (g G : Int) (o : Option Int) (ns : List Int) (past : List D) (rows : List Str) (ms : List Mv), RailAt M C r p (clD g G o) (tI ns) past ∧ ScAt M S s rows g G o ms ∧ rows.length = ms.length + 1 ∧ Doable ns.length ms ∧ ns.length ≤ 900 ∧ past.length ≤ 90000 ∧
  ds = [.raw r, .raw s] ∧ ∀ M' past', RailAt M' C r p (clD g G (leads g G o ns ms).1) (tI (leads g G o ns ms).2) past' → past'.length = past.length + ms.length → Keeps M M' r p → Q (tI (leads g G o ns ms).2) M'
def Rled (S : Addr) : RD := fun ds M Q => ∃ (s : Addr) (g G : Int) (o : Option Int) (ns : List Int) (rows : List Str) (ms : List Mv), ScAt M S s rows g G o ms ∧ rows.length = ms.length + 1 ∧ ClIn g G o ∧ Stand g G o ns ∧ Doable ns.length ms ∧ ns.length ≤ 900 ∧ ds = [.raw s, tI ns] ∧ ∀ M', Grow M M' → Q (tI (leads g G o ns ms).2) M'
end
end T01

set_option Elab.async false
set_option linter.all false
set_option autoImplicit false
set_option maxRecDepth 100000
set_option maxHeartbeats 4000000
namespace T01
open PySem L2 DL

/-! ### rows as they are written -/
def mvRow : Mv → Str
  | .draw l j x => side l ++ (" " : Str) ++ num j ++ (" to " : Str) ++ num x
  | .carry x => ("carry " : Str) ++ num x
  | .off l => ("off " : Str) ++ side l
  | .on l x => ("on" : Str) ++ (" " : Str) ++ side l ++ (" " : Str) ++ num x
  | .some x => ("some" : Str) ++ (" " : Str) ++ ("to" : Str) ++ (" " : Str) ++ num x
def clRow (g G : Int) : Option Int → Str
  | none => ("cloth " : Str) ++ num g ++ (" " : Str) ++ num G ++ ("" : Str)
  | some e => ("cloth " : Str) ++ num g ++ (" " : Str) ++ num G ++ ((" from " : Str) ++ num e)
/-- words with blanks between -/
def glue : List Str → Str
  | [] => ""
  | [a] => a
  | a :: b :: r => a ++ ((" " : Str) ++ glue (b :: r))
theorem glue_is : ∀ ws : List Str, glue ws = SX.S (TL.joinL [32] (ws.map cod))
  | [] => by decide +kernel
  | [a] => by
    show a = SX.S (TL.joinL [32] [cod a])
    have e : TL.joinL [32] [cod a] = cod a := by simp [TL.joinL]
    rw [e, S_cod]
  | a :: b :: r => by
    show a ++ ((" " : Str) ++ glue (b :: r)) = _
    rw [glue_is (b :: r), blank_is]
    conv => lhs; rw [← S_cod a]
    rw [SX.S_cat, SX.S_cat]
    rfl
theorem glue_split {ws : List Str} (h0 : ws ≠ []) (h : ∀ a, a ∈ ws → noBlank a = true) : Txt.split (glue ws) " " = ws := by
  rw [glue_is, split_words (by simpa using h0) (by
    intro p hp
    obtain ⟨a, ha, rfl⟩ := List.mem_map.mp hp
    exact noBlank_of (h a ha)), List.map_map]
  conv => rhs; rw [← List.map_id ws]
  exact List.map_congr_left fun a _ => S_cod a
theorem side_blank (l : Bool) : noBlank (side l) = true := by cases l <;> decide +kernel
theorem num_nb {x : Int} (h : Near x) : noBlank (num x) = true := (num_blank h.1 h.2).1
theorem mvRow_glue (m : Mv) : mvRow m = glue (mvWords m) := by
  cases m with
  | draw l j x =>
    show side l ++ (" " : Str) ++ num j ++ (" to " : Str) ++ num x = side l ++ ((" " : Str) ++ (num j ++ ((" " : Str) ++ (("to" : Str) ++ ((" " : Str) ++ num x)))))
    rw [to_is]
    simp only [app_assoc]
  | carry x =>
    show ("carry " : Str) ++ num x = ("carry" : Str) ++ ((" " : Str) ++ num x)
    rw [show ("carry " : Str) = ("carry" : Str) ++ (" " : Str) by decide +kernel]
    simp only [app_assoc]
  | off l =>
    show ("off " : Str) ++ side l = ("off" : Str) ++ ((" " : Str) ++ side l)
    rw [show ("off " : Str) = ("off" : Str) ++ (" " : Str) by decide +kernel]
    simp only [app_assoc]
  | on l x =>
    show ("on" : Str) ++ (" " : Str) ++ side l ++ (" " : Str) ++ num x = ("on" : Str) ++ ((" " : Str) ++ (side l ++ ((" " : Str) ++ num x)))
    simp only [app_assoc]
  | some x =>
    show ("some" : Str) ++ (" " : Str) ++ ("to" : Str) ++ (" " : Str) ++ num x = ("some" : Str) ++ ((" " : Str) ++ (("to" : Str) ++ ((" " : Str) ++ num x)))
    simp only [app_assoc]
theorem near_small {j : Int} (h1 : 1 ≤ j) (h2 : j ≤ 9) : Near j := ⟨by omega, by omega⟩
theorem mvRow_split {m : Mv} (h : MvOk m) : Txt.split (mvRow m) " " = mvWords m := by
  rw [mvRow_glue]
  refine glue_split (by cases m <;> simp [mvWords]) fun a ha => ?_
  cases m with
  | draw l j x =>
    simp only [mvWords, List.mem_cons, List.not_mem_nil, or_false] at ha
    rcases ha with rfl | rfl | rfl | rfl
    · exact side_blank l
    · exact num_nb (near_small h.1 (by have := h.2.1; omega))
    · decide +kernel
    · exact num_nb h.2.2
  | carry x =>
    simp only [mvWords, List.mem_cons, List.not_mem_nil, or_false] at ha
    rcases ha with rfl | rfl
    · decide +kernel
    · exact num_nb h
  | off l =>
    simp only [mvWords, List.mem_cons, List.not_mem_nil, or_false] at ha
    rcases ha with rfl | rfl
    · decide +kernel
    · exact side_blank l
  | on l x =>
    simp only [mvWords, List.mem_cons, List.not_mem_nil, or_false] at ha
    rcases ha with rfl | rfl | rfl
    · decide +kernel
    · exact side_blank l
    · exact num_nb h
  | some x =>
    simp only [mvWords, List.mem_cons, List.not_mem_nil, or_false] at ha
    rcases ha with rfl | rfl | rfl
    · decide +kernel
    · decide +kernel
    · exact num_nb h
theorem clRow_glue (g G : Int) (o : Option Int) : clRow g G o = glue (clWords g G o) := by
  have e1 : ("cloth " : Str) = ("cloth" : Str) ++ (" " : Str) := by decide +kernel
  have e2 : (" from " : Str) = (" " : Str) ++ (("from" : Str) ++ (" " : Str)) := by decide +kernel
  cases o with
  | none =>
    show ("cloth " : Str) ++ num g ++ (" " : Str) ++ num G ++ ("" : Str) = ("cloth" : Str) ++ ((" " : Str) ++ (num g ++ ((" " : Str) ++ num G)))
    have e3 : ∀ x : Str, x ++ ("" : Str) = x := fun x => by
      conv => lhs; rw [← S_cod x]
      rw [show ("" : Str) = SX.S [] by decide +kernel, SX.S_cat, List.append_nil, S_cod]
    rw [e3, e1]
    simp only [app_assoc]
  | some e =>
    show ("cloth " : Str) ++ num g ++ (" " : Str) ++ num G ++ ((" from " : Str) ++ num e) = ("cloth" : Str) ++ ((" " : Str) ++ (num g ++ ((" " : Str) ++ (num G ++ ((" " : Str) ++ (("from" : Str) ++ ((" " : Str) ++ num e)))))))
    rw [e1, e2]
    simp only [app_assoc]
theorem clRow_split {g G : Int} {o : Option Int} (h : ClIn g G o) : Txt.split (clRow g G o) " " = clWords g G o := by
  rw [clRow_glue]
  refine glue_split (by cases o <;> simp [clWords]) fun a ha => ?_
  have hn := h.near
  cases o with
  | none =>
    simp only [clWords, List.mem_cons, List.not_mem_nil, or_false] at ha
    rcases ha with rfl | rfl | rfl
    · decide +kernel
    · exact num_nb (hn g (by simp [clNums]))
    · exact num_nb (hn G (by simp [clNums]))
  | some e =>
    simp only [clWords, List.mem_cons, List.not_mem_nil, or_false] at ha
    rcases ha with rfl | rfl | rfl | rfl | rfl
    · decide +kernel
    · exact num_nb (hn g (by simp [clNums]))
    · exact num_nb (hn G (by simp [clNums]))
    · decide +kernel
    · exact num_nb (hn e (by simp [clNums]))
/-! no line feed in a row; rows joined and cut again -/
def noFeed (x : Str) : Bool := !(cod x).contains 10
theorem noFeed_app {x y : Str} (hx : noFeed x = true) (hy : noFeed y = true) : noFeed (x ++ y) = true := by
  unfold noFeed at *
  rw [app_cod]
  have e : cod (SX.S (cod x ++ cod y)) = cod x ++ cod y := by simp [cod, SX.S]
  rw [e]
  simp at hx hy ⊢
  exact ⟨hx, hy⟩
theorem nums_feed : (List.range 199).all (fun k => noFeed (num ((k : Int) - 99))) = true := by decide +kernel
theorem num_nf {n : Int} (h : Near n) : noFeed (num n) = true := by
  have h1 := h.1
  have h2 := h.2
  have z := List.all_eq_true.mp nums_feed (n + 99).toNat (List.mem_range.mpr (by omega))
  have e : (((n + 99).toNat : Nat) : Int) - 99 = n := by omega
  rwa [e] at z
theorem side_nf (l : Bool) : noFeed (side l) = true := by cases l <;> decide +kernel
theorem mvRow_nf {m : Mv} (h : MvOk m) : noFeed (mvRow m) = true := by
  cases m with
  | draw l j x => exact noFeed_app (noFeed_app (noFeed_app (noFeed_app (side_nf l) (by decide +kernel)) (num_nf (near_small h.1 (by have := h.2.1; omega)))) (by decide +kernel)) (num_nf h.2.2)
  | carry x => exact noFeed_app (by decide +kernel) (num_nf h)
  | off l => exact noFeed_app (by decide +kernel) (side_nf l)
  | on l x => exact noFeed_app (noFeed_app (noFeed_app (noFeed_app (by decide +kernel) (by decide +kernel)) (side_nf l)) (by decide +kernel)) (num_nf h)
  | some x => exact noFeed_app (noFeed_app (noFeed_app (noFeed_app (by decide +kernel) (by decide +kernel)) (by decide +kernel)) (by decide +kernel)) (num_nf h)
theorem clRow_nf {g G : Int} {o : Option Int} (h : ClIn g G o) : noFeed (clRow g G o) = true := by
  have hn := h.near
  cases o with
  | none => exact noFeed_app (noFeed_app (noFeed_app (noFeed_app (by decide +kernel) (num_nf (hn g (by simp [clNums])))) (by decide +kernel)) (num_nf (hn G (by simp [clNums])))) (by decide +kernel)
  | some e => exact noFeed_app (noFeed_app (noFeed_app (noFeed_app (by decide +kernel) (num_nf (hn g (by simp [clNums])))) (by decide +kernel)) (num_nf (hn G (by simp [clNums])))) (noFeed_app (by decide +kernel) (num_nf (hn e (by simp [clNums]))))
theorem num_len {x : Int} (h : Near x) : (num x).length ≤ 3 := (num_blank h.1 h.2).2
theorem side_len (l : Bool) : (side l).length ≤ 5 := by cases l <;> decide +kernel
theorem mvRow_len {m : Mv} (h : MvOk m) : (mvRow m).length ≤ 100 := by
  have c1 : (" " : Str).length = 1 := by decide +kernel
  have c2 : (" to " : Str).length = 4 := by decide +kernel
  have c3 : ("carry " : Str).length = 6 := by decide +kernel
  have c4 : ("off " : Str).length = 4 := by decide +kernel
  have c5 : ("on" : Str).length = 2 := by decide +kernel
  have c6 : ("some" : Str).length = 4 := by decide +kernel
  have c7 : ("to" : Str).length = 2 := by decide +kernel
  cases m with
  | draw l j x =>
    have := side_len l
    have := num_len (near_small h.1 (by have := h.2.1; omega))
    have := num_len h.2.2
    unfold mvRow
    simp only [app_len]
    omega
  | carry x =>
    have := num_len h
    unfold mvRow
    simp only [app_len]
    omega
  | off l =>
    have := side_len l
    unfold mvRow
    simp only [app_len]
    omega
  | on l x =>
    have := side_len l
    have := num_len h
    unfold mvRow
    simp only [app_len]
    omega
  | some x =>
    have := num_len h
    unfold mvRow
    simp only [app_len]
    omega
theorem clRow_len {g G : Int} {o : Option Int} (h : ClIn g G o) : (clRow g G o).length ≤ 100 := by
  have hn := h.near
  have c1 : (" " : Str).length = 1 := by decide +kernel
  have c2 : ("cloth " : Str).length = 6 := by decide +kernel
  have c3 : (" from " : Str).length = 6 := by decide +kernel
  have c4 : ("" : Str).length = 0 := by decide +kernel
  have a1 := num_len (hn g (by simp [clNums]))
  have a2 := num_len (hn G (by simp [clNums]))
  cases o with
  | none =>
    unfold clRow
    simp only [app_len]
    omega
  | some e =>
    have a3 := num_len (hn e (by simp [clNums]))
    unfold clRow
    simp only [app_len]
    omega
/-- the rows of a script -/
def sheet (g G : Int) (o : Option Int) (ms : List Mv) : List Str := clRow g G o :: ms.map mvRow
theorem sheet_is {g G : Int} {o : Option Int} {ms : List Mv} (h : ClIn g G o) (hf : ms.length ≤ 10) (ho : ∀ m, m ∈ ms → MvOk m) : Sheet (sheet g G o ms) g G o ms where
  len := by simp [sheet]
  few := hf
  cl := h
  hl := clRow_len h
  hw := clRow_split h
  ok := fun k hk => ho _ (List.getElem_mem hk)
  rl := fun k hk => by
    have e : (sheet g G o ms).getD (k + 1) "" = mvRow ms[k] := by simp [sheet, hk]
    rw [e]
    exact mvRow_len (ho _ (List.getElem_mem hk))
  rs := fun k hk => by
    have e : (sheet g G o ms).getD (k + 1) "" = mvRow ms[k] := by simp [sheet, hk]
    rw [e]
    exact mvRow_split (ho _ (List.getElem_mem hk))
end T01

set_option Elab.async false
set_option linter.all false
set_option autoImplicit false
set_option maxRecDepth 100000
set_option maxHeartbeats 4000000
namespace T01
open PySem L2 DL

/-! ### the can -/
def CanAt (M : MM) (c : Addr) : Prop := ∃ a b : Int, M c = some (.lst [.int a, .int b]) ∧ 0 ≤ b ∧ b < 2147483423
structure Ext (M : MM) (c : Addr) (M' : MM) : Prop where
  can : CanAt M' c
  up : ∀ x m, x ≠ c → M x = some m → M' x = some m
section
variable {M M1 M2 : MM} {a c : Addr} {o : MO}
theorem Grow.refl : Grow M M := fun _ _ h => h
theorem Grow.trans (h : Grow M M1) (k : Grow M1 M2) : Grow M M2 := fun x m e => k x m (h x m e)
theorem Grow.new (h : M a = none) : Grow M (mupd M a o) := fun x m e => by
  rw [mupd_ne (fun z => by subst z; rw [h] at e; cases e)]
  exact e
/-- behind a new one nothing else is touched by its changes -/
theorem Grow.upd (h : Grow M M1) (ha : M a = none) : Grow M (mupd M1 a o) := fun x m e => by
  rw [mupd_ne (fun z => by subst z; rw [ha] at e; cases e)]
  exact h x m e
theorem Ext.refl (h : CanAt M c) : Ext M c M := ⟨h, fun _ _ _ e => e⟩
theorem Ext.trans (h : Ext M c M1) (k : Ext M1 c M2) : Ext M c M2 := ⟨k.can, fun x m n e => k.up x m n (h.up x m n e)⟩
theorem CanAt.grow (h : CanAt M c) (k : Grow M M1) : CanAt M1 c := by
  obtain ⟨a, b, e, h1⟩ := h
  exact ⟨a, b, k _ _ e, h1⟩
theorem Ext.grow (h : Ext M c M1) (k : Grow M1 M2) : Ext M c M2 := ⟨h.can.grow k, fun x m n e => k _ _ (h.up x m n e)⟩
theorem Ext.upd (h : Ext M c M1) (ha : M a = none) (hc : a ≠ c) : Ext M c (mupd M1 a o) := ⟨by
  obtain ⟨x, y, e, z⟩ := h.can
  exact ⟨x, y, by rw [mupd_ne (Ne.symm hc)]; exact e, z⟩, fun x m n e => by
  rw [mupd_ne (fun z => by subst z; rw [ha] at e; cases e)]
  exact h.up x m n e⟩
theorem CanAt.ne (h : CanAt M c) (ha : M a = none) : a ≠ c := fun z => by
  subst z
  obtain ⟨_, _, e, _⟩ := h
  rw [ha] at e
  cases e
end
section
variable {P : Program} {w : World} {K : PySem.W.Frag} {mg : Str → Option Value} {base : Heap}
def Rcan : RD := fun ds M Q => ∃ (cs : List Int) (t : Nat), ds = [.frz (cs.map .int), .int (t : Int)] ∧ t < 1000 ∧ cs.length ≤ 1000 ∧ ∀ c M', M c = none → Ext M c M' → Q (.raw c) M'
theorem cut_ints (cs : List Int) (lo hi : Option Int) : ∃ ms : List Int, cutD (cs.map D.int) lo hi = ms.map .int ∧ ms.length ≤ cs.length := by
  unfold cutD
  refine ⟨_, by rw [← List.map_drop, ← List.map_take], ?_⟩
  simp
  omega
theorem mod_in (x : Int) : 0 ≤ x % 2147483423 ∧ x % 2147483423 < 2147483423 := ⟨Int.emod_nonneg _ (by decide), Int.emod_lt_of_pos _ (by decide)⟩
def Rpour : RD := fun ds M Q => ∃ (c : Addr) (t : Int), CanAt M c ∧ 0 < t ∧ t < 1073741824 ∧ ds = [.raw c, .int t] ∧ ∀ k M', 0 ≤ k → k < t → Ext M c M' → Q (.int k) M'
def Rone : RD := fun ds M Q => ∃ (c : Addr) (ths : List D), CanAt M c ∧ 0 < ths.length ∧ ths.length < 1000 ∧ ds = [.raw c, .lst ths] ∧ ∀ d M', d ∈ ths → Ext M c M' → Q d M'
def Rspot : RD := fun ds M Q => ∃ c : Addr, CanAt M c ∧ ds = [.raw c] ∧ ∀ s M', -99 ≤ s → s ≤ 99 → Ext M c M' → Q (.int s) M'
def Rgoods : RD := fun ds M Q => ∃ c : Addr, CanAt M c ∧ ds = [.raw c] ∧ ∀ g G o M', ClIn g G o → Ext M c M' → Q (clD g G o) M'
def Rstanding : RD := fun ds M Q => ∃ (c : Addr) (g G : Int) (o : Option Int) (many : Nat), CanAt M c ∧ ClIn g G o ∧ 0 < many ∧ many ≤ 1000 ∧ ds = [.raw c, clD g G o, .int (many : Int)] ∧
  ∀ s ns M', s ≠ c → M s = none → M' s = some (.lst (ns.map .int)) → Stand g G o ns → ns.length = many → Ext M c M' → Q (.raw s) M'
end
end T01

set_option Elab.async false
set_option linter.all false
set_option autoImplicit false
set_option maxRecDepth 100000
set_option maxHeartbeats 4000000
namespace T01
open PySem L2 DL

/-! ### texts of rows -/
theorem feed_is : ("\n" : Str) = SX.S [10] := by decide +kernel
theorem rows_cut {rows : List Str} (h0 : rows ≠ []) (h : ∀ a, a ∈ rows → noFeed a = true) : Txt.split (Txt.join "\n" rows) "\n" = rows := by
  have e : rows = (rows.map cod).map SX.S := by
    rw [List.map_map]
    conv => lhs; rw [← List.map_id rows]
    exact List.map_congr_left fun a _ => (S_cod a).symm
  have e2 : Txt.join "\n" rows = SX.S (TL.joinL [10] (rows.map cod)) := by
    conv => lhs; rw [e, feed_is]
    exact SX.join_S _ _
  rw [e2, feed_is, SX.split_S (by decide) (by decide), SX.spl_join (by simpa using h0) (fun p hp => by
    obtain ⟨a, ha, rfl⟩ := List.mem_map.mp hp
    have := h a ha
    unfold noFeed at this
    simpa using this)]
  exact e.symm
theorem sheet_nf {g G : Int} {o : Option Int} {ms : List Mv} (h : ClIn g G o) (ho : ∀ m, m ∈ ms → MvOk m) : ∀ a, a ∈ sheet g G o ms → noFeed a = true := by
  intro a ha
  rcases List.mem_cons.mp ha with rfl | ha
  · exact clRow_nf h
  · obtain ⟨m, hm, rfl⟩ := List.mem_map.mp ha
    exact mvRow_nf (ho m hm)
theorem sheet_cut {g G : Int} {o : Option Int} {ms : List Mv} (h : ClIn g G o) (ho : ∀ m, m ∈ ms → MvOk m) : Txt.split (Txt.join "\n" (sheet g G o ms)) "\n" = sheet g G o ms := rows_cut (by simp [sheet]) (sheet_nf h ho)
theorem sheet_sum {g G : Int} {o : Option Int} {ms : List Mv} (h : ClIn g G o) (ho : ∀ m, m ∈ ms → MvOk m) : ((sheet g G o ms).map (·.length)).sum ≤ 100 * (ms.length + 1) := by
  have hr : ∀ ms : List Mv, (∀ m, m ∈ ms → MvOk m) → ((ms.map mvRow).map (·.length)).sum ≤ 100 * ms.length := by
    intro ms
    induction ms with
    | nil => intro _; simp
    | cons m ms ih =>
      intro ho
      have h1 := mvRow_len (ho m List.mem_cons_self)
      have h2 := ih fun m hm => ho m (List.mem_cons_of_mem _ hm)
      simp only [List.map_cons, List.sum_cons, List.length_cons]
      omega
  have h1 := clRow_len h
  have h2 := hr ms ho
  simp only [sheet, List.map_cons, List.sum_cons]
  omega
/-! ### drawn steps -/
def stD : Mv → D
  | .draw l j x => .tup [.str (side l), .int j, .int x]
  | .carry x => .tup [.str "carry", .str "", .int x]
  | .off l => .tup [.str "off", .str (side l), .int 0]
  | .on l x => .tup [.str "on", .str (side l), .int x]
  | .some x => .tup [.str "some", .str "to", .int x]
def allWords : List Str := ["left", "right", "carry", "off", "on", "some"]
section
variable {P : Program} {w : World} {K : PySem.W.Frag} {mg : Str → Option Value} {base : Heap}
def Rstep : RD := fun ds M Q => ∃ (c : Addr) (ws : List Str), CanAt M c ∧ 0 < ws.length ∧ ws.length < 1000 ∧ (∀ a, a ∈ ws → a ∈ allWords) ∧ ds = [.raw c, lS ws] ∧ ∀ m M', MvOk m → (isSome m = true → ("some" : Str) ∈ ws) → Ext M c M' → Q (stD m) M'
end
end T01

set_option Elab.async false
set_option linter.all false
set_option autoImplicit false
set_option maxRecDepth 100000
set_option maxHeartbeats 4000000
namespace T01
open PySem L2 DL

theorem mdel_back {M : MM} {a : Addr} {o : MO} (h : M a = some o) : M = mupd (mdel M a) a o := by
  funext b
  unfold mdel mupd
  by_cases e : b = a
  · rw [if_pos e, e, h]
  · rw [if_neg e]
    show M b = if b = a then none else M b
    rw [if_neg e]
theorem mdel_at {M : MM} {a : Addr} : mdel M a a = none := by unfold mdel; rw [if_pos rfl]
theorem mdel_ne {M : MM} {a b : Addr} (h : b ≠ a) : mdel M a b = M b := by unfold mdel; rw [if_neg h]
/-- a turn of a comprehension that draws from the can -/
theorem Ext.turn {M M' M2 : MM} {a c : Addr} {o : MO} (h : Ext M c M') (ha : M' a = none) (x : Ext (mupd M' a o) c M2) : a ≠ c ∧ M2 a = some o ∧ Ext M c (mdel M2 a) := by
  have hac : a ≠ c := h.can.ne ha
  refine ⟨hac, x.up _ _ hac mupd_same, ⟨?_, fun y m hy e => ?_⟩⟩
  · obtain ⟨u, v, e, z⟩ := x.can
    exact ⟨u, v, by rw [mdel_ne (Ne.symm hac)]; exact e, z⟩
  · have e1 := h.up y m hy e
    have hya : y ≠ a := fun z => by subst z; rw [ha] at e1; cases e1
    rw [mdel_ne hya]
    exact x.up y m hy (by rw [mupd_ne hya]; exact e1)
section
variable {P : Program} {w : World} {K : PySem.W.Frag} {mg : Str → Option Value} {base : Heap} {S : Addr}
/-- steps as they were drawn from words -/
structure StOk (ws : List Str) (ms : List Mv) : Prop where
  ok : ∀ m, m ∈ ms → MvOk m
  kn : ∀ m, m ∈ ms → isSome m = true → ("some" : Str) ∈ ws
def Rsteps : RD := fun ds M Q => ∃ (c : Addr) (most : Int) (ws : List Str), CanAt M c ∧ 0 ≤ most ∧ most ≤ 100 ∧ 0 < ws.length ∧ ws.length < 1000 ∧ (∀ a, a ∈ ws → a ∈ allWords) ∧ ds = [.raw c, .int most, lS ws] ∧ ∀ ms M', (ms.length : Int) ≤ most → StOk ws ms → Ext M c M' → Q (.lst (ms.map stD)) M'
def Rline : RD := fun ds M Q => ∃ m : Mv, MvOk m ∧ ds = [stD m] ∧ Q (.str (mvRow m)) M
end
end T01

set_option Elab.async false
set_option linter.all false
set_option autoImplicit false
set_option maxRecDepth 100000
set_option maxHeartbeats 4000000
/-! drawings: further to the right, moved along, seen in a mirror -/
namespace T01
open PySem L2 DL

structure Le (ns ms : List Int) : Prop where
  len : ns.length = ms.length
  le : ∀ k : Nat, k < ns.length → ns.getD k 0 ≤ ms.getD k 0
theorem Le.refl (ns : List Int) : Le ns ns := ⟨rfl, fun _ _ => Int.le_refl _⟩
theorem tab_le {n : Nat} {f h : Nat → Int} (hf : ∀ k, k < n → f k ≤ h k) : Le (tab n f) (tab n h) := ⟨by rw [tab_len, tab_len], fun k hk => by
  rw [tab_len] at hk
  rw [tab_getD hk, tab_getD hk]
  exact hf k hk⟩
section
variable {g G : Int} {o : Option Int} {ns ms : List Int} {i : Nat} {goal goal' b : Int}
theorem dv_le (h : Le ns ms) (hg : goal ≤ goal') {k : Nat} (hk : k < ns.length) : dv g G ns i goal k ≤ dv g G ms i goal' k := by
  have e := h.le k hk
  by_cases h1 : k < i
  · unfold dv
    rw [if_pos h1, if_pos h1]
    unfold dLeft
    generalize ((i : Int) - (k : Int)) * g = A
    generalize ((i : Int) - (k : Int)) * G = B
    omega
  · by_cases h2 : k = i
    · subst h2
      rw [dv_at, dv_at]
      exact hg
    · obtain ⟨m, rfl⟩ : ∃ m, k = i + 1 + m := ⟨k - (i + 1), by omega⟩
      unfold dv
      rw [if_neg (by omega), if_neg (by omega), if_neg (by omega), if_neg (by omega)]
      have e3 : i + 1 + m - (i + 1) = m := by omega
      rw [e3]
      unfold dRight
      generalize ((m : Int) + 1) * g = A
      generalize ((m : Int) + 1) * G = B
      omega
theorem draw_le (h : Le ns ms) (hi : i < ns.length) (hg : goal ≤ goal') : Le (drawL g G ns i goal) (drawL g G ms i goal') := by
  rw [drawL_tab hi, drawL_tab (by rw [← h.len]; exact hi), ← h.len]
  exact tab_le fun k hk => dv_le h hg hk
theorem map_getD {f : Int → Int} {k : Nat} (hk : k < ns.length) : (ns.map f).getD k 0 = f (ns.getD k 0) := by
  rw [List.getD_eq_getElem?_getD, List.getElem?_map, getD_some hk]
  rfl
/-- all moved along -/
theorem dv_by {k : Nat} (hk : k < ns.length) : dv g G (ns.map (· + b)) i (goal + b) k = dv g G ns i goal k + b := by
  by_cases h1 : k < i
  · unfold dv
    rw [if_pos h1, if_pos h1]
    unfold dLeft
    rw [map_getD hk]
    generalize ((i : Int) - (k : Int)) * g = A
    generalize ((i : Int) - (k : Int)) * G = B
    omega
  · by_cases h2 : k = i
    · subst h2
      rw [dv_at, dv_at]
    · obtain ⟨m, rfl⟩ : ∃ m, k = i + 1 + m := ⟨k - (i + 1), by omega⟩
      unfold dv
      rw [if_neg (by omega), if_neg (by omega), if_neg (by omega), if_neg (by omega)]
      have e3 : i + 1 + m - (i + 1) = m := by omega
      rw [e3]
      unfold dRight
      rw [map_getD hk]
      generalize ((m : Int) + 1) * g = A
      generalize ((m : Int) + 1) * G = B
      omega
theorem tab_map {n : Nat} {f : Nat → Int} {h : Int → Int} : (tab n f).map h = tab n fun k => h (f k) := by simp [tab]
theorem draw_by (hi : i < ns.length) : drawL g G (ns.map (· + b)) i (goal + b) = (drawL g G ns i goal).map (· + b) := by
  rw [drawL_tab (by rw [List.length_map]; exact hi), drawL_tab hi, List.length_map, tab_map]
  exact tab_ext fun k hk => dv_by hk
/-- seen in a mirror -/
def mir (ns : List Int) : List Int := ns.reverse.map (- ·)
theorem mir_len : (mir ns).length = ns.length := by simp [mir]
theorem mir_getD {k : Nat} (hk : k < ns.length) : (mir ns).getD k 0 = -(ns.getD (ns.length - 1 - k) 0) := by
  unfold mir
  rw [map_getD (by simpa using hk), List.getD_eq_getElem?_getD, List.getElem?_reverse hk, List.getD_eq_getElem?_getD]
theorem mir_tab {n : Nat} {f : Nat → Int} : mir (tab n f) = tab n fun k => -(f (n - 1 - k)) := by
  apply List.ext_getElem?
  intro j
  by_cases hj : j < n
  · rw [tab_get hj]
    have h1 : j < (tab n f).length := by rw [tab_len]; exact hj
    rw [getD_some (by rw [mir_len]; exact h1), mir_getD h1, tab_len, tab_getD (by omega)]
  · rw [List.getElem?_eq_none (by rw [mir_len, tab_len]; omega), List.getElem?_eq_none (by rw [tab_len]; omega)]
theorem dv_mir (hg : g ≤ G) (hi : i < ns.length) {k : Nat} (hk : k < ns.length) : dv g G (mir ns) (ns.length - 1 - i) (-goal) k = -(dv g G ns i goal (ns.length - 1 - k)) := by
  have hm := mir_getD (ns := ns) hk
  by_cases h2 : k = ns.length - 1 - i
  · subst h2
    have e : ns.length - 1 - (ns.length - 1 - i) = i := by omega
    rw [dv_at, e, dv_at]
  · by_cases h1 : k < ns.length - 1 - i
    · -- to the left of it in the mirror: to the right of it
      obtain ⟨m, hmk⟩ : ∃ m, ns.length - 1 - k = i + 1 + m := ⟨ns.length - 1 - k - (i + 1), by omega⟩
      have e1 : dv g G ns i goal (ns.length - 1 - k) = dRight g G ns i goal m := by
        rw [hmk]
        unfold dv
        rw [if_neg (by omega), if_neg (by omega)]
        congr 1
        omega
      have e2 : dv g G (mir ns) (ns.length - 1 - i) (-goal) k = dLeft g G (mir ns) (ns.length - 1 - i) (-goal) k := by unfold dv; rw [if_pos h1]
      rw [e1, e2]
      unfold dLeft dRight
      rw [hm, hmk]
      have e3 : (((ns.length - 1 - i : Nat) : Int) - (k : Int)) = (m : Int) + 1 := by omega
      rw [e3]
      have a3 := mul_le (m := (m : Int) + 1) (by omega) hg
      generalize ((m : Int) + 1) * g = A at *
      generalize ((m : Int) + 1) * G = B at *
      omega
    · obtain ⟨m, hmk⟩ : ∃ m, k = (ns.length - 1 - i) + 1 + m := ⟨k - (ns.length - 1 - i + 1), by omega⟩
      have e1 : dv g G ns i goal (ns.length - 1 - k) = dLeft g G ns i goal (ns.length - 1 - k) := by unfold dv; rw [if_pos (by omega)]
      have e2 : dv g G (mir ns) (ns.length - 1 - i) (-goal) k = dRight g G (mir ns) (ns.length - 1 - i) (-goal) m := by
        rw [hmk]
        unfold dv
        rw [if_neg (by omega), if_neg (by omega)]
        congr 1
        omega
      rw [e1, e2]
      unfold dLeft dRight
      rw [← hmk, hm]
      have e3 : ((i : Int) - ((ns.length - 1 - k : Nat) : Int)) = (m : Int) + 1 := by omega
      rw [e3]
      have a3 := mul_le (m := (m : Int) + 1) (by omega) hg
      generalize ((m : Int) + 1) * g = A at *
      generalize ((m : Int) + 1) * G = B at *
      omega
theorem draw_mir (hg : g ≤ G) (hi : i < ns.length) : drawL g G (mir ns) (ns.length - 1 - i) (-goal) = mir (drawL g G ns i goal) := by
  rw [drawL_tab (by rw [mir_len]; omega), drawL_tab hi, mir_len, mir_tab]
  exact tab_ext fun k hk => dv_mir hg hi hk
end
end T01

set_option Elab.async false
set_option linter.all false
set_option autoImplicit false
set_option maxRecDepth 100000
set_option maxHeartbeats 4000000
/-! moves: further to the right, seen in a mirror -/
namespace T01
open PySem L2 DL

section
variable {g G : Int} {o : Option Int} {ns ms : List Int}
theorem Le.map (h : Le ns ms) (x : Int) : Le (ns.map (· + x)) (ms.map (· + x)) := ⟨by simp [h.len], fun k hk => by
  rw [List.length_map] at hk
  rw [map_getD hk, map_getD (by rw [← h.len]; exact hk)]
  have := h.le k hk
  omega⟩
theorem drop_getD {k : Nat} : (ns.drop 1).getD k 0 = ns.getD (k + 1) 0 := by
  rw [List.getD_eq_getElem?_getD, List.getElem?_drop, Nat.add_comm 1 k, List.getD_eq_getElem?_getD]
theorem init_getD {k : Nat} (hk : k < ns.length - 1) : ns.dropLast.getD k 0 = ns.getD k 0 := by
  rw [List.getD_eq_getElem?_getD, List.dropLast_eq_take, List.getElem?_take, if_pos hk, List.getD_eq_getElem?_getD]
theorem Le.cut (h : Le ns ms) (l : Bool) : Le (cutEnd l ns) (cutEnd l ms) := by
  have hl := h.len
  cases l with
  | true =>
    refine ⟨by simp [cutEnd, hl], fun k hk => ?_⟩
    show (ns.drop 1).getD k 0 ≤ (ms.drop 1).getD k 0
    rw [drop_getD, drop_getD]
    refine h.le _ ?_
    have : k < (ns.drop 1).length := hk
    rw [List.length_drop] at this
    omega
  | false =>
    refine ⟨by simp [cutEnd, hl], fun k hk => ?_⟩
    have hk' : k < ns.dropLast.length := hk
    rw [List.length_dropLast] at hk'
    show ns.dropLast.getD k 0 ≤ ms.dropLast.getD k 0
    rw [init_getD hk', init_getD (by rw [← hl]; exact hk')]
    exact h.le _ (by omega)
theorem snoc_getD {a : Int} {k : Nat} (hk : k < ns.length) : (ns ++ [a]).getD k 0 = ns.getD k 0 := by
  rw [List.getD_eq_getElem?_getD, List.getElem?_append_left hk, List.getD_eq_getElem?_getD]
theorem snoc_last {a : Int} : (ns ++ [a]).getD ns.length 0 = a := by
  rw [List.getD_eq_getElem?_getD, List.getElem?_append_right (Nat.le_refl _)]
  simp
theorem Le.hook (h : Le ns ms) (h0 : 0 < ns.length) (l : Bool) : Le (hookEnd l ns) (hookEnd l ms) := by
  have hl := h.len
  cases l with
  | true =>
    refine ⟨by simp [hookEnd, hl], fun k hk => ?_⟩
    show (ns.getD 0 0 :: ns).getD k 0 ≤ (ms.getD 0 0 :: ms).getD k 0
    cases k with
    | zero => exact h.le 0 h0
    | succ k =>
      have hk' : k + 1 < (ns.getD 0 0 :: ns).length := hk
      exact h.le k (by rw [List.length_cons] at hk'; omega)
  | false =>
    refine ⟨by simp [hookEnd, hl], fun k hk => ?_⟩
    have hk' : k < (ns ++ [ns.getD (ns.length - 1) 0]).length := hk
    rw [List.length_append, List.length_singleton] at hk'
    show (ns ++ [ns.getD (ns.length - 1) 0]).getD k 0 ≤ (ms ++ [ms.getD (ms.length - 1) 0]).getD k 0
    by_cases hlt : k < ns.length
    · rw [snoc_getD hlt, snoc_getD (by omega)]
      exact h.le k hlt
    · have e : k = ns.length := by omega
      subst e
      rw [snoc_last, hl, snoc_last, ← hl]
      exact h.le _ (by omega)
/-- a standing further to the right is led further to the right -/
theorem Le.move (h : Le ns ms) {m : Mv} (hk : isSome m = false) (h1 : MvOk m) (hn : needs m ≤ (ns.length : Int)) : Le (mvNs g G o ns m) (mvNs g G o ms m) := by
  cases m with
  | draw l j x =>
    show Le (drawL g G ns (ringIx l j ns.length) _) (drawL g G ms (ringIx l j ms.length) _)
    rw [← h.len]
    exact draw_le h (ring_at h1.1 hn) (Int.le_refl _)
  | carry x => exact h.map x
  | off l => exact h.cut l
  | on l x =>
    have h2 : (1 : Int) ≤ (ns.length : Int) := hn
    show Le (drawL g G (hookEnd l ns) (ringIx l 1 (ns.length + 1)) _) (drawL g G (hookEnd l ms) (ringIx l 1 (ms.length + 1)) _)
    rw [← h.len]
    exact draw_le (h.hook (by omega) l) (by rw [hookEnd_len]; exact ring_at (by decide) (by omega)) (Int.le_refl _)
  | some x => cases hk
theorem Le.leads : ∀ {ks : List Mv} {ns ms : List Int} {o : Option Int}, Le ns ms → (∀ m, m ∈ ks → MvOk m) → (∀ m, m ∈ ks → isSome m = false) → enough (ns.length : Int) ks → Le (leads g G o ns ks).2 (leads g G o ms ks).2
  | [], _, _, _, h, _, _, _ => h
  | m :: ks, ns, ms, o, h, h1, h2, h3 => by
    obtain ⟨a, b⟩ : needs m ≤ (ns.length : Int) ∧ enough ((ns.length : Int) + gains m) ks := h3
    have k1 := h2 m List.mem_cons_self
    have k2 := h1 m List.mem_cons_self
    show Le (T01.leads g G (mvCl o m) (mvNs g G o ns m) ks).2 (T01.leads g G (mvCl o m) (mvNs g G o ms m) ks).2
    exact Le.leads (h.move k1 k2 a) (fun m hm => h1 m (List.mem_cons_of_mem _ hm)) (fun m hm => h2 m (List.mem_cons_of_mem _ hm)) (by rw [mvNs_len k1 k2 a]; exact b)
/-! the mirror -/
def mvMir : Mv → Mv
  | .draw l j x => .draw (!l) j (-x)
  | .carry x => .carry (-x)
  | .off l => .off (!l)
  | .on l x => .on (!l) (-x)
  | .some x => .some (-x)
theorem mir_cons {a : Int} : mir (a :: ns) = mir ns ++ [-a] := by simp [mir]
theorem mir_snoc {a : Int} : mir (ns ++ [a]) = -a :: mir ns := by simp [mir]
theorem ring_mir {l : Bool} {j : Int} {n : Nat} (h1 : 1 ≤ j) (h2 : j ≤ (n : Int)) : ringIx (!l) j n = n - 1 - ringIx l j n := by
  cases l
  · show (j - 1).toNat = n - 1 - ((n : Int) - j).toNat
    omega
  · show ((n : Int) - j).toNat = n - 1 - (j - 1).toNat
    omega
theorem cut_mir (l : Bool) : cutEnd (!l) (mir ns) = mir (cutEnd l ns) := by
  cases l with
  | true =>
    show (mir ns).dropLast = mir (ns.drop 1)
    cases ns with
    | nil => rfl
    | cons a ns => rw [mir_cons, List.dropLast_concat]; rfl
  | false =>
    show (mir ns).drop 1 = mir ns.dropLast
    rcases List.eq_nil_or_concat ns with e | ⟨init, z, e⟩
    · subst e; rfl
    · rw [e, List.concat_eq_append, mir_snoc, List.dropLast_concat]; rfl
theorem hook_mir (h0 : 0 < ns.length) (l : Bool) : hookEnd (!l) (mir ns) = mir (hookEnd l ns) := by
  cases l with
  | true =>
    show mir ns ++ [(mir ns).getD ((mir ns).length - 1) 0] = mir (ns.getD 0 0 :: ns)
    rw [mir_cons, mir_len, mir_getD (by omega)]
    have e : ns.length - 1 - (ns.length - 1) = 0 := by omega
    rw [e]
  | false =>
    show (mir ns).getD 0 0 :: mir ns = mir (ns ++ [ns.getD (ns.length - 1) 0])
    rw [mir_snoc, mir_getD h0]
    rfl
theorem carry_mir {x : Int} : (mir ns).map (· + -x) = mir (ns.map (· + x)) := by
  unfold mir
  rw [List.map_map, ← List.map_reverse, List.map_map]
  refine List.map_congr_left fun a _ => ?_
  show -a + -x = -(a + x)
  omega
theorem mvNs_mir (hg : g ≤ G) {m : Mv} (hk : isSome m = false) (h1 : MvOk m) (hn : needs m ≤ (ns.length : Int)) : mvNs g G none (mir ns) (mvMir m) = mir (mvNs g G none ns m) := by
  cases m with
  | draw l j x =>
    show drawL g G (mir ns) (ringIx (!l) j (mir ns).length) (-x) = mir (drawL g G ns (ringIx l j ns.length) x)
    rw [mir_len, ring_mir h1.1 hn]
    exact draw_mir hg (ring_at h1.1 hn)
  | carry x => exact carry_mir
  | off l => exact cut_mir l
  | on l x =>
    have h2 : (1 : Int) ≤ (ns.length : Int) := hn
    have hl := hookEnd_len (l := l) (ns := ns)
    show drawL g G (hookEnd (!l) (mir ns)) (ringIx (!l) 1 ((mir ns).length + 1)) (-x) = mir (drawL g G (hookEnd l ns) (ringIx l 1 (ns.length + 1)) x)
    rw [hook_mir (by omega), mir_len, ring_mir (by decide) (by omega), ← hl]
    exact draw_mir hg (by rw [hl]; exact ring_at (by decide) (by omega))
  | some x => cases hk
theorem mvCl_none (m : Mv) : mvCl none m = none := by cases m <;> rfl
theorem leads_mir (hg : g ≤ G) : ∀ {ks : List Mv} {ns : List Int}, (∀ m, m ∈ ks → MvOk m) → (∀ m, m ∈ ks → isSome m = false) → enough (ns.length : Int) ks → (T01.leads g G none (mir ns) (ks.map mvMir)).2 = mir (T01.leads g G none ns ks).2
  | [], _, _, _, _ => rfl
  | m :: ks, ns, h1, h2, h3 => by
    obtain ⟨a, b⟩ : needs m ≤ (ns.length : Int) ∧ enough ((ns.length : Int) + gains m) ks := h3
    have k1 := h2 m List.mem_cons_self
    have k2 := h1 m List.mem_cons_self
    show (T01.leads g G (mvCl none (mvMir m)) (mvNs g G none (mir ns) (mvMir m)) (ks.map mvMir)).2 = mir (T01.leads g G (mvCl none m) (mvNs g G none ns m) ks).2
    rw [mvCl_none, mvCl_none, mvNs_mir hg k1 k2 a]
    exact leads_mir hg (fun m hm => h1 m (List.mem_cons_of_mem _ hm)) (fun m hm => h2 m (List.mem_cons_of_mem _ hm)) (by rw [mvNs_len k1 k2 a]; exact b)
theorem mir_ok {m : Mv} (h : MvOk m) : MvOk (mvMir m) := by
  cases m with
  | draw l j x => exact ⟨h.1, h.2.1, by have := h.2.2.1; have := h.2.2.2; exact ⟨by omega, by omega⟩⟩
  | carry x => exact ⟨by have := h.2; omega, by have := h.1; omega⟩
  | off l => trivial
  | on l x => exact ⟨by have := h.2; omega, by have := h.1; omega⟩
  | some x => exact ⟨by have := h.2; omega, by have := h.1; omega⟩
end
end T01

set_option Elab.async false
set_option linter.all false
set_option autoImplicit false
set_option maxRecDepth 100000
set_option maxHeartbeats 4000000
namespace T01
open PySem L2 DL

section
variable {P : Program} {w : World} {K : PySem.W.Frag} {mg : Str → Option Value} {base : Heap}
def Rlaw : RD := fun ds M Q => ∃ cs : List Int, ds = [.frz (cs.map .int)] ∧ cs.length ≤ 1000 ∧ ∀ M', Q (.bl true) M'
theorem law_len : ∀ (ds : List D) (M : MM) (Q : D → MM → Prop), Rlaw ds M Q → ds.length = 1 := fun ds M Q ⟨cs, e, _⟩ => by rw [e]; rfl
/-- what the law's caller gives -/
theorem start_law {K : PySem.W.Frag} {H : Hp} {a : Addr} {ns : List Int} (hl : ns.length ≤ 1000) (hS : SqL K H a (ns.map V.int)) : SpD K Rlaw [.ref a] H (fun v _ => v = .bl true) fun _ _ _ => False :=
  ⟨offT H, [.frz (ns.map .int)], fun _ => none, fun d _ => d = .bl true, con_start, .cons (.frz (offT_list hS) (Dns.of_ints ns)) .nil, ⟨ns, rfl, hl, fun _ => rfl⟩, fun F' H' M' v d _ _ dv e => by
    subst e
    cases dv
    rfl⟩
/-- likewise, the tables of code objects under P0 -/
def RlawT (P0 : Addr) (T : List (Addr × Str)) : RD := fun ds M Q => ∃ cs : List Int, ds = [.frz (cs.map .int)] ∧ cs.length ≤ 1000 ∧ M P0 = some (.tabs T) ∧ ∀ M', Q (.bl true) M'
theorem law_lenT {P0 : Addr} {T : List (Addr × Str)} : ∀ (ds : List D) (M : MM) (Q : D → MM → Prop), RlawT P0 T ds M Q → ds.length = 1 := fun ds M Q ⟨cs, e, _⟩ => by rw [e]; rfl
theorem start_lawT {K : PySem.W.Frag} {H : Hp} {a P0 : Addr} {q : Str} {r : List (Addr × Str)} {ns : List Int} (hl : ns.length ≤ 1000) (hT : ∀ p ∈ (P0, q) :: r, H p.1 = some (.tbl #[])) (hS : SqL K H a (ns.map V.int)) : SpD K (RlawT P0 ((P0, q) :: r)) [.ref a] H (fun v _ => v = .bl true) fun _ _ _ => False :=
  ⟨offT H, [.frz (ns.map .int)], tabM P0 ((P0, q) :: r), fun d _ => d = .bl true, con_startT hT, .cons (.frz (offT_list hS) (Dns.of_ints ns)) .nil, ⟨ns, rfl, hl, tabM_at, fun _ => rfl⟩, fun F' H' M' v d _ _ dv e => by
    subst e
    cases dv
    rfl⟩
end
/-! ### what the top has written -/
/-- the parameters are bound by place -/
def ByPlace (x qual : Str) (st : Stmt) (ps : List Str) : Prop :=
  ∀ (kV doc pm : Value) (an : Option Addr) (cdv ct : Value) (us : List Value), us.length = ps.length → bindArgs (PySem.W.fnOf x qual (defArgs st) (defBody st) (defScope st) .none kV doc pm an cdv ct) ⟨us, []⟩ = pure (ps.zip us)
/-- at f stands the def st -/
structure Stands (K : PySem.W.Frag) (x qual : Str) (st : Stmt) (f : Addr) : Prop where
  at_ : ∃ (oc : Value) (od : Option Addr) (kV dc pm : Value) (an : Option Addr) (cd ct : Value) (sl : Array (Option Value)), K.lookup f = some ⟨oc, od, .func (PySem.W.fnOf x qual (defArgs st) (defBody st) (defScope st) .none kV dc pm an cd ct), sl⟩ ∧ PySem.W.codeIn K cd qual = true
  kp : PySem.W.keepIn K (.ref f) = true
section
variable {w : World} {K : PySem.W.Frag} {h : Heap} {mg : Str → Option Value} {C : Addr}
theorem stands_mk {x qual : Str} {st : Stmt} {f : Addr} {oc kV dc pm cd ct : Value} {od an : Option Addr} {sl : Array (Option Value)}
    (l : K.lookup f = some ⟨oc, od, .func (PySem.W.fnOf x qual (defArgs st) (defBody st) (defScope st) .none kV dc pm an cd ct), sl⟩) (c : PySem.W.codeIn K cd qual = true) (k : PySem.W.keepIn K (.ref f) = true) : Stands K x qual st f :=
  ⟨⟨oc, od, kV, dc, pm, an, cd, ct, sl, l, c⟩, k⟩
theorem Stands.fun {x qual : Str} {st : Stmt} {f : Addr} (s : Stands K x qual st f) : ∃ fd, Fun K x qual st f fd := by
  obtain ⟨oc, od, kV, dc, pm, an, cd, ct, sl, l, c⟩ := s.at_
  exact ⟨_, fun_mk l c s.kp⟩
theorem def_at {x : Str} {st : Stmt} {ps : List Str} {f : Addr} (X : K.In h) (G : h.Ns mainGlobals mg) (hb : ByPlace x x st ps) (a : PySem.W.nsIn K mainGlobals x = some (some (.ref f))) (s : Stands K x x st f) : DefAt K mg x st ps := by
  obtain ⟨fd, F⟩ := s.fun
  exact ⟨f, fd, F, PySem.W.mg_of X G a, F.binds hb⟩
theorem met_at {m qual : Str} {st : Stmt} {ps : List Str} {f : Addr} (c : Cls K C) (hb : ByPlace m qual st ps) (a : PySem.W.findIn K (.ref C) m = some (some (.ref f))) (i : PySem.W.isFn K (.ref f) = true) (s : Stands K m qual st f) : MetAt K C m qual st ps := by
  obtain ⟨fd, F⟩ := s.fun
  exact ⟨f, fd, c, ⟨a, i, s.kp⟩, F, F.binds hb⟩
theorem prp_at {m qual : Str} {st : Stmt} {ps : List Str} {p f : Addr} {rest : List Value} (c : Cls K C) (hb : ByPlace m qual st ps) (a : PySem.W.findIn K (.ref C) m = some (some (.ref p))) (g : PySem.W.specialIn K (.ref p) "__get__" = some (some (.builtin "property.__get__"))) (t : PySem.W.takesIn K (.ref p) = some true)
    (r : PySem.W.recIn K p "property" = some (.ref f :: rest)) (s : Stands K m qual st f) : PrpAt K C m qual st ps := by
  obtain ⟨fd, F⟩ := s.fun
  exact ⟨p, f, fd, c, ⟨a, g, t, rest, r⟩, F, F.binds hb⟩
theorem mak_at {x qual : Str} {st : Stmt} {ps : List Str} {f : Addr} (X : K.In h) (G : h.Ns mainGlobals mg) (hb : ByPlace "__init__" qual st ps) (n : PySem.W.nsIn K mainGlobals x = some (some (.ref C))) (m : PySem.W.makesIn K C = true) (a : PySem.W.findIn K (.ref C) "__init__" = some (some (.ref f))) (i : PySem.W.isFn K (.ref f) = true) (k : PySem.W.keepIn K (.ref C) = true)
    (s : Stands K "__init__" qual st f) : MakAt K mg x C qual st ps := by
  obtain ⟨fd, F⟩ := s.fun
  exact ⟨f, fd, ⟨m, a, i, k⟩, F, PySem.W.mg_of X G n, F.binds hb⟩
theorem clm_at {m qual : Str} {st : Stmt} {ps : List Str} {p f : Addr} {rest : List Value} (hb : ByPlace m qual st ps) (r1 : PySem.W.readsIn K C (.type "type") = true) (r2 : PySem.W.specialIn K (.ref C) "__getattribute__" = some (some (.builtin "type.__getattribute__"))) (a : PySem.W.findCls K (.ref C) (.type "type") m = some (.get (.builtin "classmethod.__get__") (.ref p) .none (.ref C)))
    (c : PySem.W.recIn K p "classmethod" = some (.ref f :: rest)) (i : PySem.W.fnIn K f = true) (s : Stands K m qual st f) : ClMAt K C m qual st ps := by
  obtain ⟨fd, F⟩ := s.fun
  exact ⟨_, p, f, fd, ⟨r1, r2⟩, ⟨a, ⟨rest, c⟩, i⟩, F, F.binds hb⟩
theorem maks_at {qual pv : Str} {st : Stmt} {f : Addr} (hb : ∀ (kV doc pm : Value) (an : Option Addr) (cdv ct u : Value) (rest : List Value), bindArgs (PySem.W.fnOf "__init__" qual (defArgs st) (defBody st) (defScope st) .none kV doc pm an cdv ct) ⟨u :: rest, []⟩ = (newTuple rest >>= fun t => pure ([(("self" : Str), u), (pv, t)] : List (Str × Value))))
    (m : PySem.W.makesIn K C = true) (a : PySem.W.findIn K (.ref C) "__init__" = some (some (.ref f))) (i : PySem.W.isFn K (.ref f) = true) (k : PySem.W.keepIn K (.ref C) = true) (s : Stands K "__init__" qual st f) : MakSAt K C qual st pv := by
  obtain ⟨fd, F⟩ := s.fun
  exact ⟨f, fd, ⟨m, a, i, k⟩, F, hb⟩
theorem cst_mk {a : Addr} {o : Obj} {n : Nat} {t1 t2 t3 t4 t5 : Tok} (X : K.In h) (G : h.Ns mainGlobals mg) (c1 : PySem.W.nsIn K mainGlobals "MOST_CLOTH" = some (some (.int 9 t1))) (c2 : PySem.W.nsIn K mainGlobals "MOST_NAMED" = some (some (.int 5 t2))) (c3 : PySem.W.nsIn K mainGlobals "MOST_PLACE" = some (some (.int 99 t3)))
    (c4 : PySem.W.nsIn K mainGlobals "SIDES" = some (some (.ref a))) (l : K.lookup a = some o) (lc : o.cls = .type "tuple") (ld : o.data = .seq #[.str "left" t4, .str "right" t5] n) : Cst K mg :=
  ⟨⟨_, PySem.W.mg_of X G c1⟩, ⟨_, PySem.W.mg_of X G c2⟩, ⟨_, PySem.W.mg_of X G c3⟩, a, PySem.W.mg_of X G c4, fun F => .inr ⟨o, _, n, l, lc, ld, by show 2 ≤ sizeLine; decide, .cons ⟨_, rfl⟩ (.cons ⟨_, rfl⟩ .nil)⟩⟩
theorem blt_mk (X : K.In h) (G : h.Ns mainGlobals mg) (z0 : PySem.W.nsIn K mainGlobals "len" = some none) (z1 : PySem.W.nsIn K mainGlobals "max" = some none) (z2 : PySem.W.nsIn K mainGlobals "min" = some none) (z3 : PySem.W.nsIn K mainGlobals "abs" = some none) (z4 : PySem.W.nsIn K mainGlobals "int" = some none) (z5 : PySem.W.nsIn K mainGlobals "str" = some none) (z6 : PySem.W.nsIn K mainGlobals "tuple" = some none) (z7 : PySem.W.nsIn K mainGlobals "list" = some none) (z8 : PySem.W.nsIn K mainGlobals "divmod" = some none) (z9 : PySem.W.nsIn K mainGlobals "range" = some none) (z10 : PySem.W.nsIn K mainGlobals "type" = some none) (z11 : PySem.W.nsIn K mainGlobals "enumerate" = some none) (z12 : PySem.W.nsIn K mainGlobals "zip" = some none) (z13 : PySem.W.nsIn K mainGlobals "isinstance" = some none) (z14 : PySem.W.nsIn K mainGlobals "sum" = some none) (z15 : PySem.W.nsIn K mainGlobals "all" = some none) (z16 : PySem.W.nsIn K mainGlobals "any" = some none) (z17 : PySem.W.nsIn K mainGlobals "bool" = some none) (z18 : PySem.W.nsIn K mainGlobals "repr" = some none) : Blt mg :=
  ⟨PySem.W.mg_none_of X G z0, PySem.W.mg_none_of X G z1, PySem.W.mg_none_of X G z2, PySem.W.mg_none_of X G z3, PySem.W.mg_none_of X G z4, PySem.W.mg_none_of X G z5, PySem.W.mg_none_of X G z6, PySem.W.mg_none_of X G z7, PySem.W.mg_none_of X G z8, PySem.W.mg_none_of X G z9, PySem.W.mg_none_of X G z10, PySem.W.mg_none_of X G z11, PySem.W.mg_none_of X G z12, PySem.W.mg_none_of X G z13, PySem.W.mg_none_of X G z14, PySem.W.mg_none_of X G z15, PySem.W.mg_none_of X G z16, PySem.W.mg_none_of X G z17, PySem.W.mg_none_of X G z18⟩
theorem cst2_mk {t : Tok} (X : K.In h) (G : h.Ns mainGlobals mg) (c : PySem.W.nsIn K mainGlobals "MOST_MOVES" = some (some (.int 10 t))) : Cst2 mg := ⟨⟨_, PySem.W.mg_of X G c⟩⟩
theorem clsin_mk {x : Str} {o : Obj} (X : K.In h) (G : h.Ns mainGlobals mg) (c : PySem.W.nsIn K mainGlobals x = some (some (.ref C))) (l : K.lookup C = some o) (n : o.cls ≠ .type "tuple") : ClsIn K mg x C := ⟨PySem.W.mg_of X G c, ⟨_, l, n⟩⟩
theorem rc_mk (c : Cls K C) (n1 : PySem.W.findIn K (.ref C) "_cloth" = some none) (n2 : PySem.W.findIn K (.ref C) "_places" = some none) (n3 : PySem.W.findIn K (.ref C) "_past" = some none) : RC K C := ⟨c, n1, n2, n3⟩
theorem sc_mk (c : Cls K C) (n1 : PySem.W.findIn K (.ref C) "_rows" = some none) (n2 : PySem.W.findIn K (.ref C) "_cloth" = some none) (n3 : PySem.W.findIn K (.ref C) "_moves" = some none) : SC K C := ⟨c, n1, n2, n3⟩
end
end T01

set_option Elab.async false
set_option linter.all false
set_option autoImplicit false
set_option maxRecDepth 100000
set_option maxHeartbeats 4000000
namespace T01
open PySem L2 DL

/-! ### the spring -/
def SpAt (M : MM) (c : Addr) : Prop := ∃ a b n : Int, M c = some (.lst [.int a, .int b, .int n]) ∧ 0 ≤ b ∧ b < 2147483647
structure SX (M : MM) (c : Addr) (M' : MM) : Prop where
  can : SpAt M' c
  up : ∀ x m, x ≠ c → M x = some m → M' x = some m
section
variable {M M1 M2 : MM} {a c : Addr} {o : MO}
theorem SX.refl (h : SpAt M c) : SX M c M := ⟨h, fun _ _ _ e => e⟩
theorem SX.trans (h : SX M c M1) (k : SX M1 c M2) : SX M c M2 := ⟨k.can, fun x m n e => k.up x m n (h.up x m n e)⟩
theorem SpAt.grow (h : SpAt M c) (k : Grow M M1) : SpAt M1 c := by
  obtain ⟨a, b, n, e, h1⟩ := h
  exact ⟨a, b, n, k _ _ e, h1⟩
theorem SX.grow (h : SX M c M1) (k : Grow M1 M2) : SX M c M2 := ⟨h.can.grow k, fun x m n e => k _ _ (h.up x m n e)⟩
theorem SX.upd (h : SX M c M1) (ha : M a = none) (hc : a ≠ c) : SX M c (mupd M1 a o) := ⟨by
  obtain ⟨x, y, n, e, z⟩ := h.can
  exact ⟨x, y, n, by rw [mupd_ne (Ne.symm hc)]; exact e, z⟩, fun x m n e => by
  rw [mupd_ne (fun z => by subst z; rw [ha] at e; cases e)]
  exact h.up x m n e⟩
theorem SpAt.ne (h : SpAt M c) (ha : M a = none) : a ≠ c := fun z => by
  subst z
  obtain ⟨_, _, _, e, _⟩ := h
  rw [ha] at e
  cases e
theorem SX.was (h : SX M c M1) (ha : M1 a = none) (hc : a ≠ c) : M a = none := by
  cases e : M a with
  | none => rfl
  | some m => rw [h.up a m hc e] at ha; cases ha
/-- a turn of a comprehension that draws from the spring -/
theorem SX.turn {M M' M2 : MM} {a c : Addr} {o : MO} (h : SX M c M') (ha : M' a = none) (x : SX (mupd M' a o) c M2) : a ≠ c ∧ M2 a = some o ∧ SX M c (mdel M2 a) := by
  have hac : a ≠ c := h.can.ne ha
  have h2 : M2 a = some o := x.up a o hac mupd_same
  refine ⟨hac, h2, ?_, fun y m n e => ?_⟩
  · obtain ⟨p, q, n, e, z⟩ := x.can
    refine ⟨p, q, n, ?_, z⟩
    unfold mdel
    rw [if_neg (Ne.symm hac)]
    exact e
  · have hya : y ≠ a := fun z => by subst z; rw [h.up y m n e] at ha; cases ha
    unfold mdel
    rw [if_neg hya]
    refine x.up y m n ?_
    rw [mupd_ne hya]
    exact h.up y m n e
end
theorem mod_p (x : Int) : 0 ≤ x % 2147483647 ∧ x % 2147483647 < 2147483647 := ⟨Int.emod_nonneg _ (by decide), Int.emod_lt_of_pos _ (by decide)⟩
section
variable {P : Program} {w : World} {K : PySem.W.Frag} {mg : Str → Option Value} {base : Heap}
def RpSpring : RD := fun ds M Q => ∃ (cs : List Int) (t : Nat), ds = [.frz (cs.map .int), .int (t : Int)] ∧ t < 1000 ∧ cs.length ≤ 1000 ∧ ∀ c M', M c = none → SX M c M' → Q (.raw c) M'
theorem c_pspring (B : Blt mg) (d : DefAt K mg "_law_spring" (top 31) ["cells", "k"]) : Cal P w K mg base 1 "_law_spring" RpSpring := by
  refine d.cal sc__law_spring (fun ds M Q ⟨cs, t, e, _⟩ => by rw [e]; rfl) (fun f cdv A outer s H E hr ds M Q ⟨cs, t, e, ht, hcs, q⟩ => ?_)
  subst e
  refine ws_asg (WE.imp (Q := fun d M' => ∃ z : Int, d = .int z ∧ M' = M) (we_if (wt_lt (we_var 1 rfl (we_len B.len (we_var 0 rfl ⟨_, rfl, fun h => ?_, fun _ => ?_⟩))))) ?_)
  · have h := of_decide_eq_true h
    rw [List.length_map] at h
    exact we_ix (we_var 0 rfl (we_var 1 rfl ⟨_, atI_ints (getD_some (i := t) (by omega)), _, rfl, rfl⟩))
  · exact we_add (we_mul (we_int (we_var 1 rfl ⟨.inl ⟨by decide, by decide⟩, we_int ⟨_, rfl, rfl⟩⟩)))
  rintro d M' ⟨cell, rfl, rfl⟩
  refine wg_name 2 sc__law_spring.nd ?_
  refine ws_asg (we_add (we_int (we_mul (we_int (we_var 1 rfl ⟨.inl ⟨by decide, by decide⟩, ?_⟩)))))
  refine wg_name 3 sc__law_spring.nd ?_
  obtain ⟨ms, hms, hl⟩ := cut_ints cs none (some 8)
  refine ws_for (wi_list (we_add (we_slice (we_var 0 rfl (wo_none (wo_some (we_int ⟨8, rfl, we_lst (wa_cons (we_var 2 rfl (wa_nil ⟨by show 1 ≤ sizeLine; decide, ?_⟩)))⟩)))))))
  rw [hms]
  refine ⟨by rw [List.length_map]; exact sz100 (by simp; omega), _, .inl rfl, ?_⟩
  have e1 : ms.map D.int ++ [D.int cell] = (ms ++ [cell]).map D.int := by simp
  rw [e1]
  generalize ms ++ [cell] = ls
  refine ⟨fun n Γ' M2 => M2 = M' ∧ ∃ (b : Int) (x : Option D), (n = 0 ∨ (0 ≤ b ∧ b < 2147483647)) ∧ 0 ≤ b ∧ b < 2147483647 ∧ Γ' = [some (.frz (cs.map .int)), some (.int (t : Int)), some (.int cell), some (.int b), x], ⟨rfl, _, _, .inl rfl, ?_, ?_, rfl⟩, fun _ _ _ _ _ => trivial, ?_, ?_⟩
  · omega
  · omega
  · rintro i Γ' M2 hi ⟨rfl, b, x, _, h0, h1, rfl⟩
    rw [List.length_map] at hi
    rw [dAt_ints hi]
    refine wg_name 4 sc__law_spring.nd ?_
    refine ws_asg (we_mod (we_intc B.int (we_add (we_add (we_mul (we_var 3 rfl (we_int ⟨.inr ⟨by decide, by decide⟩, we_intc B.int (we_var 4 rfl (we_mul (we_int (we_var 1 rfl ⟨.inl ⟨by decide, by decide⟩, we_int ⟨show (0 : Int) < 2147483647 by decide, ?_⟩⟩))))⟩)))))))
    exact wg_name 3 sc__law_spring.nd (ws_nil ⟨rfl, _, _, .inr (mod_p _), (mod_p _).1, (mod_p _).2, rfl⟩)
  · rintro Γ' M2 ⟨rfl, b, x, _, h0, h1, rfl⟩
    refine ws_ret (we_lstM (wa_cons (WE.imp (Q := fun d M' => ∃ z : Int, d = .int z ∧ M' = M2) (we_if (wt_ww (ww_or (wt_lt (we_var 2 rfl (we_int ⟨_, rfl, fun _ => ⟨fun _ => ?_, fun h => absurd h (by decide)⟩, fun _ => ww_or1 ?_⟩)))))) ?_)))
    · exact we_abs B.abs (we_var 2 rfl ⟨_, rfl, _, rfl, rfl⟩)
    · refine wt_ge (we_var 2 rfl (we_pow (we_int (we_int ⟨⟨by decide, by decide, by decide⟩, _, rfl, fun _ => ?_, fun _ => ?_⟩))))
      · exact we_abs B.abs (we_var 2 rfl ⟨_, rfl, _, rfl, rfl⟩)
      · exact we_int ⟨_, rfl, rfl⟩
    · rintro d M' ⟨z, rfl, rfl⟩
      refine wa_cons (we_var 3 rfl (wa_cons (we_int (wa_nil ⟨by show 3 ≤ sizeLine; decide, fun c hc => ?_⟩))))
      exact q c _ hc ⟨⟨_, _, _, mupd_same, h0, h1⟩, fun x m n e => by rw [mupd_ne n]; exact e⟩
def RpDraw : RD := fun ds M Q => ∃ (c : Addr) (t : Int), SpAt M c ∧ 0 < t ∧ t < 1073741824 ∧ ds = [.raw c, .int t] ∧ ∀ k M', 0 ≤ k → k < t → SX M c M' → Q (.int k) M'
theorem c_pdraw (B : Blt mg) (d : DefAt K mg "_law_draw" (top 32) ["spring", "size"]) : Cal P w K mg base 1 "_law_draw" RpDraw := by
  refine d.cal sc__law_draw (fun ds M Q ⟨c, t, _, _, _, e, _⟩ => by rw [e]; rfl) (fun f cdv A outer s H E hr ds M Q ⟨c, t, ⟨a, b, n, hM, h0, h1⟩, t0, t1, e, q⟩ => ?_)
  subst e
  refine ws_asg (we_add (we_ix (we_var 0 rfl (we_int ⟨_, _, hM, rfl, we_int ?_⟩))))
  refine wg_sub (we_var 0 rfl (we_int ⟨_, _, _, 2, rfl, rfl, hM, rfl, ?_⟩))
  refine ws_asg (WE.imp (Q := fun d M' => ∃ z : Int, d = .int z ∧ (0 ≤ z ∧ z < 2147483647) ∧ M' = mupd M c (.lst [.int a, .int b, .int (n + 1)])) (we_mod (we_intc B.int (we_add (we_add (we_mul (we_ix (we_var 0 rfl (we_int ⟨_, _, mupd_same, rfl, we_int ⟨.inr ⟨by decide, by decide⟩, we_mul (we_int (we_ix (we_var 0 rfl (we_int ⟨_, _, mupd_same, rfl, ⟨.inl ⟨by decide, by decide⟩, we_int (we_int ⟨show (0 : Int) < 2147483647 by decide, _, rfl, mod_p _, rfl⟩)⟩⟩))))⟩⟩)))))))) ?_)
  rintro d M1 ⟨b', rfl, hb', rfl⟩
  refine wg_sub (we_var 0 rfl (we_int ⟨_, _, _, 1, rfl, rfl, mupd_same, rfl, ?_⟩))
  rw [mupd_mupd]
  refine ws_if (wt_gt (we_ix (we_var 0 rfl (we_int ⟨_, _, mupd_same, rfl, we_int ⟨_, rfl, fun _ => ?_, fun _ => ws_nil ?_⟩⟩))))
  · refine ws_asg (we_divmod B.divmod (we_ix (we_var 0 rfl (we_int ⟨_, _, mupd_same, rfl, we_var 1 rfl ⟨_, _, rfl, rfl, t0, t1, ?_⟩⟩))))
    refine wg_tup (wgs_cons (wg_sub (we_var 0 rfl (we_int ⟨_, _, _, 0, rfl, rfl, mupd_same, rfl, wgs_cons (wg_name 2 sc__law_draw.nd (wgs_nil ?_))⟩))))
    rw [mupd_mupd]
    refine ws_ret (we_var 2 rfl (q _ _ (Int.emod_nonneg _ (by omega)) (Int.emod_lt_of_pos _ t0) ⟨⟨_, _, _, mupd_same, hb'.1, hb'.2⟩, fun x m n e => by rw [mupd_ne n]; exact e⟩))
  · refine ws_asg (we_add (we_ix (we_var 0 rfl (we_int ⟨_, _, mupd_same, rfl, we_int ?_⟩))))
    refine wg_name 3 sc__law_draw.nd ?_
    refine ws_asg (we_mod (we_intc B.int (we_add (we_mul (we_var 3 rfl (we_ix (we_var 0 rfl (we_int ⟨_, _, mupd_same, rfl, ⟨.inr ⟨by show -(2 ^ 64) < b'; omega, by show b' < 2 ^ 64; omega⟩, we_ix (we_var 0 rfl (we_int ⟨_, _, mupd_same, rfl, we_int ⟨show (0 : Int) < 2147483629 by decide, ?_⟩⟩))⟩⟩))))))))
    refine wg_name 4 sc__law_draw.nd ?_
    refine ws_ret (we_mod (we_intc B.int (we_fdiv (we_var 4 rfl (we_int ⟨⟨by decide, by decide⟩, we_var 1 rfl ⟨t0, ?_⟩⟩)))))
    exact q _ _ (Int.emod_nonneg _ (by omega)) (Int.emod_lt_of_pos _ t0) ⟨⟨_, _, _, mupd_same, hb'.1, hb'.2⟩, fun x m n e => by rw [mupd_ne n]; exact e⟩
def RpOf : RD := fun ds M Q => ∃ (c : Addr) (ths : List D), SpAt M c ∧ 0 < ths.length ∧ ths.length < 1000 ∧ ds = [.raw c, .lst ths] ∧ ∀ d M', d ∈ ths → SX M c M' → Q d M'
theorem c_pof (B : Blt mg) (d : DefAt K mg "_law_of" (top 33) ["spring", "menu"]) (cp : Cal P w K mg base 1 "_law_draw" RpDraw) : Cal P w K mg base 2 "_law_of" RpOf := by
  refine d.cal sc__law_of (fun ds M Q ⟨c, t, _, _, _, e, _⟩ => by rw [e]; rfl) (fun f cdv A outer s H E hr ds M Q ⟨c, ths, hM, h0, h1, e, q⟩ => ?_)
  subst e
  refine ws_ret (we_ix (we_var 1 rfl (we_call cp hr (by decide) (wa_cons (we_var 0 rfl (wa_cons (we_len B.len (we_var 1 rfl (wa_nil ⟨c, _, hM, by omega, by omega, rfl, fun k M' k0 k1 ex => ?_⟩)))))))))
  obtain ⟨j, rfl⟩ : ∃ j : Nat, k = (j : Int) := ⟨k.toNat, by omega⟩
  have hj : j < ths.length := by omega
  exact ⟨_, atI_nat (List.getElem?_eq_getElem hj), q _ _ (List.getElem_mem hj) ex⟩
def RpSmall : RD := fun ds M Q => ∃ c : Addr, SpAt M c ∧ ds = [.raw c] ∧ ∀ x M', -12 ≤ x → x ≤ 12 → SX M c M' → Q (.int x) M'
end
end T01

set_option Elab.async false
set_option linter.all false
set_option autoImplicit false
set_option maxRecDepth 100000
set_option maxHeartbeats 8000000
namespace T01
open PySem L2 DL

/-! ### values of any kind -/
def oddL : List D := [.non, .bl true, .bl false, .int 0, .int 1, .int (-1), .int 7, .int (10 ^ 39), .str "", .str "a", .str "b", .str "A", .str "cloth 2 5", .str "left 1 to 0", .str "some to 3",
  .str "carry 1", .str "off left", .str "on left 3", .tup [], .tup [.int 2, .int 5], .tup [.int 2, .int 2], .tup [.int 2, .int 5, .int 0], .tup [.int 1, .int 2, .bl true], .tup [.int 0, .int 3], .tup [.int 0],
  .lst [], .lst [.int 0], .lst [.int 2, .int 5], .dct [] [], .dct [.inr "a"] [.int 0], .tup [.lst []], .tup [.non], .tup [.tup []], .tup [.tup [.int 1, .int 0]], .tup [.str "covers", .int 0, .int 9, .int 1],
  .tup [.str "still", .int 1], .tup [.str "alike", .str "a"], .tup [.int 0, .str "left 1 to 0"], .tup [.str "a", .tup [.str "still", .int 1]], .tup [.str "a"], .tup [.str "alike", .str "a", .str "b"]]
theorem odd_chk : oddL.all (shChk 200) = true := by decide +kernel
theorem odd_sh {d : D} (h : d ∈ oddL) : ∃ q, ShD 200 d q := shChk_ok (List.all_eq_true.mp odd_chk d h)
def oddTup (d : D) : Bool := match d with
  | .tup xs => (xs.all fun x => (tyD x).isSome) && decide (xs.length ≤ 5)
  | _ => true
theorem odd_tup : oddL.all oddTup = true := by decide +kernel
section
variable {P : Program} {w : World} {K : PySem.W.Frag} {mg : Str → Option Value} {base : Heap}
def RpOdd : RD := fun ds M Q => ∃ c : Addr, SpAt M c ∧ ds = [.raw c] ∧ ∀ d M', d ∈ oddL → SX M c M' → Q d M'
theorem c_podd (B : Blt mg) (d : DefAt K mg "_law_odd" (top 36) ["spring"]) (co : Cal P w K mg base 2 "_law_of" RpOf) : Cal P w K mg base 3 "_law_odd" RpOdd := by
  refine d.cal sc__law_odd (fun ds M Q ⟨c, _, e, _⟩ => by rw [e]; rfl) (fun f cdv A outer s H E hr ds M Q ⟨c, hM, e, q⟩ => ?_)
  subst e
  refine ws_asg ?_
  repeat (first | refine we_int ?_ | refine we_str ?_ | refine we_non ?_ | refine we_bl ?_ | refine we_dct0 ?_ | refine we_dct1 ?_ | refine we_lst ?_ | refine we_tup ?_ | refine wa_cons ?_ | refine wa_nil ⟨by rw [sizeLine_eq]; simp, ?_⟩ | refine we_neg (we_int ⟨_, rfl, ?_⟩) | refine we_pow (we_int (we_int ⟨by unfold CPow; decide, ?_⟩)))
  refine wg_name 1 sc__law_odd.nd ?_
  refine ws_asg (we_add (we_var 1 rfl ?_))
  repeat (first | refine we_int ?_ | refine we_str ?_ | refine we_non ?_ | refine we_bl ?_ | refine we_dct0 ?_ | refine we_dct1 ?_ | refine we_lst ?_ | refine we_tup ?_ | refine wa_cons ?_ | refine wa_nil ⟨by rw [sizeLine_eq]; simp, ?_⟩ | refine we_neg (we_int ⟨_, rfl, ?_⟩) | refine we_pow (we_int (we_int ⟨by unfold CPow; decide, ?_⟩)))
  refine ⟨by rw [sizeLine_eq]; simp, wg_name 1 sc__law_odd.nd ?_⟩
  refine ws_asg (we_add (we_var 1 rfl ?_))
  repeat (first | refine we_int ?_ | refine we_str ?_ | refine we_non ?_ | refine we_bl ?_ | refine we_dct0 ?_ | refine we_dct1 ?_ | refine we_lst ?_ | refine we_tup ?_ | refine wa_cons ?_ | refine wa_nil ⟨by rw [sizeLine_eq]; simp, ?_⟩ | refine we_neg (we_int ⟨_, rfl, ?_⟩) | refine we_pow (we_int (we_int ⟨by unfold CPow; decide, ?_⟩)))
  refine ⟨by rw [sizeLine_eq]; simp, wg_name 1 sc__law_odd.nd ?_⟩
  refine ws_asg (we_add (we_var 1 rfl ?_))
  repeat (first | refine we_int ?_ | refine we_str ?_ | refine we_non ?_ | refine we_bl ?_ | refine we_dct0 ?_ | refine we_dct1 ?_ | refine we_lst ?_ | refine we_tup ?_ | refine wa_cons ?_ | refine wa_nil ⟨by rw [sizeLine_eq]; simp, ?_⟩ | refine we_neg (we_int ⟨_, rfl, ?_⟩) | refine we_pow (we_int (we_int ⟨by unfold CPow; decide, ?_⟩)))
  refine ⟨by rw [sizeLine_eq]; simp, wg_name 1 sc__law_odd.nd ?_⟩
  refine ws_ret (we_call co hr (by decide) (wa_cons (we_var 0 rfl (wa_cons (we_var 1 rfl (wa_nil ⟨c, oddL, hM, by decide, by decide, rfl, fun d M' hd x => q d M' hd x⟩))))))
end
end T01

set_option Elab.async false
set_option linter.all false
set_option autoImplicit false
set_option maxRecDepth 100000
set_option maxHeartbeats 8000000
namespace T01
open PySem L2 DL

section
variable {P : Program} {w : World} {K : PySem.W.Frag} {mg : Str → Option Value} {base : Heap}
def RlawErr (K : PySem.W.Frag) (mg : Str → Option Value) : RE := fun p ds M Q => ∃ (C : Addr) (i : Nat) (dd : Option Addr) (ns : List Str) (es : List D), ErrW K mg C i ∧ Zc (.ref C) dd p.2 ∧ (∃ vs, p.2.data = .fields vs) ∧ ds = [.xcp p.1 dd ns es] ∧ Q (.str (errN.getD i "")) M
theorem err_k (i : Nat) (hi : i < 20) : decide ((i : Int) < 13) = decide (0 = errK i) ∧ decide ((12 : Int) < i ∧ (i : Int) < 15) = decide (1 = errK i) ∧ decide ((14 : Int) < i) = decide (2 = errK i) := (by decide +kernel : ∀ i : Nat, i < 20 → decide ((i : Int) < 13) = decide (0 = errK i) ∧ decide ((12 : Int) < i ∧ (i : Int) < 15) = decide (1 = errK i) ∧ decide ((14 : Int) < i) = decide (2 = errK i)) i hi
theorem err_at (i : Nat) (hi : i < 20) : atI (errN.map D.str) (i : Int) = some (.str (errN.getD i "")) := by
  refine atI_nat ?_
  have hl : i < errN.length := hi
  rw [List.getElem?_map, List.getElem?_eq_getElem hl, List.getD_eq_getElem?_getD, List.getElem?_eq_getElem hl]
  rfl
theorem err_shaped (i : Nat) (hi : i < 20) : SeqAt.shaped (.str (errN.getD i "")) = true := (by decide +kernel : ∀ i : Nat, i < 20 → SeqAt.shaped (.str (errN.getD i "")) = true) i hi
theorem c_law_error (B : Blt mg) (d : DefAt K mg "_law_error" (top 34) ["e"]) : CalE P w K mg base 1 "_law_error" (RlawErr K mg) := by
  refine d.calE sc__law_error (fun p ds M Q ⟨C, i, dd, ns, es, _, _, _, e, _⟩ => by rw [e]; rfl) (fun f p cdv A outer s H E hr ds M Q ⟨C, i, dd, ns, es, T, hz, hf, e, q⟩ => ?_)
  subst e
  have hu := RoomHv hr
  refine ws_asg (we_lst (wa_cons (we_isW (i0 := 0) ⟨T, List.mem_cons_self, hz, hf, rfl, rfl, Or.inl rfl, B.isinstance⟩ 0 (wa_cons (we_isW (i0 := 0) ⟨T, List.mem_cons_self, hz, hf, rfl, rfl, Or.inl rfl, B.isinstance⟩ 1 (wa_cons (we_isW (i0 := 0) ⟨T, List.mem_cons_self, hz, hf, rfl, rfl, Or.inl rfl, B.isinstance⟩ 2 (wa_nil ⟨by show 3 ≤ sizeLine; decide, wg_name 1 sc__law_error.nd ?_⟩))))))))
  refine WS.ctx [some (.xcp p.1 dd ns es), some (.lst ((bits i 3).map .bl)), none, none, none, none] ?_ (by rfl)
  refine ws_asg (we_add (we_var 1 rfl (we_lst (wa_cons (we_isW (i0 := 0) ⟨T, List.mem_cons_self, hz, hf, rfl, rfl, Or.inl rfl, B.isinstance⟩ 3 (wa_cons (we_isW (i0 := 0) ⟨T, List.mem_cons_self, hz, hf, rfl, rfl, Or.inl rfl, B.isinstance⟩ 4 (wa_cons (we_isW (i0 := 0) ⟨T, List.mem_cons_self, hz, hf, rfl, rfl, Or.inl rfl, B.isinstance⟩ 5 (wa_nil ⟨by show 3 ≤ sizeLine; decide, ⟨by show 3 + 3 ≤ sizeLine; decide, wg_name 1 sc__law_error.nd ?_⟩⟩))))))))))
  refine WS.ctx [some (.xcp p.1 dd ns es), some (.lst ((bits i 6).map .bl)), none, none, none, none] ?_ (by rfl)
  refine ws_asg (we_add (we_var 1 rfl (we_lst (wa_cons (we_isW (i0 := 0) ⟨T, List.mem_cons_self, hz, hf, rfl, rfl, Or.inl rfl, B.isinstance⟩ 6 (wa_cons (we_isW (i0 := 0) ⟨T, List.mem_cons_self, hz, hf, rfl, rfl, Or.inl rfl, B.isinstance⟩ 7 (wa_cons (we_isW (i0 := 0) ⟨T, List.mem_cons_self, hz, hf, rfl, rfl, Or.inl rfl, B.isinstance⟩ 8 (wa_nil ⟨by show 3 ≤ sizeLine; decide, ⟨by show 6 + 3 ≤ sizeLine; decide, wg_name 1 sc__law_error.nd ?_⟩⟩))))))))))
  refine WS.ctx [some (.xcp p.1 dd ns es), some (.lst ((bits i 9).map .bl)), none, none, none, none] ?_ (by rfl)
  refine ws_asg (we_add (we_var 1 rfl (we_lst (wa_cons (we_isW (i0 := 0) ⟨T, List.mem_cons_self, hz, hf, rfl, rfl, Or.inl rfl, B.isinstance⟩ 9 (wa_cons (we_isW (i0 := 0) ⟨T, List.mem_cons_self, hz, hf, rfl, rfl, Or.inl rfl, B.isinstance⟩ 10 (wa_nil ⟨by show 2 ≤ sizeLine; decide, ⟨by show 9 + 2 ≤ sizeLine; decide, wg_name 1 sc__law_error.nd ?_⟩⟩))))))))
  refine WS.ctx [some (.xcp p.1 dd ns es), some (.lst ((bits i 11).map .bl)), none, none, none, none] ?_ (by rfl)
  refine ws_asg (we_add (we_var 1 rfl (we_lst (wa_cons (we_isW (i0 := 0) ⟨T, List.mem_cons_self, hz, hf, rfl, rfl, Or.inl rfl, B.isinstance⟩ 11 (wa_cons (we_isW (i0 := 0) ⟨T, List.mem_cons_self, hz, hf, rfl, rfl, Or.inl rfl, B.isinstance⟩ 12 (wa_nil ⟨by show 2 ≤ sizeLine; decide, ⟨by show 11 + 2 ≤ sizeLine; decide, wg_name 1 sc__law_error.nd ?_⟩⟩))))))))
  refine WS.ctx [some (.xcp p.1 dd ns es), some (.lst ((bits i 13).map .bl)), none, none, none, none] ?_ (by rfl)
  refine ws_asg (we_add (we_var 1 rfl (we_lst (wa_cons (we_isW (i0 := 0) ⟨T, List.mem_cons_self, hz, hf, rfl, rfl, Or.inl rfl, B.isinstance⟩ 13 (wa_cons (we_isW (i0 := 0) ⟨T, List.mem_cons_self, hz, hf, rfl, rfl, Or.inl rfl, B.isinstance⟩ 14 (wa_cons (we_isW (i0 := 0) ⟨T, List.mem_cons_self, hz, hf, rfl, rfl, Or.inl rfl, B.isinstance⟩ 15 (wa_nil ⟨by show 3 ≤ sizeLine; decide, ⟨by show 13 + 3 ≤ sizeLine; decide, wg_name 1 sc__law_error.nd ?_⟩⟩))))))))))
  refine WS.ctx [some (.xcp p.1 dd ns es), some (.lst ((bits i 16).map .bl)), none, none, none, none] ?_ (by rfl)
  refine ws_asg (we_add (we_var 1 rfl (we_lst (wa_cons (we_isW (i0 := 0) ⟨T, List.mem_cons_self, hz, hf, rfl, rfl, Or.inl rfl, B.isinstance⟩ 16 (wa_cons (we_isW (i0 := 0) ⟨T, List.mem_cons_self, hz, hf, rfl, rfl, Or.inl rfl, B.isinstance⟩ 17 (wa_cons (we_isW (i0 := 0) ⟨T, List.mem_cons_self, hz, hf, rfl, rfl, Or.inl rfl, B.isinstance⟩ 18 (wa_nil ⟨by show 3 ≤ sizeLine; decide, ⟨by show 16 + 3 ≤ sizeLine; decide, wg_name 1 sc__law_error.nd ?_⟩⟩))))))))))
  refine WS.ctx [some (.xcp p.1 dd ns es), some (.lst ((bits i 19).map .bl)), none, none, none, none] ?_ (by rfl)
  refine ws_asg (we_add (we_var 1 rfl (we_lst (wa_cons (we_isW (i0 := 0) ⟨T, List.mem_cons_self, hz, hf, rfl, rfl, Or.inl rfl, B.isinstance⟩ 19 (wa_nil ⟨by show 1 ≤ sizeLine; decide, ⟨by show 19 + 1 ≤ sizeLine; decide, wg_name 1 sc__law_error.nd ?_⟩⟩))))))
  refine WS.ctx [some (.xcp p.1 dd ns es), some (.lst ((bits i 20).map .bl)), none, none, none, none] ?_ (by rfl)
  refine ws_asg (we_lst (wa_cons (we_str (wa_cons (we_str (wa_cons (we_str (wa_cons (we_str (wa_cons (we_str (wa_cons (we_str (wa_nil ⟨by show 6 ≤ sizeLine; decide, wg_name 2 sc__law_error.nd ?_⟩))))))))))))))
  refine WS.ctx [some (.xcp p.1 dd ns es), some (.lst ((bits i 20).map .bl)), some (.lst ((errN.take 6).map .str)), none, none, none] ?_ (by rfl)
  refine ws_asg (we_add (we_var 2 rfl (we_lst (wa_cons (we_str (wa_cons (we_str (wa_cons (we_str (wa_cons (we_str (wa_cons (we_str (wa_nil ⟨by show 5 ≤ sizeLine; decide, ⟨by show 6 + 5 ≤ sizeLine; decide, wg_name 2 sc__law_error.nd ?_⟩⟩))))))))))))))
  refine WS.ctx [some (.xcp p.1 dd ns es), some (.lst ((bits i 20).map .bl)), some (.lst ((errN.take 11).map .str)), none, none, none] ?_ (by rfl)
  refine ws_asg (we_add (we_var 2 rfl (we_lst (wa_cons (we_str (wa_cons (we_str (wa_cons (we_str (wa_cons (we_str (wa_cons (we_str (wa_cons (we_str (wa_cons (we_str (wa_nil ⟨by show 7 ≤ sizeLine; decide, ⟨by show 11 + 7 ≤ sizeLine; decide, wg_name 2 sc__law_error.nd ?_⟩⟩))))))))))))))))))
  refine WS.ctx [some (.xcp p.1 dd ns es), some (.lst ((bits i 20).map .bl)), some (.lst ((errN.take 18).map .str)), none, none, none] ?_ (by rfl)
  refine ws_asg (we_add (we_var 2 rfl (we_lst (wa_cons (we_str (wa_cons (we_str (wa_nil ⟨by show 2 ≤ sizeLine; decide, ⟨by show 18 + 2 ≤ sizeLine; decide, wg_name 2 sc__law_error.nd ?_⟩⟩))))))))
  refine WS.ctx [some (.xcp p.1 dd ns es), some (.lst ((bits i 20).map .bl)), some (.lst ((errN.take 20).map .str)), none, none, none] ?_ (by rfl)
  refine ws_asg (we_lst (wa_cons (we_isB (i0 := 0) ⟨T, List.mem_cons_self, hz, hf, rfl, rfl, Or.inl rfl, B.isinstance⟩ 0 (wa_cons (we_isB (i0 := 0) ⟨T, List.mem_cons_self, hz, hf, rfl, rfl, Or.inl rfl, B.isinstance⟩ 1 (wa_cons (we_isB (i0 := 0) ⟨T, List.mem_cons_self, hz, hf, rfl, rfl, Or.inl rfl, B.isinstance⟩ 2 (wa_nil ⟨by show 3 ≤ sizeLine; decide, wg_name 3 sc__law_error.nd ?_⟩))))))))
  refine ws_asg (we_lst (wa_cons (we_isP (i0 := 0) ⟨T, List.mem_cons_self, hz, hf, rfl, rfl, Or.inl rfl, B.isinstance⟩ 0 (wa_cons (we_isP (i0 := 0) ⟨T, List.mem_cons_self, hz, hf, rfl, rfl, Or.inl rfl, B.isinstance⟩ 1 (wa_cons (we_isP (i0 := 0) ⟨T, List.mem_cons_self, hz, hf, rfl, rfl, Or.inl rfl, B.isinstance⟩ 2 (wa_nil ⟨by show 3 ≤ sizeLine; decide, wg_name 4 sc__law_error.nd ?_⟩))))))))
  refine WS.ctx [some (.xcp p.1 dd ns es), some (.lst ((bits i 20).map .bl)), some (.lst (errN.map .str)), some (.lst [.bl (decide (0 = errK i)), .bl (decide (1 = errK i)), .bl (decide (2 = errK i))]), some (.lst [.bl (decide (0 = errK i)), .bl (decide (1 = errK i)), .bl (decide (2 = errK i))]), none] ?_ (by rfl)
  have hc : (((bits i 20).count true : Nat) : Int) = 1 := by rw [bits_count i T.lt]; rfl
  refine ws_if (wt_ww (ww_or (wt_ne hu (we_countB (we_var 1 rfl ⟨bits i 20, rfl, we_bl ⟨true, rfl, we_int ?_⟩⟩)))))
  rw [hc]
  refine ⟨fun h => absurd h (by decide), fun _ => ww_or1 (wt_ne hu (we_var 3 rfl (we_var 4 rfl ⟨_, _, rfl, rfl, rfl, rfl, ?_⟩)))⟩
  rw [eqv3]
  refine ⟨fun h => absurd h (by decide), fun _ => ws_nil ?_⟩
  refine ws_asg (we_indexB (we_var 1 rfl ⟨bits i 20, rfl, we_bl ⟨true, i, rfl, (bits_at i T.lt).1, (bits_at i T.lt).2, wg_name 5 sc__law_error.nd ?_⟩⟩))
  obtain ⟨k1, k2, k3⟩ := err_k i T.lt
  refine ws_ret (we_if (wt_eq hu (we_var 3 rfl (we_lst (wa_cons (we_lt (we_var 5 rfl (we_int ?_))))))))
  refine wa_cons (WE.imp (Q := fun d M' => d = .bl (decide ((12 : Int) < i ∧ (i : Int) < 15)) ∧ M' = M) (we_chain .lt .lt (we_int (we_var 5 rfl ⟨_, rfl, fun h => we_int ?_, fun h => ?_⟩))) ?_)
  · show D.bl (decide ((i : Int) < 15)) = .bl (decide ((12 : Int) < i ∧ (i : Int) < 15)) ∧ M = M
    rw [dec_and_l h]
    exact ⟨rfl, rfl⟩
  · show D.bl false = .bl (decide ((12 : Int) < i ∧ (i : Int) < 15)) ∧ M = M
    rw [dec_and_f (q := (i : Int) < 15) h]
    exact ⟨rfl, rfl⟩
  rintro d2 M2 ⟨rfl, rfl⟩
  refine wa_cons (we_gt (we_var 5 rfl (we_int (wa_nil ⟨by show 3 ≤ sizeLine; decide, ?_⟩))))
  dsimp only
  rw [k1, k2, k3]
  refine ⟨_, _, rfl, rfl, rfl, rfl, ?_⟩
  rw [eqv3]
  exact ⟨fun _ => we_ix (we_var 2 rfl (we_var 5 rfl ⟨_, err_at i T.lt, q⟩)), fun h => absurd h (by decide)⟩
def RlawFld (K : PySem.W.Frag) (mg : Str → Option Value) : RE := fun p ds M Q => ∃ (C : Addr) (i : Nat) (dd : Option Addr) (ns : List Str) (es : List D) (v : D), ErrW K mg C i ∧ Zc (.ref C) dd p.2 ∧ (∃ vs, p.2.data = .fields vs) ∧ FldOk i ns es v ∧ ds = [.xcp p.1 dd ns es, .str (errN.getD i "")] ∧ Q v M
def anyS (l : List Str) (x : Str) : Bool := (l.map PyData.str).any fun z => PyData.eqv z (.str x)
def fld1 : List Str := ["InvalidRows", "InvalidStanding", "InvalidSeen", "InvalidExchanges", "InvalidWishes"]
def fld2 : List Str := ["InUse", "Unknown"]
def fld3 : List Str := ["NothingToUndo", ""]
theorem fld_f (i : Nat) (hi : i < 20) : (errF i = 0 → anyS fld1 (errN.getD i "") = false ∧ anyS fld2 (errN.getD i "") = false ∧ decide (errN.getD i "" = ("Broken" : Str)) = false ∧ anyS fld3 (errN.getD i "") = false) ∧
    (errF i = 1 → anyS fld1 (errN.getD i "") = true ∨ anyS fld1 (errN.getD i "") = false ∧ anyS fld2 (errN.getD i "") = true) ∧
    (errF i = 3 → anyS fld1 (errN.getD i "") = false ∧ anyS fld2 (errN.getD i "") = false ∧ decide (errN.getD i "" = ("Broken" : Str)) = false ∧ anyS fld3 (errN.getD i "") = true) :=
  (by decide +kernel : ∀ i, i < 20 → (errF i = 0 → anyS fld1 (errN.getD i "") = false ∧ anyS fld2 (errN.getD i "") = false ∧ decide (errN.getD i "" = ("Broken" : Str)) = false ∧ anyS fld3 (errN.getD i "") = false) ∧
    (errF i = 1 → anyS fld1 (errN.getD i "") = true ∨ anyS fld1 (errN.getD i "") = false ∧ anyS fld2 (errN.getD i "") = true) ∧
    (errF i = 3 → anyS fld1 (errN.getD i "") = false ∧ anyS fld2 (errN.getD i "") = false ∧ decide (errN.getD i "" = ("Broken" : Str)) = false ∧ anyS fld3 (errN.getD i "") = true)) i hi
theorem c_law_field (B : Blt mg) (d : DefAt K mg "_law_field" (top 35) ["e", "word_now"]) : CalE P w K mg base 1 "_law_field" (RlawFld K mg) := by
  refine d.calE sc__law_field (fun p ds M Q ⟨C, i, dd, ns, es, v, _, _, _, _, e, _⟩ => by rw [e]; rfl) (fun f p cdv A outer s H E hr ds M Q ⟨C, i, dd, ns, es, v, T, hz, hf, hv, e, q⟩ => ?_)
  subst e
  have hu := RoomHv hr
  have hu5 := RoomHu hr
  obtain ⟨f0, f1, f3⟩ := fld_f i T.lt
  refine ws_if (wt_in hu5 (we_var 1 rfl (we_lst (wa_cons (we_str (wa_cons (we_str (wa_cons (we_str (wa_cons (we_str (wa_cons (we_str (wa_nil ⟨by show 5 ≤ sizeLine; decide, ?_⟩))))))))))))))
  refine ⟨_, _, rfl, rfl, err_shaped i T.lt, by decide +kernel, ?_⟩
  show (anyS fld1 (errN.getD i "") = true → _) ∧ (anyS fld1 (errN.getD i "") = false → _)
  refine ⟨fun h => ?_, fun h => ws_nil ?_⟩
  · rcases hv with ⟨h1, h2⟩ | ⟨h1, h2⟩ | ⟨h1, h2⟩
    · rw [(f0 h1).1] at h; cases h
    · exact ws_ret (we_xindex (i0 := 0) ⟨T, List.mem_cons_self, hz, hf, rfl, rfl, Or.inl rfl, B.isinstance⟩ h2 q)
    · rw [(f3 h1).1] at h; cases h
  refine ws_if (wt_in hu5 (we_var 1 rfl (we_lst (wa_cons (we_str (wa_cons (we_str (wa_nil ⟨by show 2 ≤ sizeLine; decide, ?_⟩))))))))
  refine ⟨_, _, rfl, rfl, err_shaped i T.lt, by decide +kernel, ?_⟩
  show (anyS fld2 (errN.getD i "") = true → _) ∧ (anyS fld2 (errN.getD i "") = false → _)
  refine ⟨fun h2 => ?_, fun h2 => ws_nil ?_⟩
  · rcases hv with ⟨h1, h3⟩ | ⟨h1, h3⟩ | ⟨h1, h3⟩
    · rw [(f0 h1).2.1] at h2; cases h2
    · exact ws_ret (we_xindex (i0 := 0) ⟨T, List.mem_cons_self, hz, hf, rfl, rfl, Or.inl rfl, B.isinstance⟩ h3 q)
    · rw [(f3 h1).2.1] at h2; cases h2
  refine ws_if (wt_eq hu (we_var 1 rfl (we_str ?_)))
  show (decide (errN.getD i "" = ("Broken" : Str)) = true → _) ∧ (decide (errN.getD i "" = ("Broken" : Str)) = false → _)
  refine ⟨fun h3 => ?_, fun _ => ws_nil ?_⟩
  · rcases hv with ⟨h1, h4⟩ | ⟨h1, h4⟩ | ⟨h1, h4⟩
    · rw [(f0 h1).2.2.1] at h3; cases h3
    · rcases f1 h1 with k | ⟨k, k2⟩
      · rw [k] at h; cases h
      · rw [k2] at h2; cases h2
    · rw [(f3 h1).2.2.1] at h3; cases h3
  refine ws_ret (we_if (wt_in hu5 (we_var 1 rfl (we_lst (wa_cons (we_str (wa_cons (we_str (wa_nil ⟨by show 2 ≤ sizeLine; decide, ?_⟩)))))))))
  refine ⟨_, _, rfl, rfl, err_shaped i T.lt, by decide +kernel, ?_⟩
  show (anyS fld3 (errN.getD i "") = true → _) ∧ (anyS fld3 (errN.getD i "") = false → _)
  refine ⟨fun h4 => ?_, fun h4 => ?_⟩
  · rcases hv with ⟨h1, h5⟩ | ⟨h1, h5⟩ | ⟨h1, h5⟩
    · rw [(f0 h1).2.2.2] at h4; cases h4
    · rcases f1 h1 with k | ⟨k, k2⟩
      · rw [k] at h; cases h
      · rw [k2] at h2; cases h2
    · subst h5
      exact we_non q
  · rcases hv with ⟨h1, h5⟩ | ⟨h1, h5⟩ | ⟨h1, h5⟩
    · exact we_xgiven (i0 := 0) ⟨T, List.mem_cons_self, hz, hf, rfl, rfl, Or.inl rfl, B.isinstance⟩ h5 q
    · rcases f1 h1 with k | ⟨k, k2⟩
      · rw [k] at h; cases h
      · rw [k2] at h2; cases h2
    · rw [(f3 h1).2.2.2] at h4; cases h4
/-- what is told of a call: its answer, or its error -/
def RPt (Q : D → MM → Prop) : D → MM → Prop := fun d M => Q (.lst [.str "told", d]) M
def EPt (K : PySem.W.Frag) (mg : Str → Option Value) (Q : D → MM → Prop) : ED := fun cls ns es M => ∃ (C : Addr) (i : Nat) (v : D) (s : Str), cls = .ref C ∧ ErrW K mg C i ∧ FldOk i ns es v ∧ rprA v = some s ∧ fitsA v ∧ Q (.lst [.str "error", .str (errN.getD i ""), .str s]) M
end
end T01

set_option Elab.async false
set_option linter.all false
set_option autoImplicit false
set_option maxRecDepth 100000
set_option maxHeartbeats 16000000
namespace T01
open PySem L2 DL

/-! ### errors that are values: their words, their attributes -/
section
variable {P : Program} {w : World} {K : PySem.W.Frag} {mg : Str → Option Value} {base : Heap}
def RlawErrV (K : PySem.W.Frag) (mg : Str → Option Value) : RD := fun ds M Q => ∃ (C : Addr) (i : Nat) (ns : List Str) (es : List D), ErrW K mg C i ∧ ds = [.exc C ns es] ∧ Q (.str (errN.getD i "")) M
theorem c_law_errorV (B : Blt mg) (d : DefAt K mg "_law_error" (top 34) ["e"]) : Cal P w K mg base 1 "_law_error" (RlawErrV K mg) := by
  refine d.cal sc__law_error (fun ds M Q ⟨C, i, ns, es, _, e, _⟩ => by rw [e]; rfl) (fun f cdv A outer s H E hr ds M Q ⟨C, i, ns, es, T, e, q⟩ => ?_)
  subst e
  have hu := hr.units
  refine ws_asg (we_lst (wa_cons (we_isVW (i0 := 0) ⟨T, rfl, rfl, Or.inl rfl, B.isinstance⟩ 0 (wa_cons (we_isVW (i0 := 0) ⟨T, rfl, rfl, Or.inl rfl, B.isinstance⟩ 1 (wa_cons (we_isVW (i0 := 0) ⟨T, rfl, rfl, Or.inl rfl, B.isinstance⟩ 2 (wa_nil ⟨by show 3 ≤ sizeLine; decide, wg_name 1 sc__law_error.nd ?_⟩))))))))
  refine WS.ctx [some (.exc C ns es), some (.lst ((bits i 3).map .bl)), none, none, none, none] ?_ (by rfl)
  refine ws_asg (we_add (we_var 1 rfl (we_lst (wa_cons (we_isVW (i0 := 0) ⟨T, rfl, rfl, Or.inl rfl, B.isinstance⟩ 3 (wa_cons (we_isVW (i0 := 0) ⟨T, rfl, rfl, Or.inl rfl, B.isinstance⟩ 4 (wa_cons (we_isVW (i0 := 0) ⟨T, rfl, rfl, Or.inl rfl, B.isinstance⟩ 5 (wa_nil ⟨by show 3 ≤ sizeLine; decide, ⟨by show 3 + 3 ≤ sizeLine; decide, wg_name 1 sc__law_error.nd ?_⟩⟩))))))))))
  refine WS.ctx [some (.exc C ns es), some (.lst ((bits i 6).map .bl)), none, none, none, none] ?_ (by rfl)
  refine ws_asg (we_add (we_var 1 rfl (we_lst (wa_cons (we_isVW (i0 := 0) ⟨T, rfl, rfl, Or.inl rfl, B.isinstance⟩ 6 (wa_cons (we_isVW (i0 := 0) ⟨T, rfl, rfl, Or.inl rfl, B.isinstance⟩ 7 (wa_cons (we_isVW (i0 := 0) ⟨T, rfl, rfl, Or.inl rfl, B.isinstance⟩ 8 (wa_nil ⟨by show 3 ≤ sizeLine; decide, ⟨by show 6 + 3 ≤ sizeLine; decide, wg_name 1 sc__law_error.nd ?_⟩⟩))))))))))
  refine WS.ctx [some (.exc C ns es), some (.lst ((bits i 9).map .bl)), none, none, none, none] ?_ (by rfl)
  refine ws_asg (we_add (we_var 1 rfl (we_lst (wa_cons (we_isVW (i0 := 0) ⟨T, rfl, rfl, Or.inl rfl, B.isinstance⟩ 9 (wa_cons (we_isVW (i0 := 0) ⟨T, rfl, rfl, Or.inl rfl, B.isinstance⟩ 10 (wa_nil ⟨by show 2 ≤ sizeLine; decide, ⟨by show 9 + 2 ≤ sizeLine; decide, wg_name 1 sc__law_error.nd ?_⟩⟩))))))))
  refine WS.ctx [some (.exc C ns es), some (.lst ((bits i 11).map .bl)), none, none, none, none] ?_ (by rfl)
  refine ws_asg (we_add (we_var 1 rfl (we_lst (wa_cons (we_isVW (i0 := 0) ⟨T, rfl, rfl, Or.inl rfl, B.isinstance⟩ 11 (wa_cons (we_isVW (i0 := 0) ⟨T, rfl, rfl, Or.inl rfl, B.isinstance⟩ 12 (wa_nil ⟨by show 2 ≤ sizeLine; decide, ⟨by show 11 + 2 ≤ sizeLine; decide, wg_name 1 sc__law_error.nd ?_⟩⟩))))))))
  refine WS.ctx [some (.exc C ns es), some (.lst ((bits i 13).map .bl)), none, none, none, none] ?_ (by rfl)
  refine ws_asg (we_add (we_var 1 rfl (we_lst (wa_cons (we_isVW (i0 := 0) ⟨T, rfl, rfl, Or.inl rfl, B.isinstance⟩ 13 (wa_cons (we_isVW (i0 := 0) ⟨T, rfl, rfl, Or.inl rfl, B.isinstance⟩ 14 (wa_cons (we_isVW (i0 := 0) ⟨T, rfl, rfl, Or.inl rfl, B.isinstance⟩ 15 (wa_nil ⟨by show 3 ≤ sizeLine; decide, ⟨by show 13 + 3 ≤ sizeLine; decide, wg_name 1 sc__law_error.nd ?_⟩⟩))))))))))
  refine WS.ctx [some (.exc C ns es), some (.lst ((bits i 16).map .bl)), none, none, none, none] ?_ (by rfl)
  refine ws_asg (we_add (we_var 1 rfl (we_lst (wa_cons (we_isVW (i0 := 0) ⟨T, rfl, rfl, Or.inl rfl, B.isinstance⟩ 16 (wa_cons (we_isVW (i0 := 0) ⟨T, rfl, rfl, Or.inl rfl, B.isinstance⟩ 17 (wa_cons (we_isVW (i0 := 0) ⟨T, rfl, rfl, Or.inl rfl, B.isinstance⟩ 18 (wa_nil ⟨by show 3 ≤ sizeLine; decide, ⟨by show 16 + 3 ≤ sizeLine; decide, wg_name 1 sc__law_error.nd ?_⟩⟩))))))))))
  refine WS.ctx [some (.exc C ns es), some (.lst ((bits i 19).map .bl)), none, none, none, none] ?_ (by rfl)
  refine ws_asg (we_add (we_var 1 rfl (we_lst (wa_cons (we_isVW (i0 := 0) ⟨T, rfl, rfl, Or.inl rfl, B.isinstance⟩ 19 (wa_nil ⟨by show 1 ≤ sizeLine; decide, ⟨by show 19 + 1 ≤ sizeLine; decide, wg_name 1 sc__law_error.nd ?_⟩⟩))))))
  refine WS.ctx [some (.exc C ns es), some (.lst ((bits i 20).map .bl)), none, none, none, none] ?_ (by rfl)
  refine ws_asg (we_lst (wa_cons (we_str (wa_cons (we_str (wa_cons (we_str (wa_cons (we_str (wa_cons (we_str (wa_cons (we_str (wa_nil ⟨by show 6 ≤ sizeLine; decide, wg_name 2 sc__law_error.nd ?_⟩))))))))))))))
  refine WS.ctx [some (.exc C ns es), some (.lst ((bits i 20).map .bl)), some (.lst ((errN.take 6).map .str)), none, none, none] ?_ (by rfl)
  refine ws_asg (we_add (we_var 2 rfl (we_lst (wa_cons (we_str (wa_cons (we_str (wa_cons (we_str (wa_cons (we_str (wa_cons (we_str (wa_nil ⟨by show 5 ≤ sizeLine; decide, ⟨by show 6 + 5 ≤ sizeLine; decide, wg_name 2 sc__law_error.nd ?_⟩⟩))))))))))))))
  refine WS.ctx [some (.exc C ns es), some (.lst ((bits i 20).map .bl)), some (.lst ((errN.take 11).map .str)), none, none, none] ?_ (by rfl)
  refine ws_asg (we_add (we_var 2 rfl (we_lst (wa_cons (we_str (wa_cons (we_str (wa_cons (we_str (wa_cons (we_str (wa_cons (we_str (wa_cons (we_str (wa_cons (we_str (wa_nil ⟨by show 7 ≤ sizeLine; decide, ⟨by show 11 + 7 ≤ sizeLine; decide, wg_name 2 sc__law_error.nd ?_⟩⟩))))))))))))))))))
  refine WS.ctx [some (.exc C ns es), some (.lst ((bits i 20).map .bl)), some (.lst ((errN.take 18).map .str)), none, none, none] ?_ (by rfl)
  refine ws_asg (we_add (we_var 2 rfl (we_lst (wa_cons (we_str (wa_cons (we_str (wa_nil ⟨by show 2 ≤ sizeLine; decide, ⟨by show 18 + 2 ≤ sizeLine; decide, wg_name 2 sc__law_error.nd ?_⟩⟩))))))))
  refine WS.ctx [some (.exc C ns es), some (.lst ((bits i 20).map .bl)), some (.lst ((errN.take 20).map .str)), none, none, none] ?_ (by rfl)
  refine ws_asg (we_lst (wa_cons (we_isVB (i0 := 0) ⟨T, rfl, rfl, Or.inl rfl, B.isinstance⟩ 0 (wa_cons (we_isVB (i0 := 0) ⟨T, rfl, rfl, Or.inl rfl, B.isinstance⟩ 1 (wa_cons (we_isVB (i0 := 0) ⟨T, rfl, rfl, Or.inl rfl, B.isinstance⟩ 2 (wa_nil ⟨by show 3 ≤ sizeLine; decide, wg_name 3 sc__law_error.nd ?_⟩))))))))
  refine ws_asg (we_lst (wa_cons (we_isVP (i0 := 0) ⟨T, rfl, rfl, Or.inl rfl, B.isinstance⟩ 0 (wa_cons (we_isVP (i0 := 0) ⟨T, rfl, rfl, Or.inl rfl, B.isinstance⟩ 1 (wa_cons (we_isVP (i0 := 0) ⟨T, rfl, rfl, Or.inl rfl, B.isinstance⟩ 2 (wa_nil ⟨by show 3 ≤ sizeLine; decide, wg_name 4 sc__law_error.nd ?_⟩))))))))
  refine WS.ctx [some (.exc C ns es), some (.lst ((bits i 20).map .bl)), some (.lst (errN.map .str)), some (.lst [.bl (decide (0 = errK i)), .bl (decide (1 = errK i)), .bl (decide (2 = errK i))]), some (.lst [.bl (decide (0 = errK i)), .bl (decide (1 = errK i)), .bl (decide (2 = errK i))]), none] ?_ (by rfl)
  have hc : (((bits i 20).count true : Nat) : Int) = 1 := by rw [bits_count i T.lt]; rfl
  refine ws_if (wt_ww (ww_or (wt_ne hu (we_countB (we_var 1 rfl ⟨bits i 20, rfl, we_bl ⟨true, rfl, we_int ?_⟩⟩)))))
  rw [hc]
  refine ⟨fun h => absurd h (by decide), fun _ => ww_or1 (wt_ne hu (we_var 3 rfl (we_var 4 rfl ⟨_, _, rfl, rfl, rfl, rfl, ?_⟩)))⟩
  rw [eqv3]
  refine ⟨fun h => absurd h (by decide), fun _ => ws_nil ?_⟩
  refine ws_asg (we_indexB (we_var 1 rfl ⟨bits i 20, rfl, we_bl ⟨true, i, rfl, (bits_at i T.lt).1, (bits_at i T.lt).2, wg_name 5 sc__law_error.nd ?_⟩⟩))
  obtain ⟨k1, k2, k3⟩ := err_k i T.lt
  refine ws_ret (we_if (wt_eq hu (we_var 3 rfl (we_lst (wa_cons (we_lt (we_var 5 rfl (we_int ?_))))))))
  refine wa_cons (WE.imp (Q := fun d M' => d = .bl (decide ((12 : Int) < i ∧ (i : Int) < 15)) ∧ M' = M) (we_chain .lt .lt (we_int (we_var 5 rfl ⟨_, rfl, fun h => we_int ?_, fun h => ?_⟩))) ?_)
  · show D.bl (decide ((i : Int) < 15)) = .bl (decide ((12 : Int) < i ∧ (i : Int) < 15)) ∧ M = M
    rw [dec_and_l h]
    exact ⟨rfl, rfl⟩
  · show D.bl false = .bl (decide ((12 : Int) < i ∧ (i : Int) < 15)) ∧ M = M
    rw [dec_and_f (q := (i : Int) < 15) h]
    exact ⟨rfl, rfl⟩
  rintro d2 M2 ⟨rfl, rfl⟩
  refine wa_cons (we_gt (we_var 5 rfl (we_int (wa_nil ⟨by show 3 ≤ sizeLine; decide, ?_⟩))))
  dsimp only
  rw [k1, k2, k3]
  refine ⟨_, _, rfl, rfl, rfl, rfl, ?_⟩
  rw [eqv3]
  exact ⟨fun _ => we_ix (we_var 2 rfl (we_var 5 rfl ⟨_, err_at i T.lt, q⟩)), fun h => absurd h (by decide)⟩
/-- what the attribute of an error tells -/
def FldV (K : PySem.W.Frag) (C : Addr) (i : Nat) (ns : List Str) (es : List D) (v : D) : Prop := (errF i = 0 ∧ getN "given" ns es = some v) ∨ (errF i = 1 ∧ getN "index" ns es = some v) ∨ (i = 18 ∧ PySem.W.findIn K (.ref C) "shown" = some none ∧ ∃ a b, getN "index" ns es = some a ∧ getN "shown" ns es = some b ∧ v = .lst [a, b])
def RlawFldV (K : PySem.W.Frag) (mg : Str → Option Value) : RD := fun ds M Q => ∃ (C : Addr) (i : Nat) (ns : List Str) (es : List D) (v : D), ErrW K mg C i ∧ FldV K C i ns es v ∧ ds = [.exc C ns es, .str (errN.getD i "")] ∧ Q v M
theorem fld_18 : anyS fld1 (errN.getD 18 "") = false ∧ anyS fld2 (errN.getD 18 "") = false ∧ decide (errN.getD 18 "" = ("Broken" : Str)) = true := by decide +kernel
theorem c_law_fieldV (B : Blt mg) (d : DefAt K mg "_law_field" (top 35) ["e", "word_now"]) : Cal P w K mg base 1 "_law_field" (RlawFldV K mg) := by
  refine d.cal sc__law_field (fun ds M Q ⟨C, i, ns, es, v, _, _, e, _⟩ => by rw [e]; rfl) (fun f cdv A outer s H E hr ds M Q ⟨C, i, ns, es, v, T, hv, e, q⟩ => ?_)
  subst e
  have hu := hr.units
  have hu5 := Room.u65 hr
  obtain ⟨f0, f1, _⟩ := fld_f i T.lt
  refine ws_if (wt_in hu5 (we_var 1 rfl (we_lst (wa_cons (we_str (wa_cons (we_str (wa_cons (we_str (wa_cons (we_str (wa_cons (we_str (wa_nil ⟨by show 5 ≤ sizeLine; decide, ?_⟩))))))))))))))
  refine ⟨_, _, rfl, rfl, err_shaped i T.lt, by decide +kernel, ?_⟩
  show (anyS fld1 (errN.getD i "") = true → _) ∧ (anyS fld1 (errN.getD i "") = false → _)
  refine ⟨fun h => ?_, fun h => ws_nil ?_⟩
  · rcases hv with ⟨h1, h2⟩ | ⟨h1, h2⟩ | ⟨h1, _⟩
    · rw [(f0 h1).1] at h; cases h
    · exact ws_ret (we_vindex (i0 := 0) ⟨T, rfl, rfl, Or.inl rfl, B.isinstance⟩ h2 q)
    · rw [h1, fld_18.1] at h; cases h
  refine ws_if (wt_in hu5 (we_var 1 rfl (we_lst (wa_cons (we_str (wa_cons (we_str (wa_nil ⟨by show 2 ≤ sizeLine; decide, ?_⟩))))))))
  refine ⟨_, _, rfl, rfl, err_shaped i T.lt, by decide +kernel, ?_⟩
  show (anyS fld2 (errN.getD i "") = true → _) ∧ (anyS fld2 (errN.getD i "") = false → _)
  refine ⟨fun h2 => ?_, fun h2 => ws_nil ?_⟩
  · rcases hv with ⟨h1, h3⟩ | ⟨h1, h3⟩ | ⟨h1, _⟩
    · rw [(f0 h1).2.1] at h2; cases h2
    · exact ws_ret (we_vindex (i0 := 0) ⟨T, rfl, rfl, Or.inl rfl, B.isinstance⟩ h3 q)
    · rw [h1, fld_18.2.1] at h2; cases h2
  refine ws_if (wt_eq hu (we_var 1 rfl (we_str ?_)))
  show (decide (errN.getD i "" = ("Broken" : Str)) = true → _) ∧ (decide (errN.getD i "" = ("Broken" : Str)) = false → _)
  refine ⟨fun h3 => ?_, fun h3 => ws_nil ?_⟩
  · rcases hv with ⟨h1, h4⟩ | ⟨h1, h4⟩ | ⟨h1, hs, a, b, ha, hb, hv⟩
    · rw [(f0 h1).2.2.1] at h3; cases h3
    · rcases f1 h1 with k | ⟨k, k2⟩
      · rw [k] at h; cases h
      · rw [k2] at h2; cases h2
    · subst hv
      exact ws_ret (we_lst (wa_cons (we_vindex (i0 := 0) ⟨T, rfl, rfl, Or.inl rfl, B.isinstance⟩ ha (wa_cons (we_vshown (i0 := 0) ⟨T, rfl, rfl, Or.inl rfl, B.isinstance⟩ hs hb (wa_nil ⟨by show 2 ≤ sizeLine; decide, q⟩))))))
  refine ws_ret (we_if (wt_in hu5 (we_var 1 rfl (we_lst (wa_cons (we_str (wa_cons (we_str (wa_nil ⟨by show 2 ≤ sizeLine; decide, ?_⟩)))))))))
  refine ⟨_, _, rfl, rfl, err_shaped i T.lt, by decide +kernel, ?_⟩
  show (anyS fld3 (errN.getD i "") = true → _) ∧ (anyS fld3 (errN.getD i "") = false → _)
  refine ⟨fun h4 => ?_, fun h4 => ?_⟩
  · rcases hv with ⟨h1, h5⟩ | ⟨h1, h5⟩ | ⟨h1, _⟩
    · rw [(f0 h1).2.2.2] at h4; cases h4
    · rcases f1 h1 with k | ⟨k, k2⟩
      · rw [k] at h; cases h
      · rw [k2] at h2; cases h2
    · rw [h1, fld_18.2.2] at h3; cases h3
  · rcases hv with ⟨h1, h5⟩ | ⟨h1, h5⟩ | ⟨h1, _⟩
    · exact we_vgiven (i0 := 0) ⟨T, rfl, rfl, Or.inl rfl, B.isinstance⟩ h5 q
    · rcases f1 h1 with k | ⟨k, k2⟩
      · rw [k] at h; cases h
      · rw [k2] at h2; cases h2
    · rw [h1, fld_18.2.2] at h3; cases h3

/-! ### errors of all classes, made by position and by name -/
def fldN (i : Nat) : Str := if errF i = 1 then "index" else "given"
def errsD (Es : List Addr) (d : D) : List D := (List.range 36).map fun n => .exc (Es.getD (n / 2) 0) [fldN (n / 2)] [d]
def RpErrs (Es : List Addr) : RD := fun ds M Q => ∃ d : D, ds = [d] ∧ Q (.lst (errsD Es d)) M
theorem kwE_0 : KwFn "__init__" "InvalidCloth.__init__" (inClass (top 2) 0) ["self", "given"] ["given"] (gKw 1 1 [0]) := fun K f fd F => by
  obtain ⟨oc, od, kV, doc, pm, an, cdv, ct, osl, rfl, lk, hcd⟩ := F.ex
  refine kb_mk (by decide) fun s us ws h1 h2 => ?_
  match us, ws, h1, h2 with
  | [_], [_], _, _ => exact .of_eq rfl
theorem kwE_1 : KwFn "__init__" "InvalidMove.__init__" (inClass (top 3) 0) ["self", "given"] ["given"] (gKw 1 1 [0]) := fun K f fd F => by
  obtain ⟨oc, od, kV, doc, pm, an, cdv, ct, osl, rfl, lk, hcd⟩ := F.ex
  refine kb_mk (by decide) fun s us ws h1 h2 => ?_
  match us, ws, h1, h2 with
  | [_], [_], _, _ => exact .of_eq rfl
theorem kwE_2 : KwFn "__init__" "InvalidText.__init__" (inClass (top 4) 0) ["self", "given"] ["given"] (gKw 1 1 [0]) := fun K f fd F => by
  obtain ⟨oc, od, kV, doc, pm, an, cdv, ct, osl, rfl, lk, hcd⟩ := F.ex
  refine kb_mk (by decide) fun s us ws h1 h2 => ?_
  match us, ws, h1, h2 with
  | [_], [_], _, _ => exact .of_eq rfl
theorem kwE_3 : KwFn "__init__" "InvalidName.__init__" (inClass (top 5) 0) ["self", "given"] ["given"] (gKw 1 1 [0]) := fun K f fd F => by
  obtain ⟨oc, od, kV, doc, pm, an, cdv, ct, osl, rfl, lk, hcd⟩ := F.ex
  refine kb_mk (by decide) fun s us ws h1 h2 => ?_
  match us, ws, h1, h2 with
  | [_], [_], _, _ => exact .of_eq rfl
theorem kwE_4 : KwFn "__init__" "InvalidNumber.__init__" (inClass (top 6) 0) ["self", "given"] ["given"] (gKw 1 1 [0]) := fun K f fd F => by
  obtain ⟨oc, od, kV, doc, pm, an, cdv, ct, osl, rfl, lk, hcd⟩ := F.ex
  refine kb_mk (by decide) fun s us ws h1 h2 => ?_
  match us, ws, h1, h2 with
  | [_], [_], _, _ => exact .of_eq rfl
theorem kwE_5 : KwFn "__init__" "InvalidPlace.__init__" (inClass (top 7) 0) ["self", "given"] ["given"] (gKw 1 1 [0]) := fun K f fd F => by
  obtain ⟨oc, od, kV, doc, pm, an, cdv, ct, osl, rfl, lk, hcd⟩ := F.ex
  refine kb_mk (by decide) fun s us ws h1 h2 => ?_
  match us, ws, h1, h2 with
  | [_], [_], _, _ => exact .of_eq rfl
theorem kwE_6 : KwFn "__init__" "InvalidWish.__init__" (inClass (top 8) 0) ["self", "given"] ["given"] (gKw 1 1 [0]) := fun K f fd F => by
  obtain ⟨oc, od, kV, doc, pm, an, cdv, ct, osl, rfl, lk, hcd⟩ := F.ex
  refine kb_mk (by decide) fun s us ws h1 h2 => ?_
  match us, ws, h1, h2 with
  | [_], [_], _, _ => exact .of_eq rfl
theorem kwE_7 : KwFn "__init__" "NotAScript.__init__" (inClass (top 9) 0) ["self", "given"] ["given"] (gKw 1 1 [0]) := fun K f fd F => by
  obtain ⟨oc, od, kV, doc, pm, an, cdv, ct, osl, rfl, lk, hcd⟩ := F.ex
  refine kb_mk (by decide) fun s us ws h1 h2 => ?_
  match us, ws, h1, h2 with
  | [_], [_], _, _ => exact .of_eq rfl
theorem kwE_8 : KwFn "__init__" "InvalidRows.__init__" (inClass (top 10) 0) ["self", "index"] ["index"] (gKw 1 1 [0]) := fun K f fd F => by
  obtain ⟨oc, od, kV, doc, pm, an, cdv, ct, osl, rfl, lk, hcd⟩ := F.ex
  refine kb_mk (by decide) fun s us ws h1 h2 => ?_
  match us, ws, h1, h2 with
  | [_], [_], _, _ => exact .of_eq rfl
theorem kwE_9 : KwFn "__init__" "InvalidStanding.__init__" (inClass (top 11) 0) ["self", "index"] ["index"] (gKw 1 1 [0]) := fun K f fd F => by
  obtain ⟨oc, od, kV, doc, pm, an, cdv, ct, osl, rfl, lk, hcd⟩ := F.ex
  refine kb_mk (by decide) fun s us ws h1 h2 => ?_
  match us, ws, h1, h2 with
  | [_], [_], _, _ => exact .of_eq rfl
theorem kwE_10 : KwFn "__init__" "InvalidSeen.__init__" (inClass (top 12) 0) ["self", "index"] ["index"] (gKw 1 1 [0]) := fun K f fd F => by
  obtain ⟨oc, od, kV, doc, pm, an, cdv, ct, osl, rfl, lk, hcd⟩ := F.ex
  refine kb_mk (by decide) fun s us ws h1 h2 => ?_
  match us, ws, h1, h2 with
  | [_], [_], _, _ => exact .of_eq rfl
theorem kwE_11 : KwFn "__init__" "InvalidExchanges.__init__" (inClass (top 13) 0) ["self", "index"] ["index"] (gKw 1 1 [0]) := fun K f fd F => by
  obtain ⟨oc, od, kV, doc, pm, an, cdv, ct, osl, rfl, lk, hcd⟩ := F.ex
  refine kb_mk (by decide) fun s us ws h1 h2 => ?_
  match us, ws, h1, h2 with
  | [_], [_], _, _ => exact .of_eq rfl
theorem kwE_12 : KwFn "__init__" "InvalidWishes.__init__" (inClass (top 14) 0) ["self", "index"] ["index"] (gKw 1 1 [0]) := fun K f fd F => by
  obtain ⟨oc, od, kV, doc, pm, an, cdv, ct, osl, rfl, lk, hcd⟩ := F.ex
  refine kb_mk (by decide) fun s us ws h1 h2 => ?_
  match us, ws, h1, h2 with
  | [_], [_], _, _ => exact .of_eq rfl
theorem kwE_13 : KwFn "__init__" "UnknownName.__init__" (inClass (top 16) 0) ["self", "given"] ["given"] (gKw 1 1 [0]) := fun K f fd F => by
  obtain ⟨oc, od, kV, doc, pm, an, cdv, ct, osl, rfl, lk, hcd⟩ := F.ex
  refine kb_mk (by decide) fun s us ws h1 h2 => ?_
  match us, ws, h1, h2 with
  | [_], [_], _, _ => exact .of_eq rfl
theorem kwE_14 : KwFn "__init__" "InUse.__init__" (inClass (top 17) 0) ["self", "index"] ["index"] (gKw 1 1 [0]) := fun K f fd F => by
  obtain ⟨oc, od, kV, doc, pm, an, cdv, ct, osl, rfl, lk, hcd⟩ := F.ex
  refine kb_mk (by decide) fun s us ws h1 h2 => ?_
  match us, ws, h1, h2 with
  | [_], [_], _, _ => exact .of_eq rfl
theorem kwE_15 : KwFn "__init__" "Unknown.__init__" (inClass (top 19) 0) ["self", "index"] ["index"] (gKw 1 1 [0]) := fun K f fd F => by
  obtain ⟨oc, od, kV, doc, pm, an, cdv, ct, osl, rfl, lk, hcd⟩ := F.ex
  refine kb_mk (by decide) fun s us ws h1 h2 => ?_
  match us, ws, h1, h2 with
  | [_], [_], _, _ => exact .of_eq rfl
theorem kwE_16 : KwFn "__init__" "TooFew.__init__" (inClass (top 20) 0) ["self", "given"] ["given"] (gKw 1 1 [0]) := fun K f fd F => by
  obtain ⟨oc, od, kV, doc, pm, an, cdv, ct, osl, rfl, lk, hcd⟩ := F.ex
  refine kb_mk (by decide) fun s us ws h1 h2 => ?_
  match us, ws, h1, h2 with
  | [_], [_], _, _ => exact .of_eq rfl
theorem kwE_17 : KwFn "__init__" "TooMany.__init__" (inClass (top 21) 0) ["self", "given"] ["given"] (gKw 1 1 [0]) := fun K f fd F => by
  obtain ⟨oc, od, kV, doc, pm, an, cdv, ct, osl, rfl, lk, hcd⟩ := F.ex
  refine kb_mk (by decide) fun s us ws h1 h2 => ?_
  match us, ws, h1, h2 with
  | [_], [_], _, _ => exact .of_eq rfl
theorem kwE_18 : KwFn "__init__" "Broken.__init__" (inClass (top 22) 0) ["self", "index", "shown"] ["shown", "index"] (gKw 1 2 [1, 0]) := fun K f fd F => by
  obtain ⟨oc, od, kV, doc, pm, an, cdv, ct, osl, rfl, lk, hcd⟩ := F.ex
  refine kb_mk (by decide) fun s us ws h1 h2 => ?_
  match us, ws, h1, h2 with
  | [_], [_, _], _, _ => exact .of_eq rfl
variable {E0 E1 E2 E3 E4 E5 E6 E7 E8 E9 E10 E11 E12 E13 E14 E15 E16 E17 : Addr}
theorem c_perrs (r0 : RyL K mg "InvalidCloth" E0 "InvalidCloth.__init__" (inClass (top 2) 0) "given") (r1 : RyL K mg "InvalidMove" E1 "InvalidMove.__init__" (inClass (top 3) 0) "given") (r2 : RyL K mg "InvalidText" E2 "InvalidText.__init__" (inClass (top 4) 0) "given") (r3 : RyL K mg "InvalidName" E3 "InvalidName.__init__" (inClass (top 5) 0) "given") (r4 : RyL K mg "InvalidNumber" E4 "InvalidNumber.__init__" (inClass (top 6) 0) "given") (r5 : RyL K mg "InvalidPlace" E5 "InvalidPlace.__init__" (inClass (top 7) 0) "given") (r6 : RyL K mg "InvalidWish" E6 "InvalidWish.__init__" (inClass (top 8) 0) "given") (r7 : RyL K mg "NotAScript" E7 "NotAScript.__init__" (inClass (top 9) 0) "given") (r8 : RyL K mg "InvalidRows" E8 "InvalidRows.__init__" (inClass (top 10) 0) "index") (r9 : RyL K mg "InvalidStanding" E9 "InvalidStanding.__init__" (inClass (top 11) 0) "index") (r10 : RyL K mg "InvalidSeen" E10 "InvalidSeen.__init__" (inClass (top 12) 0) "index") (r11 : RyL K mg "InvalidExchanges" E11 "InvalidExchanges.__init__" (inClass (top 13) 0) "index") (r12 : RyL K mg "InvalidWishes" E12 "InvalidWishes.__init__" (inClass (top 14) 0) "index") (r13 : RyL K mg "UnknownName" E13 "UnknownName.__init__" (inClass (top 16) 0) "given") (r14 : RyL K mg "InUse" E14 "InUse.__init__" (inClass (top 17) 0) "index") (r15 : RyL K mg "Unknown" E15 "Unknown.__init__" (inClass (top 19) 0) "index") (r16 : RyL K mg "TooFew" E16 "TooFew.__init__" (inClass (top 20) 0) "given") (r17 : RyL K mg "TooMany" E17 "TooMany.__init__" (inClass (top 21) 0) "given") (d : DefAt K mg "_law_errors" (top 37) ["thing"]) : Cal P w K mg base 3 "_law_errors" (RpErrs [E0, E1, E2, E3, E4, E5, E6, E7, E8, E9, E10, E11, E12, E13, E14, E15, E16, E17]) := by
  refine d.cal sc__law_errors (fun ds M Q ⟨d, e, _⟩ => by rw [e]; rfl) (fun f cdv A outer s H E hr ds M Q ⟨d, e, q⟩ => ?_)
  subst e
  refine ws_asg (we_lst (wa_cons (we_xv1 (r0.ex _ _ _) hr (by decide) (we_var 0 rfl (wa_cons (we_xvK1 (r0.ex _ _ _) kwE_0 hr (by decide) (we_var 0 rfl (wa_cons (we_xv1 (r1.ex _ _ _) hr (by decide) (we_var 0 rfl (wa_cons (we_xvK1 (r1.ex _ _ _) kwE_1 hr (by decide) (we_var 0 rfl (wa_nil ⟨by show 4 ≤ sizeLine; decide, wg_name 1 sc__law_errors.nd ?_⟩))))))))))))))
  refine WS.ctx [some d, some (.lst ((errsD [E0, E1, E2, E3, E4, E5, E6, E7, E8, E9, E10, E11, E12, E13, E14, E15, E16, E17] d).take 4))] ?_ (by rfl)
  refine ws_asg (we_add (we_var 1 rfl (we_lst (wa_cons (we_xv1 (r2.ex _ _ _) hr (by decide) (we_var 0 rfl (wa_cons (we_xvK1 (r2.ex _ _ _) kwE_2 hr (by decide) (we_var 0 rfl (wa_cons (we_xv1 (r3.ex _ _ _) hr (by decide) (we_var 0 rfl (wa_cons (we_xvK1 (r3.ex _ _ _) kwE_3 hr (by decide) (we_var 0 rfl (wa_nil ⟨by show 4 ≤ sizeLine; decide, by show 4 + 4 ≤ sizeLine; decide, wg_name 1 sc__law_errors.nd ?_⟩))))))))))))))))
  refine WS.ctx [some d, some (.lst ((errsD [E0, E1, E2, E3, E4, E5, E6, E7, E8, E9, E10, E11, E12, E13, E14, E15, E16, E17] d).take 8))] ?_ (by rfl)
  refine ws_asg (we_add (we_var 1 rfl (we_lst (wa_cons (we_xv1 (r4.ex _ _ _) hr (by decide) (we_var 0 rfl (wa_cons (we_xvK1 (r4.ex _ _ _) kwE_4 hr (by decide) (we_var 0 rfl (wa_cons (we_xv1 (r5.ex _ _ _) hr (by decide) (we_var 0 rfl (wa_cons (we_xvK1 (r5.ex _ _ _) kwE_5 hr (by decide) (we_var 0 rfl (wa_nil ⟨by show 4 ≤ sizeLine; decide, by show 8 + 4 ≤ sizeLine; decide, wg_name 1 sc__law_errors.nd ?_⟩))))))))))))))))
  refine WS.ctx [some d, some (.lst ((errsD [E0, E1, E2, E3, E4, E5, E6, E7, E8, E9, E10, E11, E12, E13, E14, E15, E16, E17] d).take 12))] ?_ (by rfl)
  refine ws_asg (we_add (we_var 1 rfl (we_lst (wa_cons (we_xv1 (r6.ex _ _ _) hr (by decide) (we_var 0 rfl (wa_cons (we_xvK1 (r6.ex _ _ _) kwE_6 hr (by decide) (we_var 0 rfl (wa_cons (we_xv1 (r7.ex _ _ _) hr (by decide) (we_var 0 rfl (wa_cons (we_xvK1 (r7.ex _ _ _) kwE_7 hr (by decide) (we_var 0 rfl (wa_nil ⟨by show 4 ≤ sizeLine; decide, by show 12 + 4 ≤ sizeLine; decide, wg_name 1 sc__law_errors.nd ?_⟩))))))))))))))))
  refine WS.ctx [some d, some (.lst ((errsD [E0, E1, E2, E3, E4, E5, E6, E7, E8, E9, E10, E11, E12, E13, E14, E15, E16, E17] d).take 16))] ?_ (by rfl)
  refine ws_asg (we_add (we_var 1 rfl (we_lst (wa_cons (we_xv1 (r8.ex _ _ _) hr (by decide) (we_var 0 rfl (wa_cons (we_xvK1 (r8.ex _ _ _) kwE_8 hr (by decide) (we_var 0 rfl (wa_cons (we_xv1 (r9.ex _ _ _) hr (by decide) (we_var 0 rfl (wa_cons (we_xvK1 (r9.ex _ _ _) kwE_9 hr (by decide) (we_var 0 rfl (wa_nil ⟨by show 4 ≤ sizeLine; decide, by show 16 + 4 ≤ sizeLine; decide, wg_name 1 sc__law_errors.nd ?_⟩))))))))))))))))
  refine WS.ctx [some d, some (.lst ((errsD [E0, E1, E2, E3, E4, E5, E6, E7, E8, E9, E10, E11, E12, E13, E14, E15, E16, E17] d).take 20))] ?_ (by rfl)
  refine ws_asg (we_add (we_var 1 rfl (we_lst (wa_cons (we_xv1 (r10.ex _ _ _) hr (by decide) (we_var 0 rfl (wa_cons (we_xvK1 (r10.ex _ _ _) kwE_10 hr (by decide) (we_var 0 rfl (wa_cons (we_xv1 (r11.ex _ _ _) hr (by decide) (we_var 0 rfl (wa_nil ⟨by show 3 ≤ sizeLine; decide, by show 20 + 3 ≤ sizeLine; decide, wg_name 1 sc__law_errors.nd ?_⟩)))))))))))))
  refine WS.ctx [some d, some (.lst ((errsD [E0, E1, E2, E3, E4, E5, E6, E7, E8, E9, E10, E11, E12, E13, E14, E15, E16, E17] d).take 23))] ?_ (by rfl)
  refine ws_asg (we_add (we_var 1 rfl (we_lst (wa_cons (we_xvK1 (r11.ex _ _ _) kwE_11 hr (by decide) (we_var 0 rfl (wa_cons (we_xv1 (r12.ex _ _ _) hr (by decide) (we_var 0 rfl (wa_cons (we_xvK1 (r12.ex _ _ _) kwE_12 hr (by decide) (we_var 0 rfl (wa_nil ⟨by show 3 ≤ sizeLine; decide, by show 23 + 3 ≤ sizeLine; decide, wg_name 1 sc__law_errors.nd ?_⟩)))))))))))))
  refine WS.ctx [some d, some (.lst ((errsD [E0, E1, E2, E3, E4, E5, E6, E7, E8, E9, E10, E11, E12, E13, E14, E15, E16, E17] d).take 26))] ?_ (by rfl)
  refine ws_asg (we_add (we_var 1 rfl (we_lst (wa_cons (we_xv1 (r13.ex _ _ _) hr (by decide) (we_var 0 rfl (wa_cons (we_xvK1 (r13.ex _ _ _) kwE_13 hr (by decide) (we_var 0 rfl (wa_cons (we_xv1 (r14.ex _ _ _) hr (by decide) (we_var 0 rfl (wa_cons (we_xvK1 (r14.ex _ _ _) kwE_14 hr (by decide) (we_var 0 rfl (wa_cons (we_xv1 (r15.ex _ _ _) hr (by decide) (we_var 0 rfl (wa_nil ⟨by show 5 ≤ sizeLine; decide, by show 26 + 5 ≤ sizeLine; decide, wg_name 1 sc__law_errors.nd ?_⟩)))))))))))))))))))
  refine WS.ctx [some d, some (.lst ((errsD [E0, E1, E2, E3, E4, E5, E6, E7, E8, E9, E10, E11, E12, E13, E14, E15, E16, E17] d).take 31))] ?_ (by rfl)
  refine ws_asg (we_add (we_var 1 rfl (we_lst (wa_cons (we_xvK1 (r15.ex _ _ _) kwE_15 hr (by decide) (we_var 0 rfl (wa_cons (we_xv1 (r16.ex _ _ _) hr (by decide) (we_var 0 rfl (wa_cons (we_xvK1 (r16.ex _ _ _) kwE_16 hr (by decide) (we_var 0 rfl (wa_cons (we_xv1 (r17.ex _ _ _) hr (by decide) (we_var 0 rfl (wa_cons (we_xvK1 (r17.ex _ _ _) kwE_17 hr (by decide) (we_var 0 rfl (wa_nil ⟨by show 5 ≤ sizeLine; decide, by show 31 + 5 ≤ sizeLine; decide, wg_name 1 sc__law_errors.nd ?_⟩)))))))))))))))))))
  refine WS.ctx [some d, some (.lst ((errsD [E0, E1, E2, E3, E4, E5, E6, E7, E8, E9, E10, E11, E12, E13, E14, E15, E16, E17] d).take 36))] ?_ (by rfl)
  refine ws_ret (we_var 1 rfl ?_)
  exact q
end
end T01

set_option Elab.async false
set_option linter.all false
set_option autoImplicit false
set_option maxRecDepth 100000
set_option maxHeartbeats 16000000
namespace T01
open PySem L2 DL

/-- values that repr shows -/
def shChkY (b : Nat) (d : D) : Bool := match pyY d with
  | some q => q.showable && decide (q.shown.length ≤ b) && decide (q.depth ≤ 50)
  | none => false
structure ShY (b : Nat) (d : D) (q : PyData) : Prop where
  px : pyY d = some q
  sw : q.showable = true
  ln : q.shown.length ≤ b
  dp : q.depth ≤ 50
theorem shChkY_ok {b : Nat} {d : D} (h : shChkY b d = true) : ∃ q, ShY b d q := by
  unfold shChkY at h
  cases hq : pyY d with
  | none => rw [hq] at h; cases h
  | some q =>
    rw [hq] at h
    simp only [Bool.and_eq_true, decide_eq_true_eq] at h
    exact ⟨q, hq, h.1.1, h.1.2, h.2⟩
theorem odd_chkY : oddL.all (shChkY 200) = true := by decide +kernel
theorem odd_shY {d : D} (h : d ∈ oddL) : ∃ q, ShY 200 d q := shChkY_ok (List.all_eq_true.mp odd_chkY d h)
theorem two_len {a b : PyData} {n m : Nat} (ha : a.shown.length ≤ n) (hb : b.shown.length ≤ m) : (PyData.list [a, b]).shown.length ≤ n + m + 4 := by
  have e : (PyData.list [a, b]).shown = ((("[" : Str) ++ a.shown) ++ (", " : Str) ++ b.shown) ++ ("]" : Str) := rfl
  have l1 : ("[" : Str).length = 1 := by decide +kernel
  have l2 : (", " : Str).length = 2 := by decide +kernel
  have l3 : ("]" : Str).length = 1 := by decide +kernel
  rw [e, Str.length_append, Str.length_append, Str.length_append, Str.length_append, l1, l2, l3]
  omega
theorem ShY.two {b c : Nat} {d e : D} {p q : PyData} (h : ShY b d p) (k : ShY c e q) (hd : p.depth ≤ 40) (he : q.depth ≤ 40) : ShY (b + c + 4) (.lst [d, e]) (.list [p, q]) := by
  refine ⟨?_, ?_, two_len h.ln k.ln, ?_⟩
  · simp only [pyY, pyYs, h.px, k.px]; rfl
  · show (p.showable && (q.showable && true)) = true
    rw [h.sw, k.sw]; rfl
  · show max p.depth (max q.depth 0) + 1 ≤ 50
    omega
def dpChk (d : D) : Bool := match pyY d with
  | some q => decide (q.depth ≤ 30)
  | none => false
theorem odd_dp : oddL.all dpChk = true := by decide +kernel
theorem odd_dpt {d : D} {q : PyData} (h : d ∈ oddL) (e : pyY d = some q) : q.depth ≤ 30 := by
  have z := List.all_eq_true.mp odd_dp d h
  unfold dpChk at z
  rw [e] at z
  exact of_decide_eq_true z
theorem errs_at (Es : List Addr) (d : D) {n : Nat} (h : n < 36) : atI (errsD Es d) ((0 : Int) + (n : Int)) = some (.exc (Es.getD (n / 2) 0) [fldN (n / 2)] [d]) := by
  rw [Int.zero_add]
  refine atI_nat ?_
  unfold errsD
  rw [List.getElem?_map, List.getElem?_range h]
  rfl
theorem words_at {n : Nat} (h : n < 36) : atI ((errN.take 18).map D.str) (((0 : Int) + (n : Int)) / 2) = some (.str (errN.getD (n / 2) "")) := by
  have e : ((0 : Int) + (n : Int)) / 2 = ((n / 2 : Nat) : Int) := by omega
  rw [e]
  refine atI_nat ?_
  have hl : n / 2 < 18 := by omega
  have z := (by decide +kernel : ∀ i, i < 18 → (errN.take 18)[i]? = some (errN.getD i "")) (n / 2) hl
  rw [List.getElem?_map, z]
  rfl
theorem fldV_of {K : PySem.W.Frag} {C : Addr} {d : D} {i : Nat} (h : i < 18) : FldV K C i [fldN i] [d] d := by
  have z : errF i = 0 ∨ errF i = 1 := (by decide : ∀ i, i < 18 → errF i = 0 ∨ errF i = 1) i h
  rcases z with z | z
  · refine .inl ⟨z, ?_⟩
    unfold fldN
    rw [if_neg (by rw [z]; decide)]
    rfl
  · refine .inr (.inl ⟨z, ?_⟩)
    unfold fldN
    rw [if_pos z]
    rfl
theorem brk_two {M : MM} {Q : Bool → MM → Prop} (h : Q true M) : EqQ (.lst [.str "Broken", .str "Broken"]) (.lst [.str "Broken", .str "Broken"]) M Q := by
  refine ⟨.list [.str "Broken", .str "Broken"], .list [.str "Broken", .str "Broken"], rfl, rfl, by decide +kernel, by decide +kernel, ?_⟩
  have e : PyData.eqv (.list [.str "Broken", .str "Broken"]) (.list [.str "Broken", .str "Broken"]) = true := by decide +kernel
  rw [e]
  exact h
section
variable {P : Program} {w : World} {K : PySem.W.Frag} {mg : Str → Option Value} {base : Heap}
def RpRight : RD := fun ds M Q => ∃ c : Addr, SpAt M c ∧ ds = [.raw c] ∧ ∀ M', SX M c M' → Q (.bl true) M'
variable {E0 E1 E2 E3 E4 E5 E6 E7 E8 E9 E10 E11 E12 E13 E14 E15 E16 E17 E18 E19 : Addr}
theorem c_pright (B : Blt mg) (SK : SysK K) (e0 : ErrW K mg E0 0) (e1 : ErrW K mg E1 1) (e2 : ErrW K mg E2 2) (e3 : ErrW K mg E3 3) (e4 : ErrW K mg E4 4) (e5 : ErrW K mg E5 5) (e6 : ErrW K mg E6 6) (e7 : ErrW K mg E7 7) (e8 : ErrW K mg E8 8) (e9 : ErrW K mg E9 9) (e10 : ErrW K mg E10 10) (e11 : ErrW K mg E11 11) (e12 : ErrW K mg E12 12) (e13 : ErrW K mg E13 13) (e14 : ErrW K mg E14 14) (e15 : ErrW K mg E15 15) (e16 : ErrW K mg E16 16) (e17 : ErrW K mg E17 17) (e18 : ErrW K mg E18 18) (e19 : ErrW K mg E19 19) (rB : Ry2L K mg "Broken" E18 "Broken.__init__" (inClass (top 22) 0) "index" "shown") (nU : RnL K mg "NothingToUndo" E19) (d : DefAt K mg "_law_right" (top 38) ["spring"]) (cod : Cal P w K mg base 3 "_law_odd" RpOdd) (cE : Cal P w K mg base 3 "_law_errors" (RpErrs [E0, E1, E2, E3, E4, E5, E6, E7, E8, E9, E10, E11, E12, E13, E14, E15, E16, E17])) (ce : Cal P w K mg base 1 "_law_error" (RlawErrV K mg)) (cf : Cal P w K mg base 1 "_law_field" (RlawFldV K mg)) : CalG P w K mg base 4 "_law_right" RpRight := by
  refine d.calG sc__law_right (fun ds M Q ⟨c, _, e, _⟩ => by rw [e]; rfl) (fun f cdv A outer s H E hgu hr ds M Q ⟨c, hM, e, q⟩ => ?_)
  subst e
  have hu := hr.units
  have hw : ∀ i, i < 18 → ErrW K mg ([E0, E1, E2, E3, E4, E5, E6, E7, E8, E9, E10, E11, E12, E13, E14, E15, E16, E17].getD i 0) i := fun i hi => by
    match i, hi with
    | 0, _ => exact e0
    | 1, _ => exact e1
    | 2, _ => exact e2
    | 3, _ => exact e3
    | 4, _ => exact e4
    | 5, _ => exact e5
    | 6, _ => exact e6
    | 7, _ => exact e7
    | 8, _ => exact e8
    | 9, _ => exact e9
    | 10, _ => exact e10
    | 11, _ => exact e11
    | 12, _ => exact e12
    | 13, _ => exact e13
    | 14, _ => exact e14
    | 15, _ => exact e15
    | 16, _ => exact e16
    | 17, _ => exact e17
    | n + 18, h => omega
  refine ws_par 1 2 sc__law_right.nd (by decide) (wa_cons (we_call cod hr (by decide) (wa_cons (we_var 0 rfl (wa_nil ⟨c, hM, rfl, fun d1 M1 hd1 x1 => wa_cons (we_call cod hr (by decide) (wa_cons (we_var 0 rfl (wa_nil ⟨c, x1.can, rfl, fun d2 M2 hd2 x2 => wa_nil ⟨_, _, rfl, ?_⟩⟩))))⟩)))))
  have X2 := x1.trans x2
  clear x1 x2
  obtain ⟨q1, S1⟩ := odd_shY hd1
  obtain ⟨q2, S2⟩ := odd_shY hd2
  have p1 := odd_dpt hd1 S1.px
  have p2 := odd_dpt hd2 S2.px
  refine ws_asg (we_lst (wa_cons (we_str (wa_cons (we_str (wa_cons (we_str (wa_cons (we_str (wa_cons (we_str (wa_cons (we_str (wa_nil ⟨by show 6 ≤ sizeLine; decide, wg_name 3 sc__law_right.nd ?_⟩))))))))))))))
  refine ws_asg (we_add (we_var 3 rfl (we_lst (wa_cons (we_str (wa_cons (we_str (wa_cons (we_str (wa_cons (we_str (wa_cons (we_str (wa_nil ⟨by show 5 ≤ sizeLine; decide, by show 6 + 5 ≤ sizeLine; decide, wg_name 3 sc__law_right.nd ?_⟩))))))))))))))
  refine ws_asg (we_add (we_var 3 rfl (we_lst (wa_cons (we_str (wa_cons (we_str (wa_cons (we_str (wa_cons (we_str (wa_cons (we_str (wa_cons (we_str (wa_cons (we_str (wa_nil ⟨by show 7 ≤ sizeLine; decide, by show 11 + 7 ≤ sizeLine; decide, wg_name 3 sc__law_right.nd ?_⟩))))))))))))))))))
  refine WS.ctx [some (.raw c), some d1, some d2, some (.lst ((errN.take 18).map .str)), none, none, none, none, none] ?_ (by rfl)
  refine ws_asg (we_call cE hr (by decide) (wa_cons (we_var 1 rfl (wa_nil ⟨d1, rfl, wg_name 4 sc__law_right.nd ?_⟩))))
  obtain ⟨el, hel⟩ : ∃ el, el = errsD [E0, E1, E2, E3, E4, E5, E6, E7, E8, E9, E10, E11, E12, E13, E14, E15, E16, E17] d1 := ⟨_, rfl⟩
  have hln : el.length = 36 := by rw [hel]; simp [errsD]
  refine WS.ctx [some (.raw c), some d1, some d2, some (.lst ((errN.take 18).map .str)), some (.lst el), none, none, none, none] ?_ (by rw [hel]; rfl)
  refine ws_for (wi_range1 B.range (we_len B.len (we_var 4 rfl ⟨_, rfl, ⟨by rw [hln]; decide, by rw [hln]; decide⟩, ?_⟩)))
  rw [hln]
  refine ⟨fun n Γ' M' => M' = M2 ∧ ∃ a5 a6 : Option D, Γ' = [some (.raw c), some d1, some d2, some (.lst ((errN.take 18).map .str)), some (.lst el), a5, a6, none, none], ⟨rfl, _, _, rfl⟩, fun _ _ _ _ _ => trivial, ?_, ?_⟩
  · rintro n Γ' M' hn ⟨rfl, a5, a6, rfl⟩
    have hn36 : n < 36 := hn
    have hi : n / 2 < 18 := by omega
    have T := hw (n / 2) hi
    have hat := errs_at [E0, E1, E2, E3, E4, E5, E6, E7, E8, E9, E10, E11, E12, E13, E14, E15, E16, E17] d1 hn36
    rw [← hel] at hat
    refine wg_name 5 sc__law_right.nd ?_
    refine ws_asg (we_call ce hr (by decide) (wa_cons (we_ix (we_var 4 rfl (we_var 5 rfl ⟨_, hat, wa_nil ⟨_, n / 2, _, _, T, rfl, wg_name 6 sc__law_right.nd ?_⟩⟩)))))
    refine ws_if (wt_ww (ww_or (wt_ne hu (we_var 6 rfl (we_ix (we_var 3 rfl (we_fdiv (we_var 5 rfl (we_int ⟨⟨by decide, by decide⟩, _, words_at hn36, ?_⟩)))))))))
    refine ⟨fun h => ?_, fun _ => ww_or1 (wt_ne hu (we_reprY SK hgu hr B.repr (we_call cf hr (by decide) (wa_cons (we_ix (we_var 4 rfl (we_var 5 rfl ⟨_, hat, wa_cons (we_var 6 rfl (wa_nil ⟨_, n / 2, _, _, d1, T, fldV_of hi, rfl, q1, S1.px, S1.sw, ?_, Nat.le_trans S1.dp (by decide), ?_⟩))⟩)))))))⟩
    · have h' : (!decide (errN.getD (n / 2) "" = errN.getD (n / 2) "")) = true := h
      rw [decide_eq_true rfl] at h'
      cases h'
    · have := S1.ln
      rw [sizeLine_eq]; omega
    refine we_reprY SK hgu hr B.repr (we_var 1 rfl ⟨q1, S1.px, S1.sw, ?_, Nat.le_trans S1.dp (by decide), ?_⟩)
    · have := S1.ln
      rw [sizeLine_eq]; omega
    show ((!decide (q1.shown = q1.shown)) = true → _) ∧ ((!decide (q1.shown = q1.shown)) = false → _)
    rw [decide_eq_true rfl]
    exact ⟨fun h => absurd h (by decide), fun _ => ws_nil (ws_nil ⟨rfl, _, _, rfl⟩)⟩
  rintro Γ' M' ⟨rfl, a5, a6, rfl⟩
  clear hln hel hw
  refine ws_asg (we_lst (wa_cons (we_xv2 (rB.ex _ _ _) hr (by decide) (wa_cons (we_var 1 rfl (wa_cons (we_var 2 rfl (wa_nil ⟨_, _, rfl, wa_cons (we_xvK2 (rB.ex _ _ _) kwE_18 hr (by decide) (wk_cons (we_var 2 rfl (wk_cons (we_var 1 rfl (wk_nil ⟨_, _, rfl, wa_nil ⟨by show 2 ≤ sizeLine; decide, wg_name 7 sc__law_right.nd ?_⟩⟩))))))⟩))))))))
  refine WS.ctx [some (.raw c), some d1, some d2, some (.lst ((errN.take 18).map .str)), some (.lst el), a5, a6, some (.lst (List.replicate 2 (.exc E18 ["shown", "index"] [d2, d1]))), none] ?_ (by rfl)
  have brk : ∀ n : Nat, n < 2 → dAt (List.replicate 2 (D.exc E18 ["shown", "index"] [d2, d1])) n = .exc E18 ["shown", "index"] [d2, d1] := fun n hn => dAt_of (by rw [List.getElem?_replicate]; rw [if_pos hn])
  refine ws_if (wt_ne hu (we_lc 8 sc__law_right.nd (fun _ _ _ _ _ => pg_name sc__law_right.nd rfl (Or.inl rfl)) (wi_list (we_var 7 rfl ⟨_, .inl rfl, ?_⟩))))
  intro a ha
  refine ⟨fun n acc M2 => M2 = M' ∧ acc = List.replicate n (.str "Broken"), ⟨rfl, rfl⟩, fun _ _ _ _ _ _ => trivial, ?_, ?_⟩
  · rintro n acc M2 hn hm ⟨rfl, rfl⟩ _ _ _ _ _
    refine wts_nil ⟨fun _ _ _ _ _ _ => ?_, fun h => absurd h (by decide)⟩
    rw [brk n hn]
    refine we_call ce hr (by decide) (wa_cons (we_var 8 rfl (wa_nil ⟨_, 18, _, _, e18, rfl, ?_⟩)))
    exact ⟨by rw [List.length_replicate]; exact szlt (by have : n < 2 := hn; omega), M2, rfl, hm, rfl, by rw [List.replicate_succ']; rfl⟩
  rintro acc M2 hm ⟨rfl, rfl⟩
  refine we_lst (wa_cons (we_str (wa_cons (we_str (wa_nil ⟨by show 2 ≤ sizeLine; decide, ?_⟩)))))
  refine brk_two ⟨fun h => absurd h (by decide), fun _ => ws_nil ?_⟩
  clear ha hm a
  have Sp := S2.two S1 (by omega) (by omega)
  have Sq := S1.two S2 (by omega) (by omega)
  have Sr := Sq.two Sq (by show max q1.depth (max q2.depth 0) + 1 ≤ 40; omega) (by show max q1.depth (max q2.depth 0) + 1 ≤ 40; omega)
  have Sl : (PyData.list [.list [q1, q2], .list [q1, q2]]).shown.length ≤ sizeLine := by
    have := Sr.ln
    rw [sizeLine_eq]; omega
  refine ws_if (wt_ne hu (we_reprY SK hgu hr B.repr (we_lc 8 sc__law_right.nd (fun _ _ _ _ _ => pg_name sc__law_right.nd rfl (Or.inl rfl)) (wi_list (we_var 7 rfl ⟨_, .inl rfl, ?_⟩)))))
  intro a ha
  refine ⟨fun n acc M3 => M3 = M2 ∧ acc = List.replicate n (.lst [d1, d2]), ⟨rfl, rfl⟩, fun _ _ _ _ _ _ => trivial, ?_, ?_⟩
  · rintro n acc M3 hn hm ⟨rfl, rfl⟩ _ _ _ _ _
    refine wts_nil ⟨fun _ _ _ _ _ _ => ?_, fun h => absurd h (by decide)⟩
    rw [brk n hn]
    refine we_call cf hr (by decide) (wa_cons (we_var 8 rfl (wa_cons (we_str (wa_nil ⟨_, 18, _, _, .lst [d1, d2], e18, .inr (.inr ⟨rfl, rB.ng, d1, d2, rfl, rfl, rfl⟩), rfl, ?_⟩)))))
    exact ⟨by rw [List.length_replicate]; exact szlt (by have : n < 2 := hn; omega), M3, rfl, hm, rfl, by rw [List.replicate_succ']⟩
  rintro acc M3 hm ⟨rfl, rfl⟩
  refine ⟨_, Sr.px, Sr.sw, Sl, Nat.le_trans Sr.dp (by decide), ?_⟩
  refine we_reprY SK hgu hr B.repr (we_lst (wa_cons (we_lst (wa_cons (we_var 1 rfl (wa_cons (we_var 2 rfl (wa_nil ⟨by show 2 ≤ sizeLine; decide, wa_cons (we_lst (wa_cons (we_var 1 rfl (wa_cons (we_var 2 rfl (wa_nil ⟨by show 2 ≤ sizeLine; decide, wa_nil ⟨by show 2 ≤ sizeLine; decide, ?_⟩⟩))))))⟩))))))))
  refine ⟨_, Sr.px, Sr.sw, Sl, Nat.le_trans Sr.dp (by decide), ?_⟩
  show ((!decide ((PyData.list [.list [q1, q2], .list [q1, q2]]).shown = (PyData.list [.list [q1, q2], .list [q1, q2]]).shown)) = true → _) ∧ ((!decide ((PyData.list [.list [q1, q2], .list [q1, q2]]).shown = (PyData.list [.list [q1, q2], .list [q1, q2]]).shown)) = false → _)
  rw [decide_eq_true rfl]
  refine ⟨fun h => absurd h (by decide), fun _ => ws_nil ?_⟩
  refine ws_ret (we_eq hu (we_call ce hr (by decide) (wa_cons (we_xv0 nU (wa_nil ⟨_, 19, _, _, e19, rfl, we_str ?_⟩)))))
  show Q (.bl (decide (errN.getD 19 "" = ("NothingToUndo" : Str)))) M3
  have e : decide (errN.getD 19 "" = ("NothingToUndo" : Str)) = true := by decide +kernel
  rw [e]
  exact q M3 X2
end
end T01

set_option Elab.async false
set_option linter.all false
set_option autoImplicit false
set_option maxRecDepth 100000
set_option maxHeartbeats 8000000
namespace T01
open PySem L2 DL

/-- the greatest numbers -/
structure LimW (mg : Str → Option Value) : Prop where
  c0 : ∃ t, mg "MOST_CLOTH" = some (.int 9 t)
  c1 : ∃ t, mg "MOST_MOVES" = some (.int 10 t)
  c2 : ∃ t, mg "MOST_NAMED" = some (.int 5 t)
  c3 : ∃ t, mg "MOST_PLACE" = some (.int 99 t)
  c4 : ∃ t, mg "MOST_LOOKED" = some (.int 3000 t)
  c5 : ∃ t, mg "MOST_EXCHANGES" = some (.int 5 t)
/-- the three base classes -/
structure BasesW (K : PySem.W.Frag) (mg : Str → Option Value) (B0 B1 B2 : Addr) : Prop where
  x0 : ExcC K B0
  x1 : ExcC K B1
  x2 : ExcC K B2
  m0 : mg "WrongValue" = some (.ref B0)
  v0 : mg "ValueError" = none
  v1 : mg "LookupError" = none
  v2 : mg "ArithmeticError" = none
  k0 : PySem.W.kitOne K (.ref B0) (.type "ValueError") = some true
  k1 : PySem.W.kitOne K (.ref B1) (.type "LookupError") = some true
  k2 : PySem.W.kitOne K (.ref B2) (.type "ArithmeticError") = some true
  k3 : PySem.W.kitOne K (.ref B2) (.ref B0) = some false
theorem lims_py : pyY (.lst [.int 9, .int 10, .int 5, .int 99, .int 3000, .int 5]) = some (.list [.int 9, .int 10, .int 5, .int 99, .int 3000, .int 5]) := by simp only [pyY, pyYs]; rfl
theorem lims_sh : (PyData.list [.int 9, .int 10, .int 5, .int 99, .int 3000, .int 5]).showable = true := by decide +kernel
theorem lims_ln : (PyData.list [.int 9, .int 10, .int 5, .int 99, .int 3000, .int 5]).shown.length ≤ sizeLine := by
  have z : (PyData.list [.int 9, .int 10, .int 5, .int 99, .int 3000, .int 5]).shown.length ≤ 100 := by decide +kernel
  rw [sizeLine_eq]; omega
theorem lims_dp : (PyData.list [.int 9, .int 10, .int 5, .int 99, .int 3000, .int 5]).depth ≤ 100 := by decide +kernel
theorem bls_four {M : MM} {Q : Bool → MM → Prop} (h : Q true M) : EqQ (.lst [.bl true, .bl true, .bl true, .bl false]) (.lst [.bl true, .bl true, .bl true, .bl false]) M Q := by
  refine ⟨.list [.bool true, .bool true, .bool true, .bool false], .list [.bool true, .bool true, .bool true, .bool false], rfl, rfl, by decide +kernel, by decide +kernel, ?_⟩
  have e : PyData.eqv (.list [.bool true, .bool true, .bool true, .bool false]) (.list [.bool true, .bool true, .bool true, .bool false]) = true := by decide +kernel
  rw [e]
  exact h
section
variable {P : Program} {w : World} {K : PySem.W.Frag} {mg : Str → Option Value} {base : Heap} {B0 B1 B2 : Addr}
theorem law_body {k : Nat} (hk : k = 4) (B : Blt mg) (SK : SysK K) (L : LimW mg) (W : BasesW K mg B0 B1 B2) (n0 : RnL K mg "WrongValue" B0) (n1 : RnL K mg "WrongName" B1) (n2 : RnL K mg "NoAnswer" B2) (cc : Cal P w K mg base 1 "_law_spring" RpSpring) (cr : CalG P w K mg base 4 "_law_right" RpRight) :
    ∀ (f : Addr) (cdv : Value) (A : Around) (outer : List Env) (s : Shared) (H : Hp) (E : XK), A.guards = some [] → Room k (A.deeper (PyProof.Rows.envOfC "law" (defScope (top 39)) s.heap.objs.size f cdv)) → ∀ (ds : List D) (M : MM) (Q : D → MM → Prop), Rlaw ds M Q →
      WS (cxOf CX0 P w K mg base ["script", "told", "bases", "k"] "law" (defScope (top 39)) f cdv A outer s H E).nox (defBody (top 39)) (startD ["script", "told", "bases", "k"] ds) M { nx := fun _ M' => Q .non M', rt := Q } := by
  intro f cdv A outer s0 H E hg hr ds M Q ⟨cs, e, hl, q⟩
  subst e
  subst hk
  obtain ⟨t0, h0⟩ := L.c0
  obtain ⟨t1, h1⟩ := L.c1
  obtain ⟨t2, h2⟩ := L.c2
  obtain ⟨t3, h3⟩ := L.c3
  obtain ⟨t4, h4⟩ := L.c4
  obtain ⟨t5, h5⟩ := L.c5
  have hu := hr.units
  refine ws_asg (we_lst (wa_cons (we_globI h0 (wa_cons (we_globI h1 (wa_cons (we_globI h2 (wa_cons (we_globI h3 (wa_cons (we_globI h4 (wa_cons (we_globI h5 (wa_nil ⟨by show 6 ≤ sizeLine; decide, wg_name 1 sc_law.nd ?_⟩))))))))))))))
  refine WS.ctx [some (.frz (cs.map .int)), some (.lst [.int 9, .int 10, .int 5, .int 99, .int 3000, .int 5]), none, none] ?_ (by rfl)
  refine ws_if (wt_ne hu (we_reprY SK hg hr B.repr (we_var 1 rfl ⟨_, lims_py, lims_sh, lims_ln, lims_dp, ?_⟩)))
  refine we_reprY SK hg hr B.repr (we_lst (wa_cons (we_int (wa_cons (we_int (wa_cons (we_int (wa_cons (we_int (wa_cons (we_int (wa_cons (we_int (wa_nil ⟨by show 6 ≤ sizeLine; decide, _, lims_py, lims_sh, lims_ln, lims_dp, ?_⟩))))))))))))))
  show ((!decide ((PyData.list [.int 9, .int 10, .int 5, .int 99, .int 3000, .int 5]).shown = (PyData.list [.int 9, .int 10, .int 5, .int 99, .int 3000, .int 5]).shown)) = true → _) ∧ ((!decide ((PyData.list [.int 9, .int 10, .int 5, .int 99, .int 3000, .int 5]).shown = (PyData.list [.int 9, .int 10, .int 5, .int 99, .int 3000, .int 5]).shown)) = false → _)
  rw [decide_eq_true rfl]
  refine ⟨fun h => absurd h (by decide), fun _ => ws_nil ?_⟩
  refine ws_asg (we_lst (wa_cons (we_isV W.x0 B.isinstance (.inr ⟨W.v0, by decide +kernel, by decide, _, rfl⟩) W.k0 (we_xv0 n0 ⟨_, _, rfl, wa_cons (we_isV W.x1 B.isinstance (.inr ⟨W.v1, by decide +kernel, by decide, _, rfl⟩) W.k1 (we_xv0 n1 ⟨_, _, rfl, wa_nil ⟨by show 2 ≤ sizeLine; decide, wg_name 2 sc_law.nd ?_⟩⟩))⟩))))
  refine ws_asg (we_add (we_var 2 rfl (we_lst (wa_cons (we_isV W.x2 B.isinstance (.inr ⟨W.v2, by decide +kernel, by decide, _, rfl⟩) W.k2 (we_xv0 n2 ⟨_, _, rfl, wa_cons (we_isV W.x2 B.isinstance (.inl ⟨W.m0, _, rfl⟩) W.k3 (we_xv0 n2 ⟨_, _, rfl, wa_nil ⟨by show 2 ≤ sizeLine; decide, by show 2 + 2 ≤ sizeLine; decide, wg_name 2 sc_law.nd ?_⟩⟩))⟩))))))
  refine WS.ctx [some (.frz (cs.map .int)), some (.lst [.int 9, .int 10, .int 5, .int 99, .int 3000, .int 5]), some (.lst [.bl true, .bl true, .bl true, .bl false]), none] ?_ (by rfl)
  refine ws_if (wt_ne hu (we_var 2 rfl (we_lst (wa_cons (we_bl (wa_cons (we_bl (wa_cons (we_bl (wa_cons (we_bl (wa_nil ⟨by show 4 ≤ sizeLine; decide, ?_⟩))))))))))))
  refine bls_four ⟨fun h => absurd h (by decide), fun _ => ws_nil ?_⟩
  refine ws_ret (we_all B.all (we_lc 3 sc_law.nd (fun _ _ _ _ _ => pg_name sc_law.nd rfl (Or.inl rfl)) (wi_range1 B.range (we_max B.max (we_int (we_min B.min (we_len B.len (we_var 0 rfl (we_int ⟨_, rfl, ⟨by omega, by omega⟩, ?_⟩)))))))))
  generalize hn : (Int.toNat _) = n
  have hn5 : n ≤ 6 := by omega
  intro a ha
  refine ⟨fun k acc M' => acc = (List.replicate k true).map .bl, rfl, fun _ _ _ _ _ _ => trivial, ?_, ?_⟩
  · rintro k acc M' hk hm rfl _ _ _ _ _
    refine wts_nil ⟨fun _ _ _ _ _ _ => ?_, fun h => absurd h (by decide)⟩
    dsimp only
    rw [Int.zero_add]
    refine we_callG cr hg hr (Nat.le_refl _) (wa_cons (we_call cc hr (by decide) (wa_cons (we_var 0 rfl (wa_cons (we_var 3 rfl (wa_nil ⟨cs, k, rfl, by omega, hl, fun c M2 hc x => wa_nil ⟨c, x.can, rfl, fun M3 x3 => ?_⟩⟩)))))))
    have hac : a ≠ c := fun z => by subst z; rw [mupd_same] at hc; cases hc
    refine ⟨by rw [List.length_map, List.length_replicate]; exact szlt (by omega), mdel M3 a, mdel_back ((x.trans x3).up a _ hac mupd_same), mdel_at, ?_⟩
    rw [List.replicate_succ', List.map_append]
    rfl
  rintro acc M' hm rfl
  refine ⟨_, rfl, ?_⟩
  have hall : (List.replicate n true).all id = true := by simp
  rw [hall]
  exact q _
end
end T01

set_option Elab.async false
set_option linter.all false
set_option autoImplicit false
set_option maxRecDepth 100000
set_option maxHeartbeats 4000000
namespace T01
open PySem L2 DL

theorem b__law_spring : ByPlace "_law_spring" "_law_spring" (top 31) ["cells", "k"] := fun _ _ _ _ _ _ us hl => match us, hl with | [_, _], _ => rfl
theorem bry2_Broken : ByPlace "__init__" "Broken.__init__" (inClass (top 22) 0) ["self", "index", "shown"] := fun _ _ _ _ _ _ us hl => match us, hl with | [_, _, _], _ => rfl
theorem b__law_right : ByPlace "_law_right" "_law_right" (top 38) ["spring"] := fun _ _ _ _ _ _ us hl => match us, hl with | [_], _ => rfl
theorem b__law_odd : ByPlace "_law_odd" "_law_odd" (top 36) ["spring"] := fun _ _ _ _ _ _ us hl => match us, hl with | [_], _ => rfl
theorem b__law_of : ByPlace "_law_of" "_law_of" (top 33) ["spring", "menu"] := fun _ _ _ _ _ _ us hl => match us, hl with | [_, _], _ => rfl
theorem b__law_draw : ByPlace "_law_draw" "_law_draw" (top 32) ["spring", "size"] := fun _ _ _ _ _ _ us hl => match us, hl with | [_, _], _ => rfl
theorem bry_InvalidCloth : ByPlace "__init__" "InvalidCloth.__init__" (inClass (top 2) 0) ["self", "given"] := fun _ _ _ _ _ _ us hl => match us, hl with | [_, _], _ => rfl
theorem bry_InvalidMove : ByPlace "__init__" "InvalidMove.__init__" (inClass (top 3) 0) ["self", "given"] := fun _ _ _ _ _ _ us hl => match us, hl with | [_, _], _ => rfl
theorem bry_InvalidText : ByPlace "__init__" "InvalidText.__init__" (inClass (top 4) 0) ["self", "given"] := fun _ _ _ _ _ _ us hl => match us, hl with | [_, _], _ => rfl
theorem bry_InvalidName : ByPlace "__init__" "InvalidName.__init__" (inClass (top 5) 0) ["self", "given"] := fun _ _ _ _ _ _ us hl => match us, hl with | [_, _], _ => rfl
theorem bry_InvalidNumber : ByPlace "__init__" "InvalidNumber.__init__" (inClass (top 6) 0) ["self", "given"] := fun _ _ _ _ _ _ us hl => match us, hl with | [_, _], _ => rfl
theorem bry_InvalidPlace : ByPlace "__init__" "InvalidPlace.__init__" (inClass (top 7) 0) ["self", "given"] := fun _ _ _ _ _ _ us hl => match us, hl with | [_, _], _ => rfl
theorem bry_InvalidWish : ByPlace "__init__" "InvalidWish.__init__" (inClass (top 8) 0) ["self", "given"] := fun _ _ _ _ _ _ us hl => match us, hl with | [_, _], _ => rfl
theorem bry_NotAScript : ByPlace "__init__" "NotAScript.__init__" (inClass (top 9) 0) ["self", "given"] := fun _ _ _ _ _ _ us hl => match us, hl with | [_, _], _ => rfl
theorem bry_InvalidRows : ByPlace "__init__" "InvalidRows.__init__" (inClass (top 10) 0) ["self", "index"] := fun _ _ _ _ _ _ us hl => match us, hl with | [_, _], _ => rfl
theorem bry_InvalidStanding : ByPlace "__init__" "InvalidStanding.__init__" (inClass (top 11) 0) ["self", "index"] := fun _ _ _ _ _ _ us hl => match us, hl with | [_, _], _ => rfl
theorem bry_InvalidSeen : ByPlace "__init__" "InvalidSeen.__init__" (inClass (top 12) 0) ["self", "index"] := fun _ _ _ _ _ _ us hl => match us, hl with | [_, _], _ => rfl
theorem bry_InvalidExchanges : ByPlace "__init__" "InvalidExchanges.__init__" (inClass (top 13) 0) ["self", "index"] := fun _ _ _ _ _ _ us hl => match us, hl with | [_, _], _ => rfl
theorem bry_InvalidWishes : ByPlace "__init__" "InvalidWishes.__init__" (inClass (top 14) 0) ["self", "index"] := fun _ _ _ _ _ _ us hl => match us, hl with | [_, _], _ => rfl
theorem bry_UnknownName : ByPlace "__init__" "UnknownName.__init__" (inClass (top 16) 0) ["self", "given"] := fun _ _ _ _ _ _ us hl => match us, hl with | [_, _], _ => rfl
theorem bry_InUse : ByPlace "__init__" "InUse.__init__" (inClass (top 17) 0) ["self", "index"] := fun _ _ _ _ _ _ us hl => match us, hl with | [_, _], _ => rfl
theorem bry_Unknown : ByPlace "__init__" "Unknown.__init__" (inClass (top 19) 0) ["self", "index"] := fun _ _ _ _ _ _ us hl => match us, hl with | [_, _], _ => rfl
theorem bry_TooFew : ByPlace "__init__" "TooFew.__init__" (inClass (top 20) 0) ["self", "given"] := fun _ _ _ _ _ _ us hl => match us, hl with | [_, _], _ => rfl
theorem bry_TooMany : ByPlace "__init__" "TooMany.__init__" (inClass (top 21) 0) ["self", "given"] := fun _ _ _ _ _ _ us hl => match us, hl with | [_, _], _ => rfl
theorem b__law_errors : ByPlace "_law_errors" "_law_errors" (top 37) ["thing"] := fun _ _ _ _ _ _ us hl => match us, hl with | [_], _ => rfl
theorem b__law_error : ByPlace "_law_error" "_law_error" (top 34) ["e"] := fun _ _ _ _ _ _ us hl => match us, hl with | [_], _ => rfl
theorem b__law_field : ByPlace "_law_field" "_law_field" (top 35) ["e", "word_now"] := fun _ _ _ _ _ _ us hl => match us, hl with | [_, _], _ => rfl
section
variable {w : World} {K : PySem.W.Frag} {h : Heap} {mg : Str → Option Value} {C S TF NU NS UN IS IC IM IN IP IR IT P0 P1 P2 P3 cc cc1 cc2 cc3 B0 B1 B2 E0 E1 E2 E3 E4 E5 E6 E7 E8 E9 E10 E11 E12 E13 E14 E15 E16 E17 E18 E19 : Addr}
theorem b_law : ByPlace "law" "law" (top 39) ["script"] := fun _ _ _ _ _ _ us hl => match us, hl with | [_], _ => rfl
theorem all_mk {l : PySem.W.OpenLaw} {fa : Addr} (hfa : mg "law" = some (.ref fa)) (fB : Blt mg) (fSys : SysK K) (fLim : LimW mg) (fBas : BasesW K mg B0 B1 B2) (n_WrongValue : RnL K mg "WrongValue" B0) (n_WrongName : RnL K mg "WrongName" B1) (n_NoAnswer : RnL K mg "NoAnswer" B2) (d__law_spring : DefAt K mg "_law_spring" (top 31) ["cells", "k"]) (e_0 : ErrW K mg E0 0) (e_1 : ErrW K mg E1 1) (e_2 : ErrW K mg E2 2) (e_3 : ErrW K mg E3 3) (e_4 : ErrW K mg E4 4) (e_5 : ErrW K mg E5 5) (e_6 : ErrW K mg E6 6) (e_7 : ErrW K mg E7 7) (e_8 : ErrW K mg E8 8) (e_9 : ErrW K mg E9 9) (e_10 : ErrW K mg E10 10) (e_11 : ErrW K mg E11 11) (e_12 : ErrW K mg E12 12) (e_13 : ErrW K mg E13 13) (e_14 : ErrW K mg E14 14) (e_15 : ErrW K mg E15 15) (e_16 : ErrW K mg E16 16) (e_17 : ErrW K mg E17 17) (e_18 : ErrW K mg E18 18) (e_19 : ErrW K mg E19 19) (ry2_Broken : Ry2L K mg "Broken" E18 "Broken.__init__" (inClass (top 22) 0) "index" "shown") (n_NothingToUndo : RnL K mg "NothingToUndo" E19) (d__law_right : DefAt K mg "_law_right" (top 38) ["spring"]) (d__law_odd : DefAt K mg "_law_odd" (top 36) ["spring"]) (d__law_of : DefAt K mg "_law_of" (top 33) ["spring", "menu"]) (d__law_draw : DefAt K mg "_law_draw" (top 32) ["spring", "size"]) (ry_InvalidCloth : RyL K mg "InvalidCloth" E0 "InvalidCloth.__init__" (inClass (top 2) 0) "given") (ry_InvalidMove : RyL K mg "InvalidMove" E1 "InvalidMove.__init__" (inClass (top 3) 0) "given") (ry_InvalidText : RyL K mg "InvalidText" E2 "InvalidText.__init__" (inClass (top 4) 0) "given") (ry_InvalidName : RyL K mg "InvalidName" E3 "InvalidName.__init__" (inClass (top 5) 0) "given") (ry_InvalidNumber : RyL K mg "InvalidNumber" E4 "InvalidNumber.__init__" (inClass (top 6) 0) "given") (ry_InvalidPlace : RyL K mg "InvalidPlace" E5 "InvalidPlace.__init__" (inClass (top 7) 0) "given") (ry_InvalidWish : RyL K mg "InvalidWish" E6 "InvalidWish.__init__" (inClass (top 8) 0) "given") (ry_NotAScript : RyL K mg "NotAScript" E7 "NotAScript.__init__" (inClass (top 9) 0) "given") (ry_InvalidRows : RyL K mg "InvalidRows" E8 "InvalidRows.__init__" (inClass (top 10) 0) "index") (ry_InvalidStanding : RyL K mg "InvalidStanding" E9 "InvalidStanding.__init__" (inClass (top 11) 0) "index") (ry_InvalidSeen : RyL K mg "InvalidSeen" E10 "InvalidSeen.__init__" (inClass (top 12) 0) "index") (ry_InvalidExchanges : RyL K mg "InvalidExchanges" E11 "InvalidExchanges.__init__" (inClass (top 13) 0) "index") (ry_InvalidWishes : RyL K mg "InvalidWishes" E12 "InvalidWishes.__init__" (inClass (top 14) 0) "index") (ry_UnknownName : RyL K mg "UnknownName" E13 "UnknownName.__init__" (inClass (top 16) 0) "given") (ry_InUse : RyL K mg "InUse" E14 "InUse.__init__" (inClass (top 17) 0) "index") (ry_Unknown : RyL K mg "Unknown" E15 "Unknown.__init__" (inClass (top 19) 0) "index") (ry_TooFew : RyL K mg "TooFew" E16 "TooFew.__init__" (inClass (top 20) 0) "given") (ry_TooMany : RyL K mg "TooMany" E17 "TooMany.__init__" (inClass (top 21) 0) "given") (d__law_errors : DefAt K mg "_law_errors" (top 37) ["thing"]) (d__law_error : DefAt K mg "_law_error" (top 34) ["e"]) (d__law_field : DefAt K mg "_law_field" (top 35) ["e", "word_now"]) (d_law : DefAt K mg "law" (top 39) ["script"]) :
    ∃ fd : FuncData, (∀ (s : Shared) (v : Value), BindsTo s fd ⟨[v], []⟩ [("script", v)]) ∧ ∀ base : Heap, K.In base → base.Ns mainGlobals mg → FnG l.prog w K mg base 5 fa fd ["script"] (SpD K Rlaw) := by
  obtain ⟨f, fd, F, hm, b⟩ := d_law.ex
  have e := hfa.symm.trans hm
  cases e
  have hbind : ∀ (s : Shared) (v : Value), BindsTo s fd ⟨[v], []⟩ [("script", v)] := by
    obtain ⟨oc, od, kV, doc, pm, an, cdv, ct, osl, rfl, lk, hcd⟩ := F.ex
    exact fun s v => .of_eq rfl
  refine ⟨fd, hbind, fun base _ _  => ?_⟩
  have h1 : Cal l.prog w K mg base 1 "_law_spring" RpSpring := c_pspring fB d__law_spring
  have h2 : Cal l.prog w K mg base 1 "_law_draw" RpDraw := c_pdraw fB d__law_draw
  have h3 : Cal l.prog w K mg base 2 "_law_of" RpOf := c_pof fB d__law_of h2
  have h4 : Cal l.prog w K mg base 3 "_law_odd" RpOdd := c_podd fB d__law_odd h3
  have h5 : Cal l.prog w K mg base 3 "_law_errors" (RpErrs [E0, E1, E2, E3, E4, E5, E6, E7, E8, E9, E10, E11, E12, E13, E14, E15, E16, E17]) := c_perrs ry_InvalidCloth ry_InvalidMove ry_InvalidText ry_InvalidName ry_InvalidNumber ry_InvalidPlace ry_InvalidWish ry_NotAScript ry_InvalidRows ry_InvalidStanding ry_InvalidSeen ry_InvalidExchanges ry_InvalidWishes ry_UnknownName ry_InUse ry_Unknown ry_TooFew ry_TooMany d__law_errors
  have h6 : Cal l.prog w K mg base 1 "_law_error" (RlawErrV K mg) := c_law_errorV fB d__law_error
  have h7 : Cal l.prog w K mg base 1 "_law_field" (RlawFldV K mg) := c_law_fieldV fB d__law_field
  have h8 : CalG l.prog w K mg base 4 "_law_right" RpRight := c_pright fB fSys e_0 e_1 e_2 e_3 e_4 e_5 e_6 e_7 e_8 e_9 e_10 e_11 e_12 e_13 e_14 e_15 e_16 e_17 e_18 e_19 ry2_Broken n_NothingToUndo d__law_right h4 h5 h6 h7
  exact fn_okG F sc_law law_len (law_body rfl fB fSys fLim fBas n_WrongValue n_WrongName n_NoAnswer h1 h8 _)
theorem walk {l : PySem.W.OpenLaw} {q : Program} {loose : List Str} {XP : (Str → Option Value) → Heap → Prop} {YP : World → Heap → Prop} {d : DefRec} {K : Params → PySem.W.Frag} (hn : l.most = some 63) (hdf : d.params.defaults = []) (hY : ∀ (w : World) (h : Heap), YP w h → (K w.params).In h)
    (F : ∀ (w : World) (mg : Str → Option Value) (fa : Addr) (h : Heap), (K w.params).In h → h.Ns mainGlobals mg → mg d.name = some (.ref fa) →
      ∃ fd : FuncData, (∀ (s : Shared) (u : Value), BindsTo s fd ⟨[u], []⟩ [("script", u)]) ∧ ∀ base : Heap, (K w.params).In base → base.Ns mainGlobals mg → FnG l.prog w (K w.params) mg base 5 fa fd ["script"] (SpD (K w.params) Rlaw)) :
    PySem.W.WalkO q loose XP YP l.row.toRowW d [] (fun f vs => PySem.call f vs) :=
  DL.walk_ofG (n := 63) (k := 5) (x := "script") (sp := fun w => SpD (K w.params) Rlaw) hn (by decide) hdf ⟨rfl, by decide, by decide⟩ hY F (fun _ _ _ _ hl _ hS => start_law (Nat.le_trans hl (by decide)) hS)
end
end T01

set_option Elab.async false
set_option linter.all false
set_option autoImplicit false
set_option maxRecDepth 100000
set_option maxHeartbeats 0
namespace T01
open PySem L2 DL PySem.Spec PyProof.Rows

theorem Stands.ofL {K : PySem.W.Frag} {x q : Str} {st : Stmt} {f : Addr} (s : StandsL K x q st f) : Stands K x q st f := ⟨s.at_, s.kp⟩
section
variable {w : World} {K : PySem.W.Frag} {h : Heap} {mg : Str → Option Value}
theorem facts {l : PySem.W.OpenLaw} {fa : Addr} (KX : K.In h) (G : h.Ns mainGlobals mg) (hfa : mg "law" = some (.ref fa)) (c : SaysY fds exB lamAt h K) : ∃ fd : FuncData, (∀ (s : Shared) (v : Value), BindsTo s fd ⟨[v], []⟩ [("script", v)]) ∧ ∀ base : Heap, K.In base → base.Ns mainGlobals mg → FnG l.prog w K mg base 5 fa fd ["script"] (SpD K Rlaw) := by
  have fB : Blt mg := blt_mk KX G (of_decide_eq_true (fact_at (l := exL K) c.ex 0 rfl)) (of_decide_eq_true (fact_at (l := exL K) c.ex 1 rfl)) (of_decide_eq_true (fact_at (l := exL K) c.ex 2 rfl)) (of_decide_eq_true (fact_at (l := exL K) c.ex 3 rfl)) (of_decide_eq_true (fact_at (l := exL K) c.ex 4 rfl)) (of_decide_eq_true (fact_at (l := exL K) c.ex 5 rfl)) (of_decide_eq_true (fact_at (l := exL K) c.ex 6 rfl)) (of_decide_eq_true (fact_at (l := exL K) c.ex 7 rfl)) (of_decide_eq_true (fact_at (l := exL K) c.ex 8 rfl)) (of_decide_eq_true (fact_at (l := exL K) c.ex 9 rfl)) (of_decide_eq_true (fact_at (l := exL K) c.ex 10 rfl)) (of_decide_eq_true (fact_at (l := exL K) c.ex 11 rfl)) (of_decide_eq_true (fact_at (l := exL K) c.ex 12 rfl)) (of_decide_eq_true (fact_at (l := exL K) c.ex 13 rfl)) (of_decide_eq_true (fact_at (l := exL K) c.ex 14 rfl)) (of_decide_eq_true (fact_at (l := exL K) c.ex 15 rfl)) (of_decide_eq_true (fact_at (l := exL K) c.ex 16 rfl)) (of_decide_eq_true (fact_at (l := exL K) c.ex 17 rfl)) (of_decide_eq_true (fact_at (l := exL K) c.ex 18 rfl))
  have fSys : SysK K := ⟨Option.isSome_iff_exists.mp (fact_at (l := exL K) c.ex 19 rfl)⟩
  have fLim : LimW mg := ⟨He.int_ok KX G (x := "MOST_CLOTH") (i := 9) (fact_at (l := exL K) c.ex 20 rfl), He.int_ok KX G (x := "MOST_MOVES") (i := 10) (fact_at (l := exL K) c.ex 21 rfl), He.int_ok KX G (x := "MOST_NAMED") (i := 5) (fact_at (l := exL K) c.ex 22 rfl), He.int_ok KX G (x := "MOST_PLACE") (i := 99) (fact_at (l := exL K) c.ex 23 rfl), He.int_ok KX G (x := "MOST_LOOKED") (i := 3000) (fact_at (l := exL K) c.ex 24 rfl), He.int_ok KX G (x := "MOST_EXCHANGES") (i := 5) (fact_at (l := exL K) c.ex 25 rfl)⟩
  have fBas : BasesW K mg (He.ga K "WrongValue") (He.ga K "WrongName") (He.ga K "NoAnswer") := ⟨⟨(of_decide_eq_true (fact_at (l := exL K) c.ex 26 rfl)), (of_decide_eq_true (fact_at (l := exL K) c.ex 27 rfl)), (of_decide_eq_true (fact_at (l := exL K) c.ex 28 rfl)), (fact_at (l := exL K) c.ex 29 rfl), (of_decide_eq_true (fact_at (l := exL K) c.ex 30 rfl)), (of_decide_eq_true (fact_at (l := exL K) c.ex 31 rfl)), (of_decide_eq_true (fact_at (l := exL K) c.ex 32 rfl)), (of_decide_eq_true (fact_at (l := exL K) c.ex 33 rfl))⟩, ⟨(of_decide_eq_true (fact_at (l := exL K) c.ex 34 rfl)), (of_decide_eq_true (fact_at (l := exL K) c.ex 35 rfl)), (of_decide_eq_true (fact_at (l := exL K) c.ex 36 rfl)), (fact_at (l := exL K) c.ex 37 rfl), (of_decide_eq_true (fact_at (l := exL K) c.ex 38 rfl)), (of_decide_eq_true (fact_at (l := exL K) c.ex 31 rfl)), (of_decide_eq_true (fact_at (l := exL K) c.ex 32 rfl)), (of_decide_eq_true (fact_at (l := exL K) c.ex 39 rfl))⟩, ⟨(of_decide_eq_true (fact_at (l := exL K) c.ex 40 rfl)), (of_decide_eq_true (fact_at (l := exL K) c.ex 41 rfl)), (of_decide_eq_true (fact_at (l := exL K) c.ex 42 rfl)), (fact_at (l := exL K) c.ex 43 rfl), (of_decide_eq_true (fact_at (l := exL K) c.ex 44 rfl)), (of_decide_eq_true (fact_at (l := exL K) c.ex 31 rfl)), (of_decide_eq_true (fact_at (l := exL K) c.ex 32 rfl)), (of_decide_eq_true (fact_at (l := exL K) c.ex 45 rfl))⟩, PySem.W.mg_of KX G (of_decide_eq_true (fact_at (l := exL K) c.ex 46 rfl)), PySem.W.mg_none_of KX G (of_decide_eq_true (fact_at (l := exL K) c.ex 47 rfl)), PySem.W.mg_none_of KX G (of_decide_eq_true (fact_at (l := exL K) c.ex 48 rfl)), PySem.W.mg_none_of KX G (of_decide_eq_true (fact_at (l := exL K) c.ex 49 rfl)), (of_decide_eq_true (fact_at (l := exL K) c.ex 50 rfl)), (of_decide_eq_true (fact_at (l := exL K) c.ex 51 rfl)), (of_decide_eq_true (fact_at (l := exL K) c.ex 52 rfl)), (of_decide_eq_true (fact_at (l := exL K) c.ex 53 rfl))⟩
  have n_WrongValue : RnL K mg "WrongValue" (He.ga K "WrongValue") := ⟨_, _, _, _, PySem.F.excBase_ValueError, (fact_at (l := exL K) c.ex 54 rfl), PySem.W.mg_of KX G (of_decide_eq_true (fact_at (l := exL K) c.ex 46 rfl)), (fact_at (l := exL K) c.ex 55 rfl), (of_decide_eq_true (fact_at (l := exL K) c.ex 28 rfl)), (of_decide_eq_true (fact_at (l := exL K) c.ex 56 rfl))⟩
  have n_WrongName : RnL K mg "WrongName" (He.ga K "WrongName") := ⟨_, _, _, _, PySem.F.excBase_LookupError, (fact_at (l := exL K) c.ex 57 rfl), PySem.W.mg_of KX G (of_decide_eq_true (fact_at (l := exL K) c.ex 58 rfl)), (fact_at (l := exL K) c.ex 59 rfl), (of_decide_eq_true (fact_at (l := exL K) c.ex 36 rfl)), (of_decide_eq_true (fact_at (l := exL K) c.ex 60 rfl))⟩
  have n_NoAnswer : RnL K mg "NoAnswer" (He.ga K "NoAnswer") := ⟨_, _, _, _, PySem.F.excBase_ArithmeticError, (fact_at (l := exL K) c.ex 61 rfl), PySem.W.mg_of KX G (of_decide_eq_true (fact_at (l := exL K) c.ex 62 rfl)), (fact_at (l := exL K) c.ex 63 rfl), (of_decide_eq_true (fact_at (l := exL K) c.ex 42 rfl)), (of_decide_eq_true (fact_at (l := exL K) c.ex 64 rfl))⟩
  have d__law_spring : DefAt K mg "_law_spring" (top 31) ["cells", "k"] := def_at KX G b__law_spring (of_decide_eq_true (fact_at (l := exL K) c.ex 65 rfl)) (Stands.ofL (c.fn _ (List.mem_of_getElem? (i := 0) rfl)))
  have e_0 : ErrW K mg (He.ga K "InvalidCloth") 0 := errw_mk KX G (by decide) (of_decide_eq_true (fact_at (l := exL K) c.ex 73 rfl)) (of_decide_eq_true (fact_at (l := exL K) c.ex 74 rfl)) (of_decide_eq_true (fact_at (l := exL K) c.ex 75 rfl)) (of_decide_eq_true (fact_at (l := exL K) c.ex 76 rfl)) (of_decide_eq_true (fact_at (l := exL K) c.ex 77 rfl)) (of_decide_eq_true (fact_at (l := exL K) c.ex 78 rfl)) (of_decide_eq_true (fact_at (l := exL K) c.ex 79 rfl)) (of_decide_eq_true (fact_at (l := exL K) c.ex 80 rfl)) (of_decide_eq_true (fact_at (l := exL K) c.ex 81 rfl)) (of_decide_eq_true (fact_at (l := exL K) c.ex 82 rfl)) (of_decide_eq_true (fact_at (l := exL K) c.ex 83 rfl)) (of_decide_eq_true (fact_at (l := exL K) c.ex 84 rfl)) (of_decide_eq_true (fact_at (l := exL K) c.ex 85 rfl)) (of_decide_eq_true (fact_at (l := exL K) c.ex 86 rfl)) (of_decide_eq_true (fact_at (l := exL K) c.ex 87 rfl)) (of_decide_eq_true (fact_at (l := exL K) c.ex 88 rfl)) (of_decide_eq_true (fact_at (l := exL K) c.ex 89 rfl)) (of_decide_eq_true (fact_at (l := exL K) c.ex 90 rfl)) (of_decide_eq_true (fact_at (l := exL K) c.ex 91 rfl)) (of_decide_eq_true (fact_at (l := exL K) c.ex 92 rfl)) (of_decide_eq_true (fact_at (l := exL K) c.ex 46 rfl)) (of_decide_eq_true (fact_at (l := exL K) c.ex 58 rfl)) (of_decide_eq_true (fact_at (l := exL K) c.ex 62 rfl)) (of_decide_eq_true (fact_at (l := exL K) c.ex 47 rfl)) (of_decide_eq_true (fact_at (l := exL K) c.ex 48 rfl)) (of_decide_eq_true (fact_at (l := exL K) c.ex 49 rfl)) (ecChk_ok (fact_at (l := exL K) c.ex 66 rfl)) ⟨(of_decide_eq_true (fact_at (l := exL K) c.ex 67 rfl)), (of_decide_eq_true (fact_at (l := exL K) c.ex 68 rfl)), (of_decide_eq_true (fact_at (l := exL K) c.ex 69 rfl)), (fact_at (l := exL K) c.ex 70 rfl), (of_decide_eq_true (fact_at (l := exL K) c.ex 71 rfl)), (of_decide_eq_true (fact_at (l := exL K) c.ex 31 rfl)), (of_decide_eq_true (fact_at (l := exL K) c.ex 32 rfl)), (of_decide_eq_true (fact_at (l := exL K) c.ex 72 rfl))⟩ (of_decide_eq_true (fact_at (l := exL K) c.ex 93 rfl)) (of_decide_eq_true (fact_at (l := exL K) c.ex 94 rfl)) 
  have e_1 : ErrW K mg (He.ga K "InvalidMove") 1 := errw_mk KX G (by decide) (of_decide_eq_true (fact_at (l := exL K) c.ex 73 rfl)) (of_decide_eq_true (fact_at (l := exL K) c.ex 74 rfl)) (of_decide_eq_true (fact_at (l := exL K) c.ex 75 rfl)) (of_decide_eq_true (fact_at (l := exL K) c.ex 76 rfl)) (of_decide_eq_true (fact_at (l := exL K) c.ex 77 rfl)) (of_decide_eq_true (fact_at (l := exL K) c.ex 78 rfl)) (of_decide_eq_true (fact_at (l := exL K) c.ex 79 rfl)) (of_decide_eq_true (fact_at (l := exL K) c.ex 80 rfl)) (of_decide_eq_true (fact_at (l := exL K) c.ex 81 rfl)) (of_decide_eq_true (fact_at (l := exL K) c.ex 82 rfl)) (of_decide_eq_true (fact_at (l := exL K) c.ex 83 rfl)) (of_decide_eq_true (fact_at (l := exL K) c.ex 84 rfl)) (of_decide_eq_true (fact_at (l := exL K) c.ex 85 rfl)) (of_decide_eq_true (fact_at (l := exL K) c.ex 86 rfl)) (of_decide_eq_true (fact_at (l := exL K) c.ex 87 rfl)) (of_decide_eq_true (fact_at (l := exL K) c.ex 88 rfl)) (of_decide_eq_true (fact_at (l := exL K) c.ex 89 rfl)) (of_decide_eq_true (fact_at (l := exL K) c.ex 90 rfl)) (of_decide_eq_true (fact_at (l := exL K) c.ex 91 rfl)) (of_decide_eq_true (fact_at (l := exL K) c.ex 92 rfl)) (of_decide_eq_true (fact_at (l := exL K) c.ex 46 rfl)) (of_decide_eq_true (fact_at (l := exL K) c.ex 58 rfl)) (of_decide_eq_true (fact_at (l := exL K) c.ex 62 rfl)) (of_decide_eq_true (fact_at (l := exL K) c.ex 47 rfl)) (of_decide_eq_true (fact_at (l := exL K) c.ex 48 rfl)) (of_decide_eq_true (fact_at (l := exL K) c.ex 49 rfl)) (ecChk_ok (fact_at (l := exL K) c.ex 95 rfl)) ⟨(of_decide_eq_true (fact_at (l := exL K) c.ex 96 rfl)), (of_decide_eq_true (fact_at (l := exL K) c.ex 97 rfl)), (of_decide_eq_true (fact_at (l := exL K) c.ex 98 rfl)), (fact_at (l := exL K) c.ex 99 rfl), (of_decide_eq_true (fact_at (l := exL K) c.ex 100 rfl)), (of_decide_eq_true (fact_at (l := exL K) c.ex 31 rfl)), (of_decide_eq_true (fact_at (l := exL K) c.ex 32 rfl)), (of_decide_eq_true (fact_at (l := exL K) c.ex 101 rfl))⟩ (of_decide_eq_true (fact_at (l := exL K) c.ex 102 rfl)) (of_decide_eq_true (fact_at (l := exL K) c.ex 103 rfl)) 
  have e_2 : ErrW K mg (He.ga K "InvalidText") 2 := errw_mk KX G (by decide) (of_decide_eq_true (fact_at (l := exL K) c.ex 73 rfl)) (of_decide_eq_true (fact_at (l := exL K) c.ex 74 rfl)) (of_decide_eq_true (fact_at (l := exL K) c.ex 75 rfl)) (of_decide_eq_true (fact_at (l := exL K) c.ex 76 rfl)) (of_decide_eq_true (fact_at (l := exL K) c.ex 77 rfl)) (of_decide_eq_true (fact_at (l := exL K) c.ex 78 rfl)) (of_decide_eq_true (fact_at (l := exL K) c.ex 79 rfl)) (of_decide_eq_true (fact_at (l := exL K) c.ex 80 rfl)) (of_decide_eq_true (fact_at (l := exL K) c.ex 81 rfl)) (of_decide_eq_true (fact_at (l := exL K) c.ex 82 rfl)) (of_decide_eq_true (fact_at (l := exL K) c.ex 83 rfl)) (of_decide_eq_true (fact_at (l := exL K) c.ex 84 rfl)) (of_decide_eq_true (fact_at (l := exL K) c.ex 85 rfl)) (of_decide_eq_true (fact_at (l := exL K) c.ex 86 rfl)) (of_decide_eq_true (fact_at (l := exL K) c.ex 87 rfl)) (of_decide_eq_true (fact_at (l := exL K) c.ex 88 rfl)) (of_decide_eq_true (fact_at (l := exL K) c.ex 89 rfl)) (of_decide_eq_true (fact_at (l := exL K) c.ex 90 rfl)) (of_decide_eq_true (fact_at (l := exL K) c.ex 91 rfl)) (of_decide_eq_true (fact_at (l := exL K) c.ex 92 rfl)) (of_decide_eq_true (fact_at (l := exL K) c.ex 46 rfl)) (of_decide_eq_true (fact_at (l := exL K) c.ex 58 rfl)) (of_decide_eq_true (fact_at (l := exL K) c.ex 62 rfl)) (of_decide_eq_true (fact_at (l := exL K) c.ex 47 rfl)) (of_decide_eq_true (fact_at (l := exL K) c.ex 48 rfl)) (of_decide_eq_true (fact_at (l := exL K) c.ex 49 rfl)) (ecChk_ok (fact_at (l := exL K) c.ex 104 rfl)) ⟨(of_decide_eq_true (fact_at (l := exL K) c.ex 105 rfl)), (of_decide_eq_true (fact_at (l := exL K) c.ex 106 rfl)), (of_decide_eq_true (fact_at (l := exL K) c.ex 107 rfl)), (fact_at (l := exL K) c.ex 108 rfl), (of_decide_eq_true (fact_at (l := exL K) c.ex 109 rfl)), (of_decide_eq_true (fact_at (l := exL K) c.ex 31 rfl)), (of_decide_eq_true (fact_at (l := exL K) c.ex 32 rfl)), (of_decide_eq_true (fact_at (l := exL K) c.ex 110 rfl))⟩ (of_decide_eq_true (fact_at (l := exL K) c.ex 111 rfl)) (of_decide_eq_true (fact_at (l := exL K) c.ex 112 rfl)) 
  have e_3 : ErrW K mg (He.ga K "InvalidName") 3 := errw_mk KX G (by decide) (of_decide_eq_true (fact_at (l := exL K) c.ex 73 rfl)) (of_decide_eq_true (fact_at (l := exL K) c.ex 74 rfl)) (of_decide_eq_true (fact_at (l := exL K) c.ex 75 rfl)) (of_decide_eq_true (fact_at (l := exL K) c.ex 76 rfl)) (of_decide_eq_true (fact_at (l := exL K) c.ex 77 rfl)) (of_decide_eq_true (fact_at (l := exL K) c.ex 78 rfl)) (of_decide_eq_true (fact_at (l := exL K) c.ex 79 rfl)) (of_decide_eq_true (fact_at (l := exL K) c.ex 80 rfl)) (of_decide_eq_true (fact_at (l := exL K) c.ex 81 rfl)) (of_decide_eq_true (fact_at (l := exL K) c.ex 82 rfl)) (of_decide_eq_true (fact_at (l := exL K) c.ex 83 rfl)) (of_decide_eq_true (fact_at (l := exL K) c.ex 84 rfl)) (of_decide_eq_true (fact_at (l := exL K) c.ex 85 rfl)) (of_decide_eq_true (fact_at (l := exL K) c.ex 86 rfl)) (of_decide_eq_true (fact_at (l := exL K) c.ex 87 rfl)) (of_decide_eq_true (fact_at (l := exL K) c.ex 88 rfl)) (of_decide_eq_true (fact_at (l := exL K) c.ex 89 rfl)) (of_decide_eq_true (fact_at (l := exL K) c.ex 90 rfl)) (of_decide_eq_true (fact_at (l := exL K) c.ex 91 rfl)) (of_decide_eq_true (fact_at (l := exL K) c.ex 92 rfl)) (of_decide_eq_true (fact_at (l := exL K) c.ex 46 rfl)) (of_decide_eq_true (fact_at (l := exL K) c.ex 58 rfl)) (of_decide_eq_true (fact_at (l := exL K) c.ex 62 rfl)) (of_decide_eq_true (fact_at (l := exL K) c.ex 47 rfl)) (of_decide_eq_true (fact_at (l := exL K) c.ex 48 rfl)) (of_decide_eq_true (fact_at (l := exL K) c.ex 49 rfl)) (ecChk_ok (fact_at (l := exL K) c.ex 113 rfl)) ⟨(of_decide_eq_true (fact_at (l := exL K) c.ex 114 rfl)), (of_decide_eq_true (fact_at (l := exL K) c.ex 115 rfl)), (of_decide_eq_true (fact_at (l := exL K) c.ex 116 rfl)), (fact_at (l := exL K) c.ex 117 rfl), (of_decide_eq_true (fact_at (l := exL K) c.ex 118 rfl)), (of_decide_eq_true (fact_at (l := exL K) c.ex 31 rfl)), (of_decide_eq_true (fact_at (l := exL K) c.ex 32 rfl)), (of_decide_eq_true (fact_at (l := exL K) c.ex 119 rfl))⟩ (of_decide_eq_true (fact_at (l := exL K) c.ex 120 rfl)) (of_decide_eq_true (fact_at (l := exL K) c.ex 121 rfl)) 
  have e_4 : ErrW K mg (He.ga K "InvalidNumber") 4 := errw_mk KX G (by decide) (of_decide_eq_true (fact_at (l := exL K) c.ex 73 rfl)) (of_decide_eq_true (fact_at (l := exL K) c.ex 74 rfl)) (of_decide_eq_true (fact_at (l := exL K) c.ex 75 rfl)) (of_decide_eq_true (fact_at (l := exL K) c.ex 76 rfl)) (of_decide_eq_true (fact_at (l := exL K) c.ex 77 rfl)) (of_decide_eq_true (fact_at (l := exL K) c.ex 78 rfl)) (of_decide_eq_true (fact_at (l := exL K) c.ex 79 rfl)) (of_decide_eq_true (fact_at (l := exL K) c.ex 80 rfl)) (of_decide_eq_true (fact_at (l := exL K) c.ex 81 rfl)) (of_decide_eq_true (fact_at (l := exL K) c.ex 82 rfl)) (of_decide_eq_true (fact_at (l := exL K) c.ex 83 rfl)) (of_decide_eq_true (fact_at (l := exL K) c.ex 84 rfl)) (of_decide_eq_true (fact_at (l := exL K) c.ex 85 rfl)) (of_decide_eq_true (fact_at (l := exL K) c.ex 86 rfl)) (of_decide_eq_true (fact_at (l := exL K) c.ex 87 rfl)) (of_decide_eq_true (fact_at (l := exL K) c.ex 88 rfl)) (of_decide_eq_true (fact_at (l := exL K) c.ex 89 rfl)) (of_decide_eq_true (fact_at (l := exL K) c.ex 90 rfl)) (of_decide_eq_true (fact_at (l := exL K) c.ex 91 rfl)) (of_decide_eq_true (fact_at (l := exL K) c.ex 92 rfl)) (of_decide_eq_true (fact_at (l := exL K) c.ex 46 rfl)) (of_decide_eq_true (fact_at (l := exL K) c.ex 58 rfl)) (of_decide_eq_true (fact_at (l := exL K) c.ex 62 rfl)) (of_decide_eq_true (fact_at (l := exL K) c.ex 47 rfl)) (of_decide_eq_true (fact_at (l := exL K) c.ex 48 rfl)) (of_decide_eq_true (fact_at (l := exL K) c.ex 49 rfl)) (ecChk_ok (fact_at (l := exL K) c.ex 122 rfl)) ⟨(of_decide_eq_true (fact_at (l := exL K) c.ex 123 rfl)), (of_decide_eq_true (fact_at (l := exL K) c.ex 124 rfl)), (of_decide_eq_true (fact_at (l := exL K) c.ex 125 rfl)), (fact_at (l := exL K) c.ex 126 rfl), (of_decide_eq_true (fact_at (l := exL K) c.ex 127 rfl)), (of_decide_eq_true (fact_at (l := exL K) c.ex 31 rfl)), (of_decide_eq_true (fact_at (l := exL K) c.ex 32 rfl)), (of_decide_eq_true (fact_at (l := exL K) c.ex 128 rfl))⟩ (of_decide_eq_true (fact_at (l := exL K) c.ex 129 rfl)) (of_decide_eq_true (fact_at (l := exL K) c.ex 130 rfl)) 
  have e_5 : ErrW K mg (He.ga K "InvalidPlace") 5 := errw_mk KX G (by decide) (of_decide_eq_true (fact_at (l := exL K) c.ex 73 rfl)) (of_decide_eq_true (fact_at (l := exL K) c.ex 74 rfl)) (of_decide_eq_true (fact_at (l := exL K) c.ex 75 rfl)) (of_decide_eq_true (fact_at (l := exL K) c.ex 76 rfl)) (of_decide_eq_true (fact_at (l := exL K) c.ex 77 rfl)) (of_decide_eq_true (fact_at (l := exL K) c.ex 78 rfl)) (of_decide_eq_true (fact_at (l := exL K) c.ex 79 rfl)) (of_decide_eq_true (fact_at (l := exL K) c.ex 80 rfl)) (of_decide_eq_true (fact_at (l := exL K) c.ex 81 rfl)) (of_decide_eq_true (fact_at (l := exL K) c.ex 82 rfl)) (of_decide_eq_true (fact_at (l := exL K) c.ex 83 rfl)) (of_decide_eq_true (fact_at (l := exL K) c.ex 84 rfl)) (of_decide_eq_true (fact_at (l := exL K) c.ex 85 rfl)) (of_decide_eq_true (fact_at (l := exL K) c.ex 86 rfl)) (of_decide_eq_true (fact_at (l := exL K) c.ex 87 rfl)) (of_decide_eq_true (fact_at (l := exL K) c.ex 88 rfl)) (of_decide_eq_true (fact_at (l := exL K) c.ex 89 rfl)) (of_decide_eq_true (fact_at (l := exL K) c.ex 90 rfl)) (of_decide_eq_true (fact_at (l := exL K) c.ex 91 rfl)) (of_decide_eq_true (fact_at (l := exL K) c.ex 92 rfl)) (of_decide_eq_true (fact_at (l := exL K) c.ex 46 rfl)) (of_decide_eq_true (fact_at (l := exL K) c.ex 58 rfl)) (of_decide_eq_true (fact_at (l := exL K) c.ex 62 rfl)) (of_decide_eq_true (fact_at (l := exL K) c.ex 47 rfl)) (of_decide_eq_true (fact_at (l := exL K) c.ex 48 rfl)) (of_decide_eq_true (fact_at (l := exL K) c.ex 49 rfl)) (ecChk_ok (fact_at (l := exL K) c.ex 131 rfl)) ⟨(of_decide_eq_true (fact_at (l := exL K) c.ex 132 rfl)), (of_decide_eq_true (fact_at (l := exL K) c.ex 133 rfl)), (of_decide_eq_true (fact_at (l := exL K) c.ex 134 rfl)), (fact_at (l := exL K) c.ex 135 rfl), (of_decide_eq_true (fact_at (l := exL K) c.ex 136 rfl)), (of_decide_eq_true (fact_at (l := exL K) c.ex 31 rfl)), (of_decide_eq_true (fact_at (l := exL K) c.ex 32 rfl)), (of_decide_eq_true (fact_at (l := exL K) c.ex 137 rfl))⟩ (of_decide_eq_true (fact_at (l := exL K) c.ex 138 rfl)) (of_decide_eq_true (fact_at (l := exL K) c.ex 139 rfl)) 
  have e_6 : ErrW K mg (He.ga K "InvalidWish") 6 := errw_mk KX G (by decide) (of_decide_eq_true (fact_at (l := exL K) c.ex 73 rfl)) (of_decide_eq_true (fact_at (l := exL K) c.ex 74 rfl)) (of_decide_eq_true (fact_at (l := exL K) c.ex 75 rfl)) (of_decide_eq_true (fact_at (l := exL K) c.ex 76 rfl)) (of_decide_eq_true (fact_at (l := exL K) c.ex 77 rfl)) (of_decide_eq_true (fact_at (l := exL K) c.ex 78 rfl)) (of_decide_eq_true (fact_at (l := exL K) c.ex 79 rfl)) (of_decide_eq_true (fact_at (l := exL K) c.ex 80 rfl)) (of_decide_eq_true (fact_at (l := exL K) c.ex 81 rfl)) (of_decide_eq_true (fact_at (l := exL K) c.ex 82 rfl)) (of_decide_eq_true (fact_at (l := exL K) c.ex 83 rfl)) (of_decide_eq_true (fact_at (l := exL K) c.ex 84 rfl)) (of_decide_eq_true (fact_at (l := exL K) c.ex 85 rfl)) (of_decide_eq_true (fact_at (l := exL K) c.ex 86 rfl)) (of_decide_eq_true (fact_at (l := exL K) c.ex 87 rfl)) (of_decide_eq_true (fact_at (l := exL K) c.ex 88 rfl)) (of_decide_eq_true (fact_at (l := exL K) c.ex 89 rfl)) (of_decide_eq_true (fact_at (l := exL K) c.ex 90 rfl)) (of_decide_eq_true (fact_at (l := exL K) c.ex 91 rfl)) (of_decide_eq_true (fact_at (l := exL K) c.ex 92 rfl)) (of_decide_eq_true (fact_at (l := exL K) c.ex 46 rfl)) (of_decide_eq_true (fact_at (l := exL K) c.ex 58 rfl)) (of_decide_eq_true (fact_at (l := exL K) c.ex 62 rfl)) (of_decide_eq_true (fact_at (l := exL K) c.ex 47 rfl)) (of_decide_eq_true (fact_at (l := exL K) c.ex 48 rfl)) (of_decide_eq_true (fact_at (l := exL K) c.ex 49 rfl)) (ecChk_ok (fact_at (l := exL K) c.ex 140 rfl)) ⟨(of_decide_eq_true (fact_at (l := exL K) c.ex 141 rfl)), (of_decide_eq_true (fact_at (l := exL K) c.ex 142 rfl)), (of_decide_eq_true (fact_at (l := exL K) c.ex 143 rfl)), (fact_at (l := exL K) c.ex 144 rfl), (of_decide_eq_true (fact_at (l := exL K) c.ex 145 rfl)), (of_decide_eq_true (fact_at (l := exL K) c.ex 31 rfl)), (of_decide_eq_true (fact_at (l := exL K) c.ex 32 rfl)), (of_decide_eq_true (fact_at (l := exL K) c.ex 146 rfl))⟩ (of_decide_eq_true (fact_at (l := exL K) c.ex 147 rfl)) (of_decide_eq_true (fact_at (l := exL K) c.ex 148 rfl)) 
  have e_7 : ErrW K mg (He.ga K "NotAScript") 7 := errw_mk KX G (by decide) (of_decide_eq_true (fact_at (l := exL K) c.ex 73 rfl)) (of_decide_eq_true (fact_at (l := exL K) c.ex 74 rfl)) (of_decide_eq_true (fact_at (l := exL K) c.ex 75 rfl)) (of_decide_eq_true (fact_at (l := exL K) c.ex 76 rfl)) (of_decide_eq_true (fact_at (l := exL K) c.ex 77 rfl)) (of_decide_eq_true (fact_at (l := exL K) c.ex 78 rfl)) (of_decide_eq_true (fact_at (l := exL K) c.ex 79 rfl)) (of_decide_eq_true (fact_at (l := exL K) c.ex 80 rfl)) (of_decide_eq_true (fact_at (l := exL K) c.ex 81 rfl)) (of_decide_eq_true (fact_at (l := exL K) c.ex 82 rfl)) (of_decide_eq_true (fact_at (l := exL K) c.ex 83 rfl)) (of_decide_eq_true (fact_at (l := exL K) c.ex 84 rfl)) (of_decide_eq_true (fact_at (l := exL K) c.ex 85 rfl)) (of_decide_eq_true (fact_at (l := exL K) c.ex 86 rfl)) (of_decide_eq_true (fact_at (l := exL K) c.ex 87 rfl)) (of_decide_eq_true (fact_at (l := exL K) c.ex 88 rfl)) (of_decide_eq_true (fact_at (l := exL K) c.ex 89 rfl)) (of_decide_eq_true (fact_at (l := exL K) c.ex 90 rfl)) (of_decide_eq_true (fact_at (l := exL K) c.ex 91 rfl)) (of_decide_eq_true (fact_at (l := exL K) c.ex 92 rfl)) (of_decide_eq_true (fact_at (l := exL K) c.ex 46 rfl)) (of_decide_eq_true (fact_at (l := exL K) c.ex 58 rfl)) (of_decide_eq_true (fact_at (l := exL K) c.ex 62 rfl)) (of_decide_eq_true (fact_at (l := exL K) c.ex 47 rfl)) (of_decide_eq_true (fact_at (l := exL K) c.ex 48 rfl)) (of_decide_eq_true (fact_at (l := exL K) c.ex 49 rfl)) (ecChk_ok (fact_at (l := exL K) c.ex 149 rfl)) ⟨(of_decide_eq_true (fact_at (l := exL K) c.ex 150 rfl)), (of_decide_eq_true (fact_at (l := exL K) c.ex 151 rfl)), (of_decide_eq_true (fact_at (l := exL K) c.ex 152 rfl)), (fact_at (l := exL K) c.ex 153 rfl), (of_decide_eq_true (fact_at (l := exL K) c.ex 154 rfl)), (of_decide_eq_true (fact_at (l := exL K) c.ex 31 rfl)), (of_decide_eq_true (fact_at (l := exL K) c.ex 32 rfl)), (of_decide_eq_true (fact_at (l := exL K) c.ex 155 rfl))⟩ (of_decide_eq_true (fact_at (l := exL K) c.ex 156 rfl)) (of_decide_eq_true (fact_at (l := exL K) c.ex 157 rfl)) 
  have e_8 : ErrW K mg (He.ga K "InvalidRows") 8 := errw_mk KX G (by decide) (of_decide_eq_true (fact_at (l := exL K) c.ex 73 rfl)) (of_decide_eq_true (fact_at (l := exL K) c.ex 74 rfl)) (of_decide_eq_true (fact_at (l := exL K) c.ex 75 rfl)) (of_decide_eq_true (fact_at (l := exL K) c.ex 76 rfl)) (of_decide_eq_true (fact_at (l := exL K) c.ex 77 rfl)) (of_decide_eq_true (fact_at (l := exL K) c.ex 78 rfl)) (of_decide_eq_true (fact_at (l := exL K) c.ex 79 rfl)) (of_decide_eq_true (fact_at (l := exL K) c.ex 80 rfl)) (of_decide_eq_true (fact_at (l := exL K) c.ex 81 rfl)) (of_decide_eq_true (fact_at (l := exL K) c.ex 82 rfl)) (of_decide_eq_true (fact_at (l := exL K) c.ex 83 rfl)) (of_decide_eq_true (fact_at (l := exL K) c.ex 84 rfl)) (of_decide_eq_true (fact_at (l := exL K) c.ex 85 rfl)) (of_decide_eq_true (fact_at (l := exL K) c.ex 86 rfl)) (of_decide_eq_true (fact_at (l := exL K) c.ex 87 rfl)) (of_decide_eq_true (fact_at (l := exL K) c.ex 88 rfl)) (of_decide_eq_true (fact_at (l := exL K) c.ex 89 rfl)) (of_decide_eq_true (fact_at (l := exL K) c.ex 90 rfl)) (of_decide_eq_true (fact_at (l := exL K) c.ex 91 rfl)) (of_decide_eq_true (fact_at (l := exL K) c.ex 92 rfl)) (of_decide_eq_true (fact_at (l := exL K) c.ex 46 rfl)) (of_decide_eq_true (fact_at (l := exL K) c.ex 58 rfl)) (of_decide_eq_true (fact_at (l := exL K) c.ex 62 rfl)) (of_decide_eq_true (fact_at (l := exL K) c.ex 47 rfl)) (of_decide_eq_true (fact_at (l := exL K) c.ex 48 rfl)) (of_decide_eq_true (fact_at (l := exL K) c.ex 49 rfl)) (ecChk_ok (fact_at (l := exL K) c.ex 158 rfl)) ⟨(of_decide_eq_true (fact_at (l := exL K) c.ex 159 rfl)), (of_decide_eq_true (fact_at (l := exL K) c.ex 160 rfl)), (of_decide_eq_true (fact_at (l := exL K) c.ex 161 rfl)), (fact_at (l := exL K) c.ex 162 rfl), (of_decide_eq_true (fact_at (l := exL K) c.ex 163 rfl)), (of_decide_eq_true (fact_at (l := exL K) c.ex 31 rfl)), (of_decide_eq_true (fact_at (l := exL K) c.ex 32 rfl)), (of_decide_eq_true (fact_at (l := exL K) c.ex 164 rfl))⟩ (of_decide_eq_true (fact_at (l := exL K) c.ex 165 rfl)) (of_decide_eq_true (fact_at (l := exL K) c.ex 166 rfl)) 
  have e_9 : ErrW K mg (He.ga K "InvalidStanding") 9 := errw_mk KX G (by decide) (of_decide_eq_true (fact_at (l := exL K) c.ex 73 rfl)) (of_decide_eq_true (fact_at (l := exL K) c.ex 74 rfl)) (of_decide_eq_true (fact_at (l := exL K) c.ex 75 rfl)) (of_decide_eq_true (fact_at (l := exL K) c.ex 76 rfl)) (of_decide_eq_true (fact_at (l := exL K) c.ex 77 rfl)) (of_decide_eq_true (fact_at (l := exL K) c.ex 78 rfl)) (of_decide_eq_true (fact_at (l := exL K) c.ex 79 rfl)) (of_decide_eq_true (fact_at (l := exL K) c.ex 80 rfl)) (of_decide_eq_true (fact_at (l := exL K) c.ex 81 rfl)) (of_decide_eq_true (fact_at (l := exL K) c.ex 82 rfl)) (of_decide_eq_true (fact_at (l := exL K) c.ex 83 rfl)) (of_decide_eq_true (fact_at (l := exL K) c.ex 84 rfl)) (of_decide_eq_true (fact_at (l := exL K) c.ex 85 rfl)) (of_decide_eq_true (fact_at (l := exL K) c.ex 86 rfl)) (of_decide_eq_true (fact_at (l := exL K) c.ex 87 rfl)) (of_decide_eq_true (fact_at (l := exL K) c.ex 88 rfl)) (of_decide_eq_true (fact_at (l := exL K) c.ex 89 rfl)) (of_decide_eq_true (fact_at (l := exL K) c.ex 90 rfl)) (of_decide_eq_true (fact_at (l := exL K) c.ex 91 rfl)) (of_decide_eq_true (fact_at (l := exL K) c.ex 92 rfl)) (of_decide_eq_true (fact_at (l := exL K) c.ex 46 rfl)) (of_decide_eq_true (fact_at (l := exL K) c.ex 58 rfl)) (of_decide_eq_true (fact_at (l := exL K) c.ex 62 rfl)) (of_decide_eq_true (fact_at (l := exL K) c.ex 47 rfl)) (of_decide_eq_true (fact_at (l := exL K) c.ex 48 rfl)) (of_decide_eq_true (fact_at (l := exL K) c.ex 49 rfl)) (ecChk_ok (fact_at (l := exL K) c.ex 167 rfl)) ⟨(of_decide_eq_true (fact_at (l := exL K) c.ex 168 rfl)), (of_decide_eq_true (fact_at (l := exL K) c.ex 169 rfl)), (of_decide_eq_true (fact_at (l := exL K) c.ex 170 rfl)), (fact_at (l := exL K) c.ex 171 rfl), (of_decide_eq_true (fact_at (l := exL K) c.ex 172 rfl)), (of_decide_eq_true (fact_at (l := exL K) c.ex 31 rfl)), (of_decide_eq_true (fact_at (l := exL K) c.ex 32 rfl)), (of_decide_eq_true (fact_at (l := exL K) c.ex 173 rfl))⟩ (of_decide_eq_true (fact_at (l := exL K) c.ex 174 rfl)) (of_decide_eq_true (fact_at (l := exL K) c.ex 175 rfl)) 
  have e_10 : ErrW K mg (He.ga K "InvalidSeen") 10 := errw_mk KX G (by decide) (of_decide_eq_true (fact_at (l := exL K) c.ex 73 rfl)) (of_decide_eq_true (fact_at (l := exL K) c.ex 74 rfl)) (of_decide_eq_true (fact_at (l := exL K) c.ex 75 rfl)) (of_decide_eq_true (fact_at (l := exL K) c.ex 76 rfl)) (of_decide_eq_true (fact_at (l := exL K) c.ex 77 rfl)) (of_decide_eq_true (fact_at (l := exL K) c.ex 78 rfl)) (of_decide_eq_true (fact_at (l := exL K) c.ex 79 rfl)) (of_decide_eq_true (fact_at (l := exL K) c.ex 80 rfl)) (of_decide_eq_true (fact_at (l := exL K) c.ex 81 rfl)) (of_decide_eq_true (fact_at (l := exL K) c.ex 82 rfl)) (of_decide_eq_true (fact_at (l := exL K) c.ex 83 rfl)) (of_decide_eq_true (fact_at (l := exL K) c.ex 84 rfl)) (of_decide_eq_true (fact_at (l := exL K) c.ex 85 rfl)) (of_decide_eq_true (fact_at (l := exL K) c.ex 86 rfl)) (of_decide_eq_true (fact_at (l := exL K) c.ex 87 rfl)) (of_decide_eq_true (fact_at (l := exL K) c.ex 88 rfl)) (of_decide_eq_true (fact_at (l := exL K) c.ex 89 rfl)) (of_decide_eq_true (fact_at (l := exL K) c.ex 90 rfl)) (of_decide_eq_true (fact_at (l := exL K) c.ex 91 rfl)) (of_decide_eq_true (fact_at (l := exL K) c.ex 92 rfl)) (of_decide_eq_true (fact_at (l := exL K) c.ex 46 rfl)) (of_decide_eq_true (fact_at (l := exL K) c.ex 58 rfl)) (of_decide_eq_true (fact_at (l := exL K) c.ex 62 rfl)) (of_decide_eq_true (fact_at (l := exL K) c.ex 47 rfl)) (of_decide_eq_true (fact_at (l := exL K) c.ex 48 rfl)) (of_decide_eq_true (fact_at (l := exL K) c.ex 49 rfl)) (ecChk_ok (fact_at (l := exL K) c.ex 176 rfl)) ⟨(of_decide_eq_true (fact_at (l := exL K) c.ex 177 rfl)), (of_decide_eq_true (fact_at (l := exL K) c.ex 178 rfl)), (of_decide_eq_true (fact_at (l := exL K) c.ex 179 rfl)), (fact_at (l := exL K) c.ex 180 rfl), (of_decide_eq_true (fact_at (l := exL K) c.ex 181 rfl)), (of_decide_eq_true (fact_at (l := exL K) c.ex 31 rfl)), (of_decide_eq_true (fact_at (l := exL K) c.ex 32 rfl)), (of_decide_eq_true (fact_at (l := exL K) c.ex 182 rfl))⟩ (of_decide_eq_true (fact_at (l := exL K) c.ex 183 rfl)) (of_decide_eq_true (fact_at (l := exL K) c.ex 184 rfl)) 
  have e_11 : ErrW K mg (He.ga K "InvalidExchanges") 11 := errw_mk KX G (by decide) (of_decide_eq_true (fact_at (l := exL K) c.ex 73 rfl)) (of_decide_eq_true (fact_at (l := exL K) c.ex 74 rfl)) (of_decide_eq_true (fact_at (l := exL K) c.ex 75 rfl)) (of_decide_eq_true (fact_at (l := exL K) c.ex 76 rfl)) (of_decide_eq_true (fact_at (l := exL K) c.ex 77 rfl)) (of_decide_eq_true (fact_at (l := exL K) c.ex 78 rfl)) (of_decide_eq_true (fact_at (l := exL K) c.ex 79 rfl)) (of_decide_eq_true (fact_at (l := exL K) c.ex 80 rfl)) (of_decide_eq_true (fact_at (l := exL K) c.ex 81 rfl)) (of_decide_eq_true (fact_at (l := exL K) c.ex 82 rfl)) (of_decide_eq_true (fact_at (l := exL K) c.ex 83 rfl)) (of_decide_eq_true (fact_at (l := exL K) c.ex 84 rfl)) (of_decide_eq_true (fact_at (l := exL K) c.ex 85 rfl)) (of_decide_eq_true (fact_at (l := exL K) c.ex 86 rfl)) (of_decide_eq_true (fact_at (l := exL K) c.ex 87 rfl)) (of_decide_eq_true (fact_at (l := exL K) c.ex 88 rfl)) (of_decide_eq_true (fact_at (l := exL K) c.ex 89 rfl)) (of_decide_eq_true (fact_at (l := exL K) c.ex 90 rfl)) (of_decide_eq_true (fact_at (l := exL K) c.ex 91 rfl)) (of_decide_eq_true (fact_at (l := exL K) c.ex 92 rfl)) (of_decide_eq_true (fact_at (l := exL K) c.ex 46 rfl)) (of_decide_eq_true (fact_at (l := exL K) c.ex 58 rfl)) (of_decide_eq_true (fact_at (l := exL K) c.ex 62 rfl)) (of_decide_eq_true (fact_at (l := exL K) c.ex 47 rfl)) (of_decide_eq_true (fact_at (l := exL K) c.ex 48 rfl)) (of_decide_eq_true (fact_at (l := exL K) c.ex 49 rfl)) (ecChk_ok (fact_at (l := exL K) c.ex 185 rfl)) ⟨(of_decide_eq_true (fact_at (l := exL K) c.ex 186 rfl)), (of_decide_eq_true (fact_at (l := exL K) c.ex 187 rfl)), (of_decide_eq_true (fact_at (l := exL K) c.ex 188 rfl)), (fact_at (l := exL K) c.ex 189 rfl), (of_decide_eq_true (fact_at (l := exL K) c.ex 190 rfl)), (of_decide_eq_true (fact_at (l := exL K) c.ex 31 rfl)), (of_decide_eq_true (fact_at (l := exL K) c.ex 32 rfl)), (of_decide_eq_true (fact_at (l := exL K) c.ex 191 rfl))⟩ (of_decide_eq_true (fact_at (l := exL K) c.ex 192 rfl)) (of_decide_eq_true (fact_at (l := exL K) c.ex 193 rfl)) 
  have e_12 : ErrW K mg (He.ga K "InvalidWishes") 12 := errw_mk KX G (by decide) (of_decide_eq_true (fact_at (l := exL K) c.ex 73 rfl)) (of_decide_eq_true (fact_at (l := exL K) c.ex 74 rfl)) (of_decide_eq_true (fact_at (l := exL K) c.ex 75 rfl)) (of_decide_eq_true (fact_at (l := exL K) c.ex 76 rfl)) (of_decide_eq_true (fact_at (l := exL K) c.ex 77 rfl)) (of_decide_eq_true (fact_at (l := exL K) c.ex 78 rfl)) (of_decide_eq_true (fact_at (l := exL K) c.ex 79 rfl)) (of_decide_eq_true (fact_at (l := exL K) c.ex 80 rfl)) (of_decide_eq_true (fact_at (l := exL K) c.ex 81 rfl)) (of_decide_eq_true (fact_at (l := exL K) c.ex 82 rfl)) (of_decide_eq_true (fact_at (l := exL K) c.ex 83 rfl)) (of_decide_eq_true (fact_at (l := exL K) c.ex 84 rfl)) (of_decide_eq_true (fact_at (l := exL K) c.ex 85 rfl)) (of_decide_eq_true (fact_at (l := exL K) c.ex 86 rfl)) (of_decide_eq_true (fact_at (l := exL K) c.ex 87 rfl)) (of_decide_eq_true (fact_at (l := exL K) c.ex 88 rfl)) (of_decide_eq_true (fact_at (l := exL K) c.ex 89 rfl)) (of_decide_eq_true (fact_at (l := exL K) c.ex 90 rfl)) (of_decide_eq_true (fact_at (l := exL K) c.ex 91 rfl)) (of_decide_eq_true (fact_at (l := exL K) c.ex 92 rfl)) (of_decide_eq_true (fact_at (l := exL K) c.ex 46 rfl)) (of_decide_eq_true (fact_at (l := exL K) c.ex 58 rfl)) (of_decide_eq_true (fact_at (l := exL K) c.ex 62 rfl)) (of_decide_eq_true (fact_at (l := exL K) c.ex 47 rfl)) (of_decide_eq_true (fact_at (l := exL K) c.ex 48 rfl)) (of_decide_eq_true (fact_at (l := exL K) c.ex 49 rfl)) (ecChk_ok (fact_at (l := exL K) c.ex 194 rfl)) ⟨(of_decide_eq_true (fact_at (l := exL K) c.ex 195 rfl)), (of_decide_eq_true (fact_at (l := exL K) c.ex 196 rfl)), (of_decide_eq_true (fact_at (l := exL K) c.ex 197 rfl)), (fact_at (l := exL K) c.ex 198 rfl), (of_decide_eq_true (fact_at (l := exL K) c.ex 199 rfl)), (of_decide_eq_true (fact_at (l := exL K) c.ex 31 rfl)), (of_decide_eq_true (fact_at (l := exL K) c.ex 32 rfl)), (of_decide_eq_true (fact_at (l := exL K) c.ex 200 rfl))⟩ (of_decide_eq_true (fact_at (l := exL K) c.ex 201 rfl)) (of_decide_eq_true (fact_at (l := exL K) c.ex 202 rfl)) 
  have e_13 : ErrW K mg (He.ga K "UnknownName") 13 := errw_mk KX G (by decide) (of_decide_eq_true (fact_at (l := exL K) c.ex 73 rfl)) (of_decide_eq_true (fact_at (l := exL K) c.ex 74 rfl)) (of_decide_eq_true (fact_at (l := exL K) c.ex 75 rfl)) (of_decide_eq_true (fact_at (l := exL K) c.ex 76 rfl)) (of_decide_eq_true (fact_at (l := exL K) c.ex 77 rfl)) (of_decide_eq_true (fact_at (l := exL K) c.ex 78 rfl)) (of_decide_eq_true (fact_at (l := exL K) c.ex 79 rfl)) (of_decide_eq_true (fact_at (l := exL K) c.ex 80 rfl)) (of_decide_eq_true (fact_at (l := exL K) c.ex 81 rfl)) (of_decide_eq_true (fact_at (l := exL K) c.ex 82 rfl)) (of_decide_eq_true (fact_at (l := exL K) c.ex 83 rfl)) (of_decide_eq_true (fact_at (l := exL K) c.ex 84 rfl)) (of_decide_eq_true (fact_at (l := exL K) c.ex 85 rfl)) (of_decide_eq_true (fact_at (l := exL K) c.ex 86 rfl)) (of_decide_eq_true (fact_at (l := exL K) c.ex 87 rfl)) (of_decide_eq_true (fact_at (l := exL K) c.ex 88 rfl)) (of_decide_eq_true (fact_at (l := exL K) c.ex 89 rfl)) (of_decide_eq_true (fact_at (l := exL K) c.ex 90 rfl)) (of_decide_eq_true (fact_at (l := exL K) c.ex 91 rfl)) (of_decide_eq_true (fact_at (l := exL K) c.ex 92 rfl)) (of_decide_eq_true (fact_at (l := exL K) c.ex 46 rfl)) (of_decide_eq_true (fact_at (l := exL K) c.ex 58 rfl)) (of_decide_eq_true (fact_at (l := exL K) c.ex 62 rfl)) (of_decide_eq_true (fact_at (l := exL K) c.ex 47 rfl)) (of_decide_eq_true (fact_at (l := exL K) c.ex 48 rfl)) (of_decide_eq_true (fact_at (l := exL K) c.ex 49 rfl)) (ecChk_ok (fact_at (l := exL K) c.ex 203 rfl)) ⟨(of_decide_eq_true (fact_at (l := exL K) c.ex 204 rfl)), (of_decide_eq_true (fact_at (l := exL K) c.ex 205 rfl)), (of_decide_eq_true (fact_at (l := exL K) c.ex 206 rfl)), (fact_at (l := exL K) c.ex 207 rfl), (of_decide_eq_true (fact_at (l := exL K) c.ex 208 rfl)), (of_decide_eq_true (fact_at (l := exL K) c.ex 31 rfl)), (of_decide_eq_true (fact_at (l := exL K) c.ex 32 rfl)), (of_decide_eq_true (fact_at (l := exL K) c.ex 209 rfl))⟩ (of_decide_eq_true (fact_at (l := exL K) c.ex 210 rfl)) (of_decide_eq_true (fact_at (l := exL K) c.ex 211 rfl)) 
  have e_14 : ErrW K mg (He.ga K "InUse") 14 := errw_mk KX G (by decide) (of_decide_eq_true (fact_at (l := exL K) c.ex 73 rfl)) (of_decide_eq_true (fact_at (l := exL K) c.ex 74 rfl)) (of_decide_eq_true (fact_at (l := exL K) c.ex 75 rfl)) (of_decide_eq_true (fact_at (l := exL K) c.ex 76 rfl)) (of_decide_eq_true (fact_at (l := exL K) c.ex 77 rfl)) (of_decide_eq_true (fact_at (l := exL K) c.ex 78 rfl)) (of_decide_eq_true (fact_at (l := exL K) c.ex 79 rfl)) (of_decide_eq_true (fact_at (l := exL K) c.ex 80 rfl)) (of_decide_eq_true (fact_at (l := exL K) c.ex 81 rfl)) (of_decide_eq_true (fact_at (l := exL K) c.ex 82 rfl)) (of_decide_eq_true (fact_at (l := exL K) c.ex 83 rfl)) (of_decide_eq_true (fact_at (l := exL K) c.ex 84 rfl)) (of_decide_eq_true (fact_at (l := exL K) c.ex 85 rfl)) (of_decide_eq_true (fact_at (l := exL K) c.ex 86 rfl)) (of_decide_eq_true (fact_at (l := exL K) c.ex 87 rfl)) (of_decide_eq_true (fact_at (l := exL K) c.ex 88 rfl)) (of_decide_eq_true (fact_at (l := exL K) c.ex 89 rfl)) (of_decide_eq_true (fact_at (l := exL K) c.ex 90 rfl)) (of_decide_eq_true (fact_at (l := exL K) c.ex 91 rfl)) (of_decide_eq_true (fact_at (l := exL K) c.ex 92 rfl)) (of_decide_eq_true (fact_at (l := exL K) c.ex 46 rfl)) (of_decide_eq_true (fact_at (l := exL K) c.ex 58 rfl)) (of_decide_eq_true (fact_at (l := exL K) c.ex 62 rfl)) (of_decide_eq_true (fact_at (l := exL K) c.ex 47 rfl)) (of_decide_eq_true (fact_at (l := exL K) c.ex 48 rfl)) (of_decide_eq_true (fact_at (l := exL K) c.ex 49 rfl)) (ecChk_ok (fact_at (l := exL K) c.ex 212 rfl)) ⟨(of_decide_eq_true (fact_at (l := exL K) c.ex 213 rfl)), (of_decide_eq_true (fact_at (l := exL K) c.ex 214 rfl)), (of_decide_eq_true (fact_at (l := exL K) c.ex 215 rfl)), (fact_at (l := exL K) c.ex 216 rfl), (of_decide_eq_true (fact_at (l := exL K) c.ex 217 rfl)), (of_decide_eq_true (fact_at (l := exL K) c.ex 31 rfl)), (of_decide_eq_true (fact_at (l := exL K) c.ex 32 rfl)), (of_decide_eq_true (fact_at (l := exL K) c.ex 218 rfl))⟩ (of_decide_eq_true (fact_at (l := exL K) c.ex 219 rfl)) (of_decide_eq_true (fact_at (l := exL K) c.ex 220 rfl)) 
  have e_15 : ErrW K mg (He.ga K "Unknown") 15 := errw_mk KX G (by decide) (of_decide_eq_true (fact_at (l := exL K) c.ex 73 rfl)) (of_decide_eq_true (fact_at (l := exL K) c.ex 74 rfl)) (of_decide_eq_true (fact_at (l := exL K) c.ex 75 rfl)) (of_decide_eq_true (fact_at (l := exL K) c.ex 76 rfl)) (of_decide_eq_true (fact_at (l := exL K) c.ex 77 rfl)) (of_decide_eq_true (fact_at (l := exL K) c.ex 78 rfl)) (of_decide_eq_true (fact_at (l := exL K) c.ex 79 rfl)) (of_decide_eq_true (fact_at (l := exL K) c.ex 80 rfl)) (of_decide_eq_true (fact_at (l := exL K) c.ex 81 rfl)) (of_decide_eq_true (fact_at (l := exL K) c.ex 82 rfl)) (of_decide_eq_true (fact_at (l := exL K) c.ex 83 rfl)) (of_decide_eq_true (fact_at (l := exL K) c.ex 84 rfl)) (of_decide_eq_true (fact_at (l := exL K) c.ex 85 rfl)) (of_decide_eq_true (fact_at (l := exL K) c.ex 86 rfl)) (of_decide_eq_true (fact_at (l := exL K) c.ex 87 rfl)) (of_decide_eq_true (fact_at (l := exL K) c.ex 88 rfl)) (of_decide_eq_true (fact_at (l := exL K) c.ex 89 rfl)) (of_decide_eq_true (fact_at (l := exL K) c.ex 90 rfl)) (of_decide_eq_true (fact_at (l := exL K) c.ex 91 rfl)) (of_decide_eq_true (fact_at (l := exL K) c.ex 92 rfl)) (of_decide_eq_true (fact_at (l := exL K) c.ex 46 rfl)) (of_decide_eq_true (fact_at (l := exL K) c.ex 58 rfl)) (of_decide_eq_true (fact_at (l := exL K) c.ex 62 rfl)) (of_decide_eq_true (fact_at (l := exL K) c.ex 47 rfl)) (of_decide_eq_true (fact_at (l := exL K) c.ex 48 rfl)) (of_decide_eq_true (fact_at (l := exL K) c.ex 49 rfl)) (ecChk_ok (fact_at (l := exL K) c.ex 221 rfl)) ⟨(of_decide_eq_true (fact_at (l := exL K) c.ex 222 rfl)), (of_decide_eq_true (fact_at (l := exL K) c.ex 223 rfl)), (of_decide_eq_true (fact_at (l := exL K) c.ex 224 rfl)), (fact_at (l := exL K) c.ex 225 rfl), (of_decide_eq_true (fact_at (l := exL K) c.ex 226 rfl)), (of_decide_eq_true (fact_at (l := exL K) c.ex 31 rfl)), (of_decide_eq_true (fact_at (l := exL K) c.ex 32 rfl)), (of_decide_eq_true (fact_at (l := exL K) c.ex 227 rfl))⟩ (of_decide_eq_true (fact_at (l := exL K) c.ex 228 rfl)) (of_decide_eq_true (fact_at (l := exL K) c.ex 229 rfl)) 
  have e_16 : ErrW K mg (He.ga K "TooFew") 16 := errw_mk KX G (by decide) (of_decide_eq_true (fact_at (l := exL K) c.ex 73 rfl)) (of_decide_eq_true (fact_at (l := exL K) c.ex 74 rfl)) (of_decide_eq_true (fact_at (l := exL K) c.ex 75 rfl)) (of_decide_eq_true (fact_at (l := exL K) c.ex 76 rfl)) (of_decide_eq_true (fact_at (l := exL K) c.ex 77 rfl)) (of_decide_eq_true (fact_at (l := exL K) c.ex 78 rfl)) (of_decide_eq_true (fact_at (l := exL K) c.ex 79 rfl)) (of_decide_eq_true (fact_at (l := exL K) c.ex 80 rfl)) (of_decide_eq_true (fact_at (l := exL K) c.ex 81 rfl)) (of_decide_eq_true (fact_at (l := exL K) c.ex 82 rfl)) (of_decide_eq_true (fact_at (l := exL K) c.ex 83 rfl)) (of_decide_eq_true (fact_at (l := exL K) c.ex 84 rfl)) (of_decide_eq_true (fact_at (l := exL K) c.ex 85 rfl)) (of_decide_eq_true (fact_at (l := exL K) c.ex 86 rfl)) (of_decide_eq_true (fact_at (l := exL K) c.ex 87 rfl)) (of_decide_eq_true (fact_at (l := exL K) c.ex 88 rfl)) (of_decide_eq_true (fact_at (l := exL K) c.ex 89 rfl)) (of_decide_eq_true (fact_at (l := exL K) c.ex 90 rfl)) (of_decide_eq_true (fact_at (l := exL K) c.ex 91 rfl)) (of_decide_eq_true (fact_at (l := exL K) c.ex 92 rfl)) (of_decide_eq_true (fact_at (l := exL K) c.ex 46 rfl)) (of_decide_eq_true (fact_at (l := exL K) c.ex 58 rfl)) (of_decide_eq_true (fact_at (l := exL K) c.ex 62 rfl)) (of_decide_eq_true (fact_at (l := exL K) c.ex 47 rfl)) (of_decide_eq_true (fact_at (l := exL K) c.ex 48 rfl)) (of_decide_eq_true (fact_at (l := exL K) c.ex 49 rfl)) (ecChk_ok (fact_at (l := exL K) c.ex 230 rfl)) ⟨(of_decide_eq_true (fact_at (l := exL K) c.ex 231 rfl)), (of_decide_eq_true (fact_at (l := exL K) c.ex 232 rfl)), (of_decide_eq_true (fact_at (l := exL K) c.ex 233 rfl)), (fact_at (l := exL K) c.ex 234 rfl), (of_decide_eq_true (fact_at (l := exL K) c.ex 235 rfl)), (of_decide_eq_true (fact_at (l := exL K) c.ex 31 rfl)), (of_decide_eq_true (fact_at (l := exL K) c.ex 32 rfl)), (of_decide_eq_true (fact_at (l := exL K) c.ex 236 rfl))⟩ (of_decide_eq_true (fact_at (l := exL K) c.ex 237 rfl)) (of_decide_eq_true (fact_at (l := exL K) c.ex 238 rfl)) 
  have e_17 : ErrW K mg (He.ga K "TooMany") 17 := errw_mk KX G (by decide) (of_decide_eq_true (fact_at (l := exL K) c.ex 73 rfl)) (of_decide_eq_true (fact_at (l := exL K) c.ex 74 rfl)) (of_decide_eq_true (fact_at (l := exL K) c.ex 75 rfl)) (of_decide_eq_true (fact_at (l := exL K) c.ex 76 rfl)) (of_decide_eq_true (fact_at (l := exL K) c.ex 77 rfl)) (of_decide_eq_true (fact_at (l := exL K) c.ex 78 rfl)) (of_decide_eq_true (fact_at (l := exL K) c.ex 79 rfl)) (of_decide_eq_true (fact_at (l := exL K) c.ex 80 rfl)) (of_decide_eq_true (fact_at (l := exL K) c.ex 81 rfl)) (of_decide_eq_true (fact_at (l := exL K) c.ex 82 rfl)) (of_decide_eq_true (fact_at (l := exL K) c.ex 83 rfl)) (of_decide_eq_true (fact_at (l := exL K) c.ex 84 rfl)) (of_decide_eq_true (fact_at (l := exL K) c.ex 85 rfl)) (of_decide_eq_true (fact_at (l := exL K) c.ex 86 rfl)) (of_decide_eq_true (fact_at (l := exL K) c.ex 87 rfl)) (of_decide_eq_true (fact_at (l := exL K) c.ex 88 rfl)) (of_decide_eq_true (fact_at (l := exL K) c.ex 89 rfl)) (of_decide_eq_true (fact_at (l := exL K) c.ex 90 rfl)) (of_decide_eq_true (fact_at (l := exL K) c.ex 91 rfl)) (of_decide_eq_true (fact_at (l := exL K) c.ex 92 rfl)) (of_decide_eq_true (fact_at (l := exL K) c.ex 46 rfl)) (of_decide_eq_true (fact_at (l := exL K) c.ex 58 rfl)) (of_decide_eq_true (fact_at (l := exL K) c.ex 62 rfl)) (of_decide_eq_true (fact_at (l := exL K) c.ex 47 rfl)) (of_decide_eq_true (fact_at (l := exL K) c.ex 48 rfl)) (of_decide_eq_true (fact_at (l := exL K) c.ex 49 rfl)) (ecChk_ok (fact_at (l := exL K) c.ex 239 rfl)) ⟨(of_decide_eq_true (fact_at (l := exL K) c.ex 240 rfl)), (of_decide_eq_true (fact_at (l := exL K) c.ex 241 rfl)), (of_decide_eq_true (fact_at (l := exL K) c.ex 242 rfl)), (fact_at (l := exL K) c.ex 243 rfl), (of_decide_eq_true (fact_at (l := exL K) c.ex 244 rfl)), (of_decide_eq_true (fact_at (l := exL K) c.ex 31 rfl)), (of_decide_eq_true (fact_at (l := exL K) c.ex 32 rfl)), (of_decide_eq_true (fact_at (l := exL K) c.ex 245 rfl))⟩ (of_decide_eq_true (fact_at (l := exL K) c.ex 246 rfl)) (of_decide_eq_true (fact_at (l := exL K) c.ex 247 rfl)) 
  have e_18 : ErrW K mg (He.ga K "Broken") 18 := errw_mk KX G (by decide) (of_decide_eq_true (fact_at (l := exL K) c.ex 73 rfl)) (of_decide_eq_true (fact_at (l := exL K) c.ex 74 rfl)) (of_decide_eq_true (fact_at (l := exL K) c.ex 75 rfl)) (of_decide_eq_true (fact_at (l := exL K) c.ex 76 rfl)) (of_decide_eq_true (fact_at (l := exL K) c.ex 77 rfl)) (of_decide_eq_true (fact_at (l := exL K) c.ex 78 rfl)) (of_decide_eq_true (fact_at (l := exL K) c.ex 79 rfl)) (of_decide_eq_true (fact_at (l := exL K) c.ex 80 rfl)) (of_decide_eq_true (fact_at (l := exL K) c.ex 81 rfl)) (of_decide_eq_true (fact_at (l := exL K) c.ex 82 rfl)) (of_decide_eq_true (fact_at (l := exL K) c.ex 83 rfl)) (of_decide_eq_true (fact_at (l := exL K) c.ex 84 rfl)) (of_decide_eq_true (fact_at (l := exL K) c.ex 85 rfl)) (of_decide_eq_true (fact_at (l := exL K) c.ex 86 rfl)) (of_decide_eq_true (fact_at (l := exL K) c.ex 87 rfl)) (of_decide_eq_true (fact_at (l := exL K) c.ex 88 rfl)) (of_decide_eq_true (fact_at (l := exL K) c.ex 89 rfl)) (of_decide_eq_true (fact_at (l := exL K) c.ex 90 rfl)) (of_decide_eq_true (fact_at (l := exL K) c.ex 91 rfl)) (of_decide_eq_true (fact_at (l := exL K) c.ex 92 rfl)) (of_decide_eq_true (fact_at (l := exL K) c.ex 46 rfl)) (of_decide_eq_true (fact_at (l := exL K) c.ex 58 rfl)) (of_decide_eq_true (fact_at (l := exL K) c.ex 62 rfl)) (of_decide_eq_true (fact_at (l := exL K) c.ex 47 rfl)) (of_decide_eq_true (fact_at (l := exL K) c.ex 48 rfl)) (of_decide_eq_true (fact_at (l := exL K) c.ex 49 rfl)) (ecChk_ok (fact_at (l := exL K) c.ex 248 rfl)) ⟨(of_decide_eq_true (fact_at (l := exL K) c.ex 249 rfl)), (of_decide_eq_true (fact_at (l := exL K) c.ex 250 rfl)), (of_decide_eq_true (fact_at (l := exL K) c.ex 251 rfl)), (fact_at (l := exL K) c.ex 252 rfl), (of_decide_eq_true (fact_at (l := exL K) c.ex 253 rfl)), (of_decide_eq_true (fact_at (l := exL K) c.ex 31 rfl)), (of_decide_eq_true (fact_at (l := exL K) c.ex 32 rfl)), (of_decide_eq_true (fact_at (l := exL K) c.ex 254 rfl))⟩ (of_decide_eq_true (fact_at (l := exL K) c.ex 255 rfl)) (of_decide_eq_true (fact_at (l := exL K) c.ex 256 rfl)) 
  have e_19 : ErrW K mg (He.ga K "NothingToUndo") 19 := errw_mk KX G (by decide) (of_decide_eq_true (fact_at (l := exL K) c.ex 73 rfl)) (of_decide_eq_true (fact_at (l := exL K) c.ex 74 rfl)) (of_decide_eq_true (fact_at (l := exL K) c.ex 75 rfl)) (of_decide_eq_true (fact_at (l := exL K) c.ex 76 rfl)) (of_decide_eq_true (fact_at (l := exL K) c.ex 77 rfl)) (of_decide_eq_true (fact_at (l := exL K) c.ex 78 rfl)) (of_decide_eq_true (fact_at (l := exL K) c.ex 79 rfl)) (of_decide_eq_true (fact_at (l := exL K) c.ex 80 rfl)) (of_decide_eq_true (fact_at (l := exL K) c.ex 81 rfl)) (of_decide_eq_true (fact_at (l := exL K) c.ex 82 rfl)) (of_decide_eq_true (fact_at (l := exL K) c.ex 83 rfl)) (of_decide_eq_true (fact_at (l := exL K) c.ex 84 rfl)) (of_decide_eq_true (fact_at (l := exL K) c.ex 85 rfl)) (of_decide_eq_true (fact_at (l := exL K) c.ex 86 rfl)) (of_decide_eq_true (fact_at (l := exL K) c.ex 87 rfl)) (of_decide_eq_true (fact_at (l := exL K) c.ex 88 rfl)) (of_decide_eq_true (fact_at (l := exL K) c.ex 89 rfl)) (of_decide_eq_true (fact_at (l := exL K) c.ex 90 rfl)) (of_decide_eq_true (fact_at (l := exL K) c.ex 91 rfl)) (of_decide_eq_true (fact_at (l := exL K) c.ex 92 rfl)) (of_decide_eq_true (fact_at (l := exL K) c.ex 46 rfl)) (of_decide_eq_true (fact_at (l := exL K) c.ex 58 rfl)) (of_decide_eq_true (fact_at (l := exL K) c.ex 62 rfl)) (of_decide_eq_true (fact_at (l := exL K) c.ex 47 rfl)) (of_decide_eq_true (fact_at (l := exL K) c.ex 48 rfl)) (of_decide_eq_true (fact_at (l := exL K) c.ex 49 rfl)) (ecChk_ok (fact_at (l := exL K) c.ex 257 rfl)) ⟨(of_decide_eq_true (fact_at (l := exL K) c.ex 258 rfl)), (of_decide_eq_true (fact_at (l := exL K) c.ex 259 rfl)), (of_decide_eq_true (fact_at (l := exL K) c.ex 260 rfl)), (fact_at (l := exL K) c.ex 261 rfl), (of_decide_eq_true (fact_at (l := exL K) c.ex 262 rfl)), (of_decide_eq_true (fact_at (l := exL K) c.ex 31 rfl)), (of_decide_eq_true (fact_at (l := exL K) c.ex 32 rfl)), (of_decide_eq_true (fact_at (l := exL K) c.ex 263 rfl))⟩ (of_decide_eq_true (fact_at (l := exL K) c.ex 264 rfl)) (of_decide_eq_true (fact_at (l := exL K) c.ex 265 rfl)) 
  have ry2_Broken : Ry2L K mg "Broken" (He.ga K "Broken") "Broken.__init__" (inClass (top 22) 0) "index" "shown" := ry2l_look KX G PySem.F.excBase_ArithmeticError PySem.F.store_ArithmeticError (of_decide_eq_true (fact_at (l := exL K) c.ex 91 rfl)) (fact_at (l := exL K) c.ex 266 rfl) (fact_at (l := exL K) c.ex 267 rfl) (of_decide_eq_true (fact_at (l := exL K) c.ex 268 rfl)) (of_decide_eq_true (fact_at (l := exL K) c.ex 251 rfl)) (of_decide_eq_true (fact_at (l := exL K) c.ex 269 rfl)) (fact_at (l := exL K) c.ex 270 rfl) (of_decide_eq_true (fact_at (l := exL K) c.ex 256 rfl)) (of_decide_eq_true (fact_at (l := exL K) c.ex 271 rfl)) (of_decide_eq_true (fact_at (l := exL K) c.ex 272 rfl)) (of_decide_eq_true (fact_at (l := exL K) c.ex 273 rfl)) (c.fn _ (List.mem_of_getElem? (i := 1) rfl)) sc_Broken_init rfl bry2_Broken (by first | exact Or.inl rfl | exact Or.inr (Or.inl rfl) | exact Or.inr (Or.inr rfl)) (by first | exact Or.inl rfl | exact Or.inr (Or.inl rfl) | exact Or.inr (Or.inr rfl)) (by first | exact Or.inl rfl | exact Or.inr (Or.inl rfl) | exact Or.inr (Or.inr rfl)) (by decide) (by decide) (by decide) (by decide)
  have n_NothingToUndo : RnL K mg "NothingToUndo" (He.ga K "NothingToUndo") := ⟨_, _, _, _, PySem.F.excBase_ArithmeticError, (fact_at (l := exL K) c.ex 274 rfl), PySem.W.mg_of KX G (of_decide_eq_true (fact_at (l := exL K) c.ex 92 rfl)), (fact_at (l := exL K) c.ex 275 rfl), (of_decide_eq_true (fact_at (l := exL K) c.ex 260 rfl)), (of_decide_eq_true (fact_at (l := exL K) c.ex 276 rfl))⟩
  have d__law_right : DefAt K mg "_law_right" (top 38) ["spring"] := def_at KX G b__law_right (of_decide_eq_true (fact_at (l := exL K) c.ex 277 rfl)) (Stands.ofL (c.fn _ (List.mem_of_getElem? (i := 2) rfl)))
  have d__law_odd : DefAt K mg "_law_odd" (top 36) ["spring"] := def_at KX G b__law_odd (of_decide_eq_true (fact_at (l := exL K) c.ex 278 rfl)) (Stands.ofL (c.fn _ (List.mem_of_getElem? (i := 3) rfl)))
  have d__law_of : DefAt K mg "_law_of" (top 33) ["spring", "menu"] := def_at KX G b__law_of (of_decide_eq_true (fact_at (l := exL K) c.ex 279 rfl)) (Stands.ofL (c.fn _ (List.mem_of_getElem? (i := 4) rfl)))
  have d__law_draw : DefAt K mg "_law_draw" (top 32) ["spring", "size"] := def_at KX G b__law_draw (of_decide_eq_true (fact_at (l := exL K) c.ex 280 rfl)) (Stands.ofL (c.fn _ (List.mem_of_getElem? (i := 5) rfl)))
  have ry_InvalidCloth : RyL K mg "InvalidCloth" (He.ga K "InvalidCloth") "InvalidCloth.__init__" (inClass (top 2) 0) "given" := ryl_look KX G PySem.F.excBase_ValueError PySem.F.store_ValueError (of_decide_eq_true (fact_at (l := exL K) c.ex 73 rfl)) (fact_at (l := exL K) c.ex 281 rfl) (fact_at (l := exL K) c.ex 282 rfl) (of_decide_eq_true (fact_at (l := exL K) c.ex 283 rfl)) (of_decide_eq_true (fact_at (l := exL K) c.ex 69 rfl)) (of_decide_eq_true (fact_at (l := exL K) c.ex 284 rfl)) (fact_at (l := exL K) c.ex 285 rfl) (of_decide_eq_true (fact_at (l := exL K) c.ex 93 rfl)) (of_decide_eq_true (fact_at (l := exL K) c.ex 286 rfl)) (of_decide_eq_true (fact_at (l := exL K) c.ex 287 rfl)) (c.fn _ (List.mem_of_getElem? (i := 6) rfl)) sc_InvalidCloth_init rfl bry_InvalidCloth (by first | exact Or.inl rfl | exact Or.inr (Or.inl rfl) | exact Or.inr (Or.inr rfl)) (by first | exact Or.inl rfl | exact Or.inr (Or.inl rfl) | exact Or.inr (Or.inr rfl)) (by decide) (by decide)
  have ry_InvalidMove : RyL K mg "InvalidMove" (He.ga K "InvalidMove") "InvalidMove.__init__" (inClass (top 3) 0) "given" := ryl_look KX G PySem.F.excBase_ValueError PySem.F.store_ValueError (of_decide_eq_true (fact_at (l := exL K) c.ex 74 rfl)) (fact_at (l := exL K) c.ex 288 rfl) (fact_at (l := exL K) c.ex 289 rfl) (of_decide_eq_true (fact_at (l := exL K) c.ex 290 rfl)) (of_decide_eq_true (fact_at (l := exL K) c.ex 98 rfl)) (of_decide_eq_true (fact_at (l := exL K) c.ex 291 rfl)) (fact_at (l := exL K) c.ex 292 rfl) (of_decide_eq_true (fact_at (l := exL K) c.ex 102 rfl)) (of_decide_eq_true (fact_at (l := exL K) c.ex 293 rfl)) (of_decide_eq_true (fact_at (l := exL K) c.ex 294 rfl)) (c.fn _ (List.mem_of_getElem? (i := 7) rfl)) sc_InvalidMove_init rfl bry_InvalidMove (by first | exact Or.inl rfl | exact Or.inr (Or.inl rfl) | exact Or.inr (Or.inr rfl)) (by first | exact Or.inl rfl | exact Or.inr (Or.inl rfl) | exact Or.inr (Or.inr rfl)) (by decide) (by decide)
  have ry_InvalidText : RyL K mg "InvalidText" (He.ga K "InvalidText") "InvalidText.__init__" (inClass (top 4) 0) "given" := ryl_look KX G PySem.F.excBase_ValueError PySem.F.store_ValueError (of_decide_eq_true (fact_at (l := exL K) c.ex 75 rfl)) (fact_at (l := exL K) c.ex 295 rfl) (fact_at (l := exL K) c.ex 296 rfl) (of_decide_eq_true (fact_at (l := exL K) c.ex 297 rfl)) (of_decide_eq_true (fact_at (l := exL K) c.ex 107 rfl)) (of_decide_eq_true (fact_at (l := exL K) c.ex 298 rfl)) (fact_at (l := exL K) c.ex 299 rfl) (of_decide_eq_true (fact_at (l := exL K) c.ex 111 rfl)) (of_decide_eq_true (fact_at (l := exL K) c.ex 300 rfl)) (of_decide_eq_true (fact_at (l := exL K) c.ex 301 rfl)) (c.fn _ (List.mem_of_getElem? (i := 8) rfl)) sc_InvalidText_init rfl bry_InvalidText (by first | exact Or.inl rfl | exact Or.inr (Or.inl rfl) | exact Or.inr (Or.inr rfl)) (by first | exact Or.inl rfl | exact Or.inr (Or.inl rfl) | exact Or.inr (Or.inr rfl)) (by decide) (by decide)
  have ry_InvalidName : RyL K mg "InvalidName" (He.ga K "InvalidName") "InvalidName.__init__" (inClass (top 5) 0) "given" := ryl_look KX G PySem.F.excBase_ValueError PySem.F.store_ValueError (of_decide_eq_true (fact_at (l := exL K) c.ex 76 rfl)) (fact_at (l := exL K) c.ex 302 rfl) (fact_at (l := exL K) c.ex 303 rfl) (of_decide_eq_true (fact_at (l := exL K) c.ex 304 rfl)) (of_decide_eq_true (fact_at (l := exL K) c.ex 116 rfl)) (of_decide_eq_true (fact_at (l := exL K) c.ex 305 rfl)) (fact_at (l := exL K) c.ex 306 rfl) (of_decide_eq_true (fact_at (l := exL K) c.ex 120 rfl)) (of_decide_eq_true (fact_at (l := exL K) c.ex 307 rfl)) (of_decide_eq_true (fact_at (l := exL K) c.ex 308 rfl)) (c.fn _ (List.mem_of_getElem? (i := 9) rfl)) sc_InvalidName_init rfl bry_InvalidName (by first | exact Or.inl rfl | exact Or.inr (Or.inl rfl) | exact Or.inr (Or.inr rfl)) (by first | exact Or.inl rfl | exact Or.inr (Or.inl rfl) | exact Or.inr (Or.inr rfl)) (by decide) (by decide)
  have ry_InvalidNumber : RyL K mg "InvalidNumber" (He.ga K "InvalidNumber") "InvalidNumber.__init__" (inClass (top 6) 0) "given" := ryl_look KX G PySem.F.excBase_ValueError PySem.F.store_ValueError (of_decide_eq_true (fact_at (l := exL K) c.ex 77 rfl)) (fact_at (l := exL K) c.ex 309 rfl) (fact_at (l := exL K) c.ex 310 rfl) (of_decide_eq_true (fact_at (l := exL K) c.ex 311 rfl)) (of_decide_eq_true (fact_at (l := exL K) c.ex 125 rfl)) (of_decide_eq_true (fact_at (l := exL K) c.ex 312 rfl)) (fact_at (l := exL K) c.ex 313 rfl) (of_decide_eq_true (fact_at (l := exL K) c.ex 129 rfl)) (of_decide_eq_true (fact_at (l := exL K) c.ex 314 rfl)) (of_decide_eq_true (fact_at (l := exL K) c.ex 315 rfl)) (c.fn _ (List.mem_of_getElem? (i := 10) rfl)) sc_InvalidNumber_init rfl bry_InvalidNumber (by first | exact Or.inl rfl | exact Or.inr (Or.inl rfl) | exact Or.inr (Or.inr rfl)) (by first | exact Or.inl rfl | exact Or.inr (Or.inl rfl) | exact Or.inr (Or.inr rfl)) (by decide) (by decide)
  have ry_InvalidPlace : RyL K mg "InvalidPlace" (He.ga K "InvalidPlace") "InvalidPlace.__init__" (inClass (top 7) 0) "given" := ryl_look KX G PySem.F.excBase_ValueError PySem.F.store_ValueError (of_decide_eq_true (fact_at (l := exL K) c.ex 78 rfl)) (fact_at (l := exL K) c.ex 316 rfl) (fact_at (l := exL K) c.ex 317 rfl) (of_decide_eq_true (fact_at (l := exL K) c.ex 318 rfl)) (of_decide_eq_true (fact_at (l := exL K) c.ex 134 rfl)) (of_decide_eq_true (fact_at (l := exL K) c.ex 319 rfl)) (fact_at (l := exL K) c.ex 320 rfl) (of_decide_eq_true (fact_at (l := exL K) c.ex 138 rfl)) (of_decide_eq_true (fact_at (l := exL K) c.ex 321 rfl)) (of_decide_eq_true (fact_at (l := exL K) c.ex 322 rfl)) (c.fn _ (List.mem_of_getElem? (i := 11) rfl)) sc_InvalidPlace_init rfl bry_InvalidPlace (by first | exact Or.inl rfl | exact Or.inr (Or.inl rfl) | exact Or.inr (Or.inr rfl)) (by first | exact Or.inl rfl | exact Or.inr (Or.inl rfl) | exact Or.inr (Or.inr rfl)) (by decide) (by decide)
  have ry_InvalidWish : RyL K mg "InvalidWish" (He.ga K "InvalidWish") "InvalidWish.__init__" (inClass (top 8) 0) "given" := ryl_look KX G PySem.F.excBase_ValueError PySem.F.store_ValueError (of_decide_eq_true (fact_at (l := exL K) c.ex 79 rfl)) (fact_at (l := exL K) c.ex 323 rfl) (fact_at (l := exL K) c.ex 324 rfl) (of_decide_eq_true (fact_at (l := exL K) c.ex 325 rfl)) (of_decide_eq_true (fact_at (l := exL K) c.ex 143 rfl)) (of_decide_eq_true (fact_at (l := exL K) c.ex 326 rfl)) (fact_at (l := exL K) c.ex 327 rfl) (of_decide_eq_true (fact_at (l := exL K) c.ex 147 rfl)) (of_decide_eq_true (fact_at (l := exL K) c.ex 328 rfl)) (of_decide_eq_true (fact_at (l := exL K) c.ex 329 rfl)) (c.fn _ (List.mem_of_getElem? (i := 12) rfl)) sc_InvalidWish_init rfl bry_InvalidWish (by first | exact Or.inl rfl | exact Or.inr (Or.inl rfl) | exact Or.inr (Or.inr rfl)) (by first | exact Or.inl rfl | exact Or.inr (Or.inl rfl) | exact Or.inr (Or.inr rfl)) (by decide) (by decide)
  have ry_NotAScript : RyL K mg "NotAScript" (He.ga K "NotAScript") "NotAScript.__init__" (inClass (top 9) 0) "given" := ryl_look KX G PySem.F.excBase_ValueError PySem.F.store_ValueError (of_decide_eq_true (fact_at (l := exL K) c.ex 80 rfl)) (fact_at (l := exL K) c.ex 330 rfl) (fact_at (l := exL K) c.ex 331 rfl) (of_decide_eq_true (fact_at (l := exL K) c.ex 332 rfl)) (of_decide_eq_true (fact_at (l := exL K) c.ex 152 rfl)) (of_decide_eq_true (fact_at (l := exL K) c.ex 333 rfl)) (fact_at (l := exL K) c.ex 334 rfl) (of_decide_eq_true (fact_at (l := exL K) c.ex 156 rfl)) (of_decide_eq_true (fact_at (l := exL K) c.ex 335 rfl)) (of_decide_eq_true (fact_at (l := exL K) c.ex 336 rfl)) (c.fn _ (List.mem_of_getElem? (i := 13) rfl)) sc_NotAScript_init rfl bry_NotAScript (by first | exact Or.inl rfl | exact Or.inr (Or.inl rfl) | exact Or.inr (Or.inr rfl)) (by first | exact Or.inl rfl | exact Or.inr (Or.inl rfl) | exact Or.inr (Or.inr rfl)) (by decide) (by decide)
  have ry_InvalidRows : RyL K mg "InvalidRows" (He.ga K "InvalidRows") "InvalidRows.__init__" (inClass (top 10) 0) "index" := ryl_look KX G PySem.F.excBase_ValueError PySem.F.store_ValueError (of_decide_eq_true (fact_at (l := exL K) c.ex 81 rfl)) (fact_at (l := exL K) c.ex 337 rfl) (fact_at (l := exL K) c.ex 338 rfl) (of_decide_eq_true (fact_at (l := exL K) c.ex 339 rfl)) (of_decide_eq_true (fact_at (l := exL K) c.ex 161 rfl)) (of_decide_eq_true (fact_at (l := exL K) c.ex 340 rfl)) (fact_at (l := exL K) c.ex 341 rfl) (of_decide_eq_true (fact_at (l := exL K) c.ex 166 rfl)) (of_decide_eq_true (fact_at (l := exL K) c.ex 342 rfl)) (of_decide_eq_true (fact_at (l := exL K) c.ex 343 rfl)) (c.fn _ (List.mem_of_getElem? (i := 14) rfl)) sc_InvalidRows_init rfl bry_InvalidRows (by first | exact Or.inl rfl | exact Or.inr (Or.inl rfl) | exact Or.inr (Or.inr rfl)) (by first | exact Or.inl rfl | exact Or.inr (Or.inl rfl) | exact Or.inr (Or.inr rfl)) (by decide) (by decide)
  have ry_InvalidStanding : RyL K mg "InvalidStanding" (He.ga K "InvalidStanding") "InvalidStanding.__init__" (inClass (top 11) 0) "index" := ryl_look KX G PySem.F.excBase_ValueError PySem.F.store_ValueError (of_decide_eq_true (fact_at (l := exL K) c.ex 82 rfl)) (fact_at (l := exL K) c.ex 344 rfl) (fact_at (l := exL K) c.ex 345 rfl) (of_decide_eq_true (fact_at (l := exL K) c.ex 346 rfl)) (of_decide_eq_true (fact_at (l := exL K) c.ex 170 rfl)) (of_decide_eq_true (fact_at (l := exL K) c.ex 347 rfl)) (fact_at (l := exL K) c.ex 348 rfl) (of_decide_eq_true (fact_at (l := exL K) c.ex 175 rfl)) (of_decide_eq_true (fact_at (l := exL K) c.ex 349 rfl)) (of_decide_eq_true (fact_at (l := exL K) c.ex 350 rfl)) (c.fn _ (List.mem_of_getElem? (i := 15) rfl)) sc_InvalidStanding_init rfl bry_InvalidStanding (by first | exact Or.inl rfl | exact Or.inr (Or.inl rfl) | exact Or.inr (Or.inr rfl)) (by first | exact Or.inl rfl | exact Or.inr (Or.inl rfl) | exact Or.inr (Or.inr rfl)) (by decide) (by decide)
  have ry_InvalidSeen : RyL K mg "InvalidSeen" (He.ga K "InvalidSeen") "InvalidSeen.__init__" (inClass (top 12) 0) "index" := ryl_look KX G PySem.F.excBase_ValueError PySem.F.store_ValueError (of_decide_eq_true (fact_at (l := exL K) c.ex 83 rfl)) (fact_at (l := exL K) c.ex 351 rfl) (fact_at (l := exL K) c.ex 352 rfl) (of_decide_eq_true (fact_at (l := exL K) c.ex 353 rfl)) (of_decide_eq_true (fact_at (l := exL K) c.ex 179 rfl)) (of_decide_eq_true (fact_at (l := exL K) c.ex 354 rfl)) (fact_at (l := exL K) c.ex 355 rfl) (of_decide_eq_true (fact_at (l := exL K) c.ex 184 rfl)) (of_decide_eq_true (fact_at (l := exL K) c.ex 356 rfl)) (of_decide_eq_true (fact_at (l := exL K) c.ex 357 rfl)) (c.fn _ (List.mem_of_getElem? (i := 16) rfl)) sc_InvalidSeen_init rfl bry_InvalidSeen (by first | exact Or.inl rfl | exact Or.inr (Or.inl rfl) | exact Or.inr (Or.inr rfl)) (by first | exact Or.inl rfl | exact Or.inr (Or.inl rfl) | exact Or.inr (Or.inr rfl)) (by decide) (by decide)
  have ry_InvalidExchanges : RyL K mg "InvalidExchanges" (He.ga K "InvalidExchanges") "InvalidExchanges.__init__" (inClass (top 13) 0) "index" := ryl_look KX G PySem.F.excBase_ValueError PySem.F.store_ValueError (of_decide_eq_true (fact_at (l := exL K) c.ex 84 rfl)) (fact_at (l := exL K) c.ex 358 rfl) (fact_at (l := exL K) c.ex 359 rfl) (of_decide_eq_true (fact_at (l := exL K) c.ex 360 rfl)) (of_decide_eq_true (fact_at (l := exL K) c.ex 188 rfl)) (of_decide_eq_true (fact_at (l := exL K) c.ex 361 rfl)) (fact_at (l := exL K) c.ex 362 rfl) (of_decide_eq_true (fact_at (l := exL K) c.ex 193 rfl)) (of_decide_eq_true (fact_at (l := exL K) c.ex 363 rfl)) (of_decide_eq_true (fact_at (l := exL K) c.ex 364 rfl)) (c.fn _ (List.mem_of_getElem? (i := 17) rfl)) sc_InvalidExchanges_init rfl bry_InvalidExchanges (by first | exact Or.inl rfl | exact Or.inr (Or.inl rfl) | exact Or.inr (Or.inr rfl)) (by first | exact Or.inl rfl | exact Or.inr (Or.inl rfl) | exact Or.inr (Or.inr rfl)) (by decide) (by decide)
  have ry_InvalidWishes : RyL K mg "InvalidWishes" (He.ga K "InvalidWishes") "InvalidWishes.__init__" (inClass (top 14) 0) "index" := ryl_look KX G PySem.F.excBase_ValueError PySem.F.store_ValueError (of_decide_eq_true (fact_at (l := exL K) c.ex 85 rfl)) (fact_at (l := exL K) c.ex 365 rfl) (fact_at (l := exL K) c.ex 366 rfl) (of_decide_eq_true (fact_at (l := exL K) c.ex 367 rfl)) (of_decide_eq_true (fact_at (l := exL K) c.ex 197 rfl)) (of_decide_eq_true (fact_at (l := exL K) c.ex 368 rfl)) (fact_at (l := exL K) c.ex 369 rfl) (of_decide_eq_true (fact_at (l := exL K) c.ex 202 rfl)) (of_decide_eq_true (fact_at (l := exL K) c.ex 370 rfl)) (of_decide_eq_true (fact_at (l := exL K) c.ex 371 rfl)) (c.fn _ (List.mem_of_getElem? (i := 18) rfl)) sc_InvalidWishes_init rfl bry_InvalidWishes (by first | exact Or.inl rfl | exact Or.inr (Or.inl rfl) | exact Or.inr (Or.inr rfl)) (by first | exact Or.inl rfl | exact Or.inr (Or.inl rfl) | exact Or.inr (Or.inr rfl)) (by decide) (by decide)
  have ry_UnknownName : RyL K mg "UnknownName" (He.ga K "UnknownName") "UnknownName.__init__" (inClass (top 16) 0) "given" := ryl_look KX G PySem.F.excBase_LookupError PySem.F.store_LookupError (of_decide_eq_true (fact_at (l := exL K) c.ex 86 rfl)) (fact_at (l := exL K) c.ex 372 rfl) (fact_at (l := exL K) c.ex 373 rfl) (of_decide_eq_true (fact_at (l := exL K) c.ex 374 rfl)) (of_decide_eq_true (fact_at (l := exL K) c.ex 206 rfl)) (of_decide_eq_true (fact_at (l := exL K) c.ex 375 rfl)) (fact_at (l := exL K) c.ex 376 rfl) (of_decide_eq_true (fact_at (l := exL K) c.ex 210 rfl)) (of_decide_eq_true (fact_at (l := exL K) c.ex 377 rfl)) (of_decide_eq_true (fact_at (l := exL K) c.ex 378 rfl)) (c.fn _ (List.mem_of_getElem? (i := 19) rfl)) sc_UnknownName_init rfl bry_UnknownName (by first | exact Or.inl rfl | exact Or.inr (Or.inl rfl) | exact Or.inr (Or.inr rfl)) (by first | exact Or.inl rfl | exact Or.inr (Or.inl rfl) | exact Or.inr (Or.inr rfl)) (by decide) (by decide)
  have ry_InUse : RyL K mg "InUse" (He.ga K "InUse") "InUse.__init__" (inClass (top 17) 0) "index" := ryl_look KX G PySem.F.excBase_LookupError PySem.F.store_LookupError (of_decide_eq_true (fact_at (l := exL K) c.ex 87 rfl)) (fact_at (l := exL K) c.ex 379 rfl) (fact_at (l := exL K) c.ex 380 rfl) (of_decide_eq_true (fact_at (l := exL K) c.ex 381 rfl)) (of_decide_eq_true (fact_at (l := exL K) c.ex 215 rfl)) (of_decide_eq_true (fact_at (l := exL K) c.ex 382 rfl)) (fact_at (l := exL K) c.ex 383 rfl) (of_decide_eq_true (fact_at (l := exL K) c.ex 220 rfl)) (of_decide_eq_true (fact_at (l := exL K) c.ex 384 rfl)) (of_decide_eq_true (fact_at (l := exL K) c.ex 385 rfl)) (c.fn _ (List.mem_of_getElem? (i := 20) rfl)) sc_InUse_init rfl bry_InUse (by first | exact Or.inl rfl | exact Or.inr (Or.inl rfl) | exact Or.inr (Or.inr rfl)) (by first | exact Or.inl rfl | exact Or.inr (Or.inl rfl) | exact Or.inr (Or.inr rfl)) (by decide) (by decide)
  have ry_Unknown : RyL K mg "Unknown" (He.ga K "Unknown") "Unknown.__init__" (inClass (top 19) 0) "index" := ryl_look KX G PySem.F.excBase_ArithmeticError PySem.F.store_ArithmeticError (of_decide_eq_true (fact_at (l := exL K) c.ex 88 rfl)) (fact_at (l := exL K) c.ex 386 rfl) (fact_at (l := exL K) c.ex 387 rfl) (of_decide_eq_true (fact_at (l := exL K) c.ex 388 rfl)) (of_decide_eq_true (fact_at (l := exL K) c.ex 224 rfl)) (of_decide_eq_true (fact_at (l := exL K) c.ex 389 rfl)) (fact_at (l := exL K) c.ex 390 rfl) (of_decide_eq_true (fact_at (l := exL K) c.ex 229 rfl)) (of_decide_eq_true (fact_at (l := exL K) c.ex 391 rfl)) (of_decide_eq_true (fact_at (l := exL K) c.ex 392 rfl)) (c.fn _ (List.mem_of_getElem? (i := 21) rfl)) sc_Unknown_init rfl bry_Unknown (by first | exact Or.inl rfl | exact Or.inr (Or.inl rfl) | exact Or.inr (Or.inr rfl)) (by first | exact Or.inl rfl | exact Or.inr (Or.inl rfl) | exact Or.inr (Or.inr rfl)) (by decide) (by decide)
  have ry_TooFew : RyL K mg "TooFew" (He.ga K "TooFew") "TooFew.__init__" (inClass (top 20) 0) "given" := ryl_look KX G PySem.F.excBase_ArithmeticError PySem.F.store_ArithmeticError (of_decide_eq_true (fact_at (l := exL K) c.ex 89 rfl)) (fact_at (l := exL K) c.ex 393 rfl) (fact_at (l := exL K) c.ex 394 rfl) (of_decide_eq_true (fact_at (l := exL K) c.ex 395 rfl)) (of_decide_eq_true (fact_at (l := exL K) c.ex 233 rfl)) (of_decide_eq_true (fact_at (l := exL K) c.ex 396 rfl)) (fact_at (l := exL K) c.ex 397 rfl) (of_decide_eq_true (fact_at (l := exL K) c.ex 237 rfl)) (of_decide_eq_true (fact_at (l := exL K) c.ex 398 rfl)) (of_decide_eq_true (fact_at (l := exL K) c.ex 399 rfl)) (c.fn _ (List.mem_of_getElem? (i := 22) rfl)) sc_TooFew_init rfl bry_TooFew (by first | exact Or.inl rfl | exact Or.inr (Or.inl rfl) | exact Or.inr (Or.inr rfl)) (by first | exact Or.inl rfl | exact Or.inr (Or.inl rfl) | exact Or.inr (Or.inr rfl)) (by decide) (by decide)
  have ry_TooMany : RyL K mg "TooMany" (He.ga K "TooMany") "TooMany.__init__" (inClass (top 21) 0) "given" := ryl_look KX G PySem.F.excBase_ArithmeticError PySem.F.store_ArithmeticError (of_decide_eq_true (fact_at (l := exL K) c.ex 90 rfl)) (fact_at (l := exL K) c.ex 400 rfl) (fact_at (l := exL K) c.ex 401 rfl) (of_decide_eq_true (fact_at (l := exL K) c.ex 402 rfl)) (of_decide_eq_true (fact_at (l := exL K) c.ex 242 rfl)) (of_decide_eq_true (fact_at (l := exL K) c.ex 403 rfl)) (fact_at (l := exL K) c.ex 404 rfl) (of_decide_eq_true (fact_at (l := exL K) c.ex 246 rfl)) (of_decide_eq_true (fact_at (l := exL K) c.ex 405 rfl)) (of_decide_eq_true (fact_at (l := exL K) c.ex 406 rfl)) (c.fn _ (List.mem_of_getElem? (i := 23) rfl)) sc_TooMany_init rfl bry_TooMany (by first | exact Or.inl rfl | exact Or.inr (Or.inl rfl) | exact Or.inr (Or.inr rfl)) (by first | exact Or.inl rfl | exact Or.inr (Or.inl rfl) | exact Or.inr (Or.inr rfl)) (by decide) (by decide)
  have d__law_errors : DefAt K mg "_law_errors" (top 37) ["thing"] := def_at KX G b__law_errors (of_decide_eq_true (fact_at (l := exL K) c.ex 407 rfl)) (Stands.ofL (c.fn _ (List.mem_of_getElem? (i := 24) rfl)))
  have d__law_error : DefAt K mg "_law_error" (top 34) ["e"] := def_at KX G b__law_error (of_decide_eq_true (fact_at (l := exL K) c.ex 408 rfl)) (Stands.ofL (c.fn _ (List.mem_of_getElem? (i := 25) rfl)))
  have d__law_field : DefAt K mg "_law_field" (top 35) ["e", "word_now"] := def_at KX G b__law_field (of_decide_eq_true (fact_at (l := exL K) c.ex 409 rfl)) (Stands.ofL (c.fn _ (List.mem_of_getElem? (i := 26) rfl)))
  have d_law : DefAt K mg "law" (top 39) ["script"] := def_at KX G b_law (of_decide_eq_true (fact_at (l := exL K) c.ex 410 rfl)) (Stands.ofL (c.fn _ (List.mem_of_getElem? (i := 27) rfl)))
  exact all_mk (w := w) (l := l) hfa fB fSys fLim fBas n_WrongValue n_WrongName n_NoAnswer d__law_spring e_0 e_1 e_2 e_3 e_4 e_5 e_6 e_7 e_8 e_9 e_10 e_11 e_12 e_13 e_14 e_15 e_16 e_17 e_18 e_19 ry2_Broken n_NothingToUndo d__law_right d__law_odd d__law_of d__law_draw ry_InvalidCloth ry_InvalidMove ry_InvalidText ry_InvalidName ry_InvalidNumber ry_InvalidPlace ry_InvalidWish ry_NotAScript ry_InvalidRows ry_InvalidStanding ry_InvalidSeen ry_InvalidExchanges ry_InvalidWishes ry_UnknownName ry_InUse ry_Unknown ry_TooFew ry_TooMany d__law_errors d__law_error d__law_field d_law
end
end T01
open PySem PySem.W PySem.Calls PyProof.Rows
theorem PySem.Challenge.cw_drawnrings_k01_errors_and_limits_holds : PySem.Challenge.rw_drawnrings_k01_errors_and_limits.Holds := by
  w_on; o_law
  refine HandSHeadRun.head_any (r := OpenLaw.row PySem.Challenge.rw_drawnrings_k01_errors_and_limits) (q := view (OpenLaw.row PySem.Challenge.rw_drawnrings_k01_errors_and_limits).prog [39]) (H := T01.hk) (ob := T01.ob) (M := 12000) (loose := T01.looseN) (d := HandSHeadRun.topDef (OpenLaw.row PySem.Challenge.rw_drawnrings_k01_errors_and_limits).prog 39) (kwd := []) T01.ob_eq
    (by kernel_rfl) (fun s => by kernel_rfl) T01.topRuns (by kernel_rfl) (by kernel_rfl) (by kernel_rfl) (by rfl) (by first | assumption | decide +kernel) (by decide +kernel) ⟨rfl, rfl, rfl, rfl, rfl, by decide +kernel⟩ ?hw ?hc
  case hw => w_witness2
  case hc =>
    refine DL.walk_ofGE (l := PySem.Challenge.rw_drawnrings_k01_errors_and_limits) (n := 63) (k := 5) (x := "script") rfl (by decide) (by kernel_rfl) ⟨rfl, by decide, by decide⟩ ?F
    intro w mg fa h Y G hmg0
    obtain ⟨K, KX, c⟩ := Y
    have hmg : mg ("law" : PySem.Str) = some (.ref fa) := by
      have e : (HandSHeadRun.topDef (OpenLaw.row PySem.Challenge.rw_drawnrings_k01_errors_and_limits).prog 39).name = ("law" : PySem.Str) := by kernel_rfl
      rw [← e]
      exact hmg0
    obtain ⟨fd, hb, hF⟩ := T01.facts (l := PySem.Challenge.rw_drawnrings_k01_errors_and_limits) (w := w) KX G hmg c
    exact ⟨K, fd, _, KX, hb, fun H a ns hl _ hS => T01.start_law (Nat.le_trans hl (by decide)) hS, hF⟩

