import PyProof.Rows.All
import Wide.All
import OpenK.AllK
import Wide.FinOn
import HandS.Base
import HandS.Call
import HandS.List
import HandS.Comp
import HandS.Words
import HandS.Text
import HandS.Iter
import HandS.TupAny
import HandS.WideBits
import HandS.Star
import HandS.Codes
import HandS.Property
import HandS.Zip
import HandS.IsInst
import HandS.StrMore
import HandS.WordsList
import HandS.More
import HandS.Deep
import PyProof.ReprRoads
import KE.GoesMore
import PySem.Challenge.RW_drawnrings_k52_whole_rails_move_as_far_a
set_option Elab.async false
set_option linter.all false
set_option autoImplicit false
set_option maxRecDepth 100000
set_option maxHeartbeats 2000000
namespace DL
open PySem L2

/-- data: what a value denotes; raw: an object that may change, by its address; ins: an instance that stays as it is -/
inductive D where
  | non | bl (b : Bool) | int (i : Int) | str (s : Str) | lst (ds : List D) | tup (ds : List D) | frz (ds : List D) | raw (a : Addr)
  | ins (C : Addr) (ns : List Str) (ds : List D)

mutual
inductive Dn (K : PySem.W.Frag) (F : Hp) : V → D → Prop
  | non : Dn K F .non .non
  | bl (b : Bool) : Dn K F (.bl b) (.bl b)
  | int (i : Int) : Dn K F (.int i) (.int i)
  | str (s : Str) : Dn K F (.str s) (.str s)
  | lst {a : Addr} {xs : List V} {ds : List D} : F a = some (.lst xs) → Dns K F xs ds → Dn K F (.ref a) (.lst ds)
  | frz {a : Addr} {xs : List V} {ds : List D} : SqL K F a xs → Dns K F xs ds → Dn K F (.ref a) (.frz ds)
  | tup {a : Addr} {xs : List V} {ds : List D} : SqT K F a xs → Dns K F xs ds → Dn K F (.ref a) (.tup ds)
  | raw (a : Addr) : Dn K F (.ref a) (.raw a)
  | ins {a C dx : Addr} {fs : List (Str × V)} {ns : List Str} {ds : List D} : F a = some (.ins C dx fs) → fs.map (·.1) = ns → Dns K F (fs.map (·.2)) ds → Dn K F (.ref a) (.ins C ns ds)
inductive Dns (K : PySem.W.Frag) (F : Hp) : List V → List D → Prop
  | nil : Dns K F [] []
  | cons {v : V} {vs : List V} {d : D} {ds : List D} : Dn K F v d → Dns K F vs ds → Dns K F (v :: vs) (d :: ds)
end

section
variable {K : PySem.W.Frag} {F F' F1 F2 H H' : Hp}
theorem sqL_mono (e : Same F F') {a : Addr} {xs : List V} (h : SqL K F a xs) : SqL K F' a xs := e.seq h
theorem sqT_mono (e : Same F F') {a : Addr} {xs : List V} (h : SqT K F a xs) : SqT K F' a xs := by
  rcases h with (h | ⟨o, h⟩) | h
  · exact .inl (.inl (e _ _ h))
  · exact .inl (.inr ⟨o, e _ _ h⟩)
  · exact .inr h
mutual
theorem Dn.mono (e : Same F F') : ∀ {v : V} {d : D}, Dn K F v d → Dn K F' v d
  | _, _, .non => .non
  | _, _, .bl b => .bl b
  | _, _, .int i => .int i
  | _, _, .str s => .str s
  | _, _, .lst h r => .lst (e _ _ h) (Dns.mono e r)
  | _, _, .frz h r => .frz (sqL_mono e h) (Dns.mono e r)
  | _, _, .tup h r => .tup (sqT_mono e h) (Dns.mono e r)
  | _, _, .raw a => .raw a
  | _, _, .ins h n r => .ins (e _ _ h) n (Dns.mono e r)
theorem Dns.mono (e : Same F F') : ∀ {vs : List V} {ds : List D}, Dns K F vs ds → Dns K F' vs ds
  | _, _, .nil => .nil
  | _, _, .cons h r => .cons (Dn.mono e h) (Dns.mono e r)
end
theorem Dns.length : ∀ {vs : List V} {ds : List D}, Dns K F vs ds → vs.length = ds.length
  | _, _, .nil => rfl
  | _, _, .cons _ r => congrArg Nat.succ (Dns.length r)
theorem Dns.get : ∀ {vs : List V} {ds : List D} {i : Nat} {d : D}, Dns K F vs ds → ds[i]? = some d → ∃ v, vs[i]? = some v ∧ Dn K F v d
  | _, _, _, _, .nil, e => by simp at e
  | _, _, 0, _, .cons h _, e => by simp at e; subst e; exact ⟨_, rfl, h⟩
  | _, _, i + 1, d, .cons _ r, e => by
    obtain ⟨v, h1, h2⟩ := Dns.get (i := i) (d := d) r (by simpa using e)
    exact ⟨v, by simpa using h1, h2⟩
theorem Dns.getV : ∀ {vs : List V} {ds : List D} {i : Nat} {v : V}, Dns K F vs ds → vs[i]? = some v → ∃ d, ds[i]? = some d ∧ Dn K F v d
  | _, _, _, _, .nil, e => by simp at e
  | _, _, 0, _, .cons h _, e => by simp at e; subst e; exact ⟨_, rfl, h⟩
  | _, _, i + 1, v, .cons _ r, e => by
    obtain ⟨d, h1, h2⟩ := Dns.getV (i := i) (v := v) r (by simpa using e)
    exact ⟨d, by simpa using h1, h2⟩
theorem Dns.append : ∀ {xs ys : List V} {ds es : List D}, Dns K F xs ds → Dns K F ys es → Dns K F (xs ++ ys) (ds ++ es)
  | _, _, _, _, .nil, s => s
  | _, _, _, _, .cons h r, s => .cons h (Dns.append r s)
theorem Dns.take : ∀ {xs : List V} {ds : List D} (n : Nat), Dns K F xs ds → Dns K F (xs.take n) (ds.take n)
  | _, _, 0, _ => .nil
  | _, _, _ + 1, .nil => .nil
  | _, _, n + 1, .cons h r => .cons h (Dns.take n r)
theorem Dns.drop : ∀ {xs : List V} {ds : List D} (n : Nat), Dns K F xs ds → Dns K F (xs.drop n) (ds.drop n)
  | _, _, 0, r => r
  | _, _, _ + 1, .nil => .nil
  | _, _, n + 1, .cons _ r => Dns.drop n r
theorem Dns.set : ∀ {xs : List V} {ds : List D} (n : Nat) {v : V} {d : D}, Dns K F xs ds → Dn K F v d → Dns K F (xs.set n v) (ds.set n d)
  | _, _, _, _, _, .nil, _ => .nil
  | _, _, 0, _, _, .cons _ r, h => .cons h r
  | _, _, n + 1, _, _, .cons k r, h => .cons k (Dns.set n r h)
theorem Dns.reverse : ∀ {xs : List V} {ds : List D}, Dns K F xs ds → Dns K F xs.reverse ds.reverse
  | _, _, .nil => .nil
  | _, _, .cons h r => by
    rw [List.reverse_cons, List.reverse_cons]
    exact (Dns.reverse r).append (.cons h .nil)
/-- every element a D of one kind -/
theorem Dns.ints : ∀ {vs : List V} {ns : List Int}, Dns K F vs (ns.map D.int) → vs = ns.map V.int
  | _, [], h => by cases h; rfl
  | _, n :: ns, h => by
    cases h with
    | cons a b => cases a; rw [Dns.ints b]; rfl
theorem Dns.of_ints : ∀ (ns : List Int), Dns K F (ns.map V.int) (ns.map D.int)
  | [] => .nil
  | n :: ns => .cons (.int n) (Dns.of_ints ns)
theorem Dns.strs : ∀ {vs : List V} {ns : List Str}, Dns K F vs (ns.map D.str) → vs = ns.map V.str
  | _, [], h => by cases h; rfl
  | _, n :: ns, h => by
    cases h with
    | cons a b => cases a; rw [Dns.strs b]; rfl
theorem Dns.of_strs : ∀ (ns : List Str), Dns K F (ns.map V.str) (ns.map D.str)
  | [] => .nil
  | n :: ns => .cons (.str n) (Dns.of_strs ns)
theorem Dns.bls : ∀ {vs : List V} {ns : List Bool}, Dns K F vs (ns.map D.bl) → vs = ns.map V.bl
  | _, [], h => by cases h; rfl
  | _, n :: ns, h => by
    cases h with
    | cons a b => cases a; rw [Dns.bls b]; rfl
end

/-! ### the objects that may change -/
inductive MO where
  | lst (ds : List D)
  | ins (C : Addr) (ns : List Str) (ds : List D)
abbrev MM := Addr → Option MO
def mupd (M : MM) (a : Addr) (o : MO) : MM := fun b => if b = a then some o else M b
theorem mupd_same {M : MM} {a : Addr} {o : MO} : mupd M a o a = some o := by unfold mupd; rw [if_pos rfl]
theorem mupd_ne {M : MM} {a b : Addr} {o : MO} (h : b ≠ a) : mupd M a o b = M b := by unfold mupd; rw [if_neg h]
theorem mupd_mupd {M : MM} {a : Addr} {o u : MO} : mupd (mupd M a o) a u = mupd M a u := by
  funext b; unfold mupd; split <;> rfl

def MOk (K : PySem.W.Frag) (F H : Hp) (a : Addr) : MO → Prop
  | .lst ds => ∃ vs, H a = some (.lst vs) ∧ Dns K F vs ds
  | .ins C ns ds => ∃ dx fs, H a = some (.ins C dx fs) ∧ H dx = some (.own a) ∧ F dx = none ∧ fs.map (·.1) = ns ∧ Dns K F (fs.map (·.2)) ds

/-- F: what stays; M: what may change; both stand in H -/
structure Con (K : PySem.W.Frag) (F : Hp) (M : MM) (H : Hp) : Prop where
  sub : Same F H
  chg : ∀ a m, M a = some m → F a = none ∧ MOk K F H a m

structure EnvOk (K : PySem.W.Frag) (F : Hp) (Γ : List (Option D)) (σ : St) : Prop where
  len : σ.length = Γ.length
  get : ∀ (i : Nat) (d : D), Γ[i]? = some (some d) → ∃ v, σ[i]? = some (some v) ∧ Dn K F v d
abbrev G := List (Option D)

section
variable {K : PySem.W.Frag} {F F' F1 F2 H H' : Hp} {M M' : MM} {Γ : G} {σ : St}
theorem EnvOk.mono (e : Same F F') (h : EnvOk K F Γ σ) : EnvOk K F' Γ σ := ⟨h.len, fun i d q => let ⟨v, a, b⟩ := h.get i d q; ⟨v, a, b.mono e⟩⟩
theorem EnvOk.set (h : EnvOk K F Γ σ) {i : Nat} {v : V} {d : D} (q : Dn K F v d) : EnvOk K F (Γ.set i (some d)) (σ.set i (some v)) := by
  refine ⟨by rw [List.length_set, List.length_set]; exact h.len, fun j e he => ?_⟩
  by_cases hj : i = j
  · subst hj
    have hl : i < Γ.length := by
      have := (List.getElem?_eq_some_iff.mp he).1
      rwa [List.length_set] at this
    rw [List.getElem?_set_self hl] at he
    cases he
    exact ⟨v, by rw [List.getElem?_set_self (by rw [h.len]; exact hl)], q⟩
  · rw [List.getElem?_set_ne hj] at he
    rw [List.getElem?_set_ne hj]
    exact h.get j e he
theorem same_new {p : Addr} {o : HO} (h : F p = none) : Same F (upd F p o) := fun b u e => by
  rw [upd_ne (ne_of_none e h)]
  exact e
theorem MOk.mono (e : Same F F') {a : Addr} {m : MO} (h : MOk K F H a m) (hd : ∀ dx, H dx = some (.own a) → F dx = none → F' dx = none) : MOk K F' H a m := by
  cases m with
  | lst ds => obtain ⟨vs, a1, a2⟩ := h; exact ⟨vs, a1, a2.mono e⟩
  | ins C ns ds => obtain ⟨dx, fs, a1, a2, a3, a4, a5⟩ := h; exact ⟨dx, fs, a1, a2, hd dx a2 a3, a4, a5.mono e⟩
theorem MOk.heap {a : Addr} {m : MO} (h : MOk K F H a m) (e1 : H' a = H a) (e2 : ∀ dx, H dx = some (.own a) → H' dx = some (.own a)) : MOk K F H' a m := by
  cases m with
  | lst ds => obtain ⟨vs, a1, a2⟩ := h; exact ⟨vs, e1.trans a1, a2⟩
  | ins C ns ds => obtain ⟨dx, fs, a1, a2, a3, a4, a5⟩ := h; exact ⟨dx, fs, e1.trans a1, e2 dx a2, a3, a4, a5⟩
theorem MOk.there {a : Addr} {m : MO} (h : MOk K F H a m) : ∃ o, H a = some o := by
  cases m with
  | lst ds => obtain ⟨vs, a1, _⟩ := h; exact ⟨_, a1⟩
  | ins C ns ds => obtain ⟨dx, fs, a1, _⟩ := h; exact ⟨_, a1⟩
/-- a new object that stays -/
theorem Con.new (c : Con K F M H) {p : Addr} {o : HO} (hp : H p = none) : Con K (upd F p o) M (upd H p o) := by
  have hF : F p = none := c.sub.free hp
  refine ⟨fun b u e => ?_, fun a m e => ?_⟩
  · by_cases hb : b = p
    · subst hb; rw [upd_same] at e ⊢; exact e
    · rw [upd_ne hb] at e ⊢; exact c.sub _ _ e
  · obtain ⟨h1, h2⟩ := c.chg a m e
    obtain ⟨o', h3⟩ := h2.there
    have ha : a ≠ p := ne_of_none h3 hp
    refine ⟨by rw [upd_ne ha]; exact h1, ?_⟩
    refine (h2.mono (same_new hF) fun dx q1 q2 => ?_).heap (upd_ne ha) fun dx q => ?_
    · rw [upd_ne (ne_of_none q1 hp)]; exact q2
    · rw [upd_ne (ne_of_none q hp)]; exact q
/-- a new object that stays, of which nothing is told -/
theorem Con.newH (c : Con K F M H) {p : Addr} {o : HO} (hp : H p = none) : Con K F M (upd H p o) := by
  refine ⟨fun b u e => ?_, fun a m e => ?_⟩
  · have := c.sub _ _ e
    rw [upd_ne (ne_of_none this hp)]; exact this
  · obtain ⟨h1, h2⟩ := c.chg a m e
    obtain ⟨o', h3⟩ := h2.there
    have ha : a ≠ p := ne_of_none h3 hp
    exact ⟨h1, h2.heap (upd_ne ha) fun dx q => by rw [upd_ne (ne_of_none q hp)]; exact q⟩
theorem Con.fresh (c : Con K F M H) {p : Addr} (hp : H p = none) : M p = none := by
  cases e : M p with
  | none => rfl
  | some m =>
    obtain ⟨_, h⟩ := c.chg p m e
    obtain ⟨o, h3⟩ := h.there
    rw [hp] at h3; cases h3
/-- a new list that may change -/
theorem Con.newM (c : Con K F M H) {p : Addr} {vs : List V} {ds : List D} (hp : H p = none) (hd : Dns K F vs ds) : Con K F (mupd M p (.lst ds)) (upd H p (.lst vs)) := by
  have c1 := c.newH (o := .lst vs) hp
  refine ⟨c1.sub, fun a m e => ?_⟩
  by_cases ha : a = p
  · subst ha; rw [mupd_same] at e; cases e
    exact ⟨c.sub.free hp, vs, upd_same, hd⟩
  · rw [mupd_ne ha] at e
    exact c1.chg a m e
/-- a list that may change is changed -/
theorem Con.setL (c : Con K F M H) {p : Addr} {es : List D} {vs : List V} {ds : List D} (hp : M p = some (.lst es)) (hd : Dns K F vs ds) : Con K F (mupd M p (.lst ds)) (upd H p (.lst vs)) := by
  obtain ⟨f0, ws, hw, _⟩ := c.chg p _ hp
  refine ⟨fun b u e => ?_, fun a m e => ?_⟩
  · rw [upd_ne (ne_of_none e f0)]; exact c.sub _ _ e
  · by_cases ha : a = p
    · subst ha; rw [mupd_same] at e; cases e
      exact ⟨f0, vs, upd_same, hd⟩
    · rw [mupd_ne ha] at e
      obtain ⟨h1, h2⟩ := c.chg a m e
      refine ⟨h1, h2.heap (upd_ne ha) fun dx q => ?_⟩
      have : dx ≠ p := fun z => by subst z; rw [hw] at q; cases q
      rw [upd_ne this]; exact q
theorem Con.lst (c : Con K F M H) {p : Addr} {ds : List D} (hp : M p = some (.lst ds)) : ∃ vs, H p = some (.lst vs) ∧ Dns K F vs ds := (c.chg p _ hp).2
/-- what may change no longer does -/
theorem Con.freeze (c : Con K F M H) {p : Addr} {ds : List D} (hp : M p = some (.lst ds)) : ∃ F', Same F F' ∧ Con K F' (fun a => if a = p then none else M a) H ∧ Dn K F' (.ref p) (.lst ds) := by
  obtain ⟨f0, vs, hw, hd⟩ := c.chg p _ hp
  have e : Same F (upd F p (.lst vs)) := same_new f0
  refine ⟨upd F p (.lst vs), e, ⟨fun b u q => ?_, fun a m q => ?_⟩, .lst upd_same (hd.mono e)⟩
  · by_cases hb : b = p
    · subst hb; rw [upd_same] at q; cases q; exact hw
    · rw [upd_ne hb] at q; exact c.sub _ _ q
  · by_cases ha : a = p
    · rw [if_pos ha] at q; cases q
    · rw [if_neg ha] at q
      obtain ⟨h1, h2⟩ := c.chg a m q
      refine ⟨by rw [upd_ne ha]; exact h1, h2.mono e fun dx q1 q2 => ?_⟩
      have : dx ≠ p := fun z => by subst z; rw [hw] at q1; cases q1
      rw [upd_ne this]; exact q2
end

/-! ### readings at their best -/
section
variable {X : Cx}
def wpE (X : Cx) (e : Expr) : TE := fun σ H Q => ∃ t, PE X e t ∧ t σ H Q
def wpT (X : Cx) (e : Expr) : TT := fun σ H Q => ∃ t, PT X e t ∧ t σ H Q
def wpW (X : Cx) (e : Expr) : TT := fun σ H Q => ∃ t, PW X e t ∧ t σ H Q
def wpA (X : Cx) (es : List Expr) : TA := fun σ H Q => ∃ t, PA X es t ∧ t σ H Q
def wpS (X : Cx) (st : Stmt) : TS := fun D σ H => ∃ t, PS X st t ∧ t D σ H
def wpSs (X : Cx) (sts : List Stmt) : TS := fun D σ H => ∃ t, PSs X sts t ∧ t D σ H
theorem pe_wp {e : Expr} : PE X e (wpE X e) := ⟨fun pins s σ H Q I ⟨_, p, h⟩ => p.run pins s σ H Q I h⟩
theorem pt_wp {e : Expr} : PT X e (wpT X e) := ⟨fun pins s σ H Q I ⟨_, p, h⟩ => p.run pins s σ H Q I h⟩
theorem pw_wp {e : Expr} : PW X e (wpW X e) := ⟨fun wh pins s σ H Q I ⟨_, p, h⟩ => p.run wh pins s σ H Q I h⟩
theorem pa_wp {es : List Expr} : PA X es (wpA X es) := ⟨fun pos pins s σ H Q I ⟨_, p, h⟩ => p.run pos pins s σ H Q I h⟩
theorem ps_wp {st : Stmt} : PS X st (wpS X st) := ⟨fun pins s σ H D I ⟨_, p, h⟩ => p.run pins s σ H D I h⟩
theorem pss_wp {sts : List Stmt} : PSs X sts (wpSs X sts) := ⟨fun pins s σ H D I ⟨_, p, h⟩ => p.run pins s σ H D I h⟩
end

/-! ### the judgements over data -/
structure WE (X : Cx) (e : Expr) (Γ : G) (M : MM) (Q : D → MM → Prop) : Prop where
  run : ∀ (F : Hp) (σ : L2.St) (H : Hp), EnvOk X.K F Γ σ → Con X.K F M H → ∀ R : VK,
    (∀ (F' H' : Hp) (M' : MM) (v : V) (d : D), Same F F' → Con X.K F' M' H' → Dn X.K F' v d → Q d M' → R v H') → wpE X e σ H R
structure WT (X : Cx) (e : Expr) (Γ : G) (M : MM) (Q : Bool → MM → Prop) : Prop where
  run : ∀ (F : Hp) (σ : L2.St) (H : Hp), EnvOk X.K F Γ σ → Con X.K F M H → ∀ R : Bool → Hp → Prop,
    (∀ (F' H' : Hp) (M' : MM) (b : Bool), Same F F' → Con X.K F' M' H' → Q b M' → R b H') → wpT X e σ H R
structure WW (X : Cx) (e : Expr) (Γ : G) (M : MM) (Q : Bool → MM → Prop) : Prop where
  run : ∀ (F : Hp) (σ : L2.St) (H : Hp), EnvOk X.K F Γ σ → Con X.K F M H → ∀ R : Bool → Hp → Prop,
    (∀ (F' H' : Hp) (M' : MM) (b : Bool), Same F F' → Con X.K F' M' H' → Q b M' → R b H') → wpW X e σ H R
structure WA (X : Cx) (es : List Expr) (Γ : G) (M : MM) (Q : List D → MM → Prop) : Prop where
  run : ∀ (F : Hp) (σ : L2.St) (H : Hp), EnvOk X.K F Γ σ → Con X.K F M H → ∀ R : List V → Hp → Prop,
    (∀ (F' H' : Hp) (M' : MM) (vs : List V) (ds : List D), Same F F' → Con X.K F' M' H' → Dns X.K F' vs ds → Q ds M' → R vs H') → wpA X es σ H R
/-- what is wanted behind statements -/
structure Fi where
  nx : G → MM → Prop
  rt : D → MM → Prop
  bk : G → MM → Prop := fun _ _ => False
  ct : G → MM → Prop := fun _ _ => False
structure EndsOk (K : PySem.W.Frag) (F : Hp) (Φ : Fi) (E : Ends) : Prop where
  nx : ∀ F' σ' H' Γ' M', Same F F' → EnvOk K F' Γ' σ' → Con K F' M' H' → Φ.nx Γ' M' → E.nx σ' H'
  rt : ∀ F' H' M' v d, Same F F' → Con K F' M' H' → Dn K F' v d → Φ.rt d M' → E.rt v H'
  bk : ∀ F' σ' H' Γ' M', Same F F' → EnvOk K F' Γ' σ' → Con K F' M' H' → Φ.bk Γ' M' → E.bk σ' H'
  ct : ∀ F' σ' H' Γ' M', Same F F' → EnvOk K F' Γ' σ' → Con K F' M' H' → Φ.ct Γ' M' → E.ct σ' H'
theorem EndsOk.mono {K : PySem.W.Frag} {F F' : Hp} {Φ : Fi} {E : Ends} (h : EndsOk K F Φ E) (e : Same F F') : EndsOk K F' Φ E :=
  ⟨fun F2 σ' H' Γ' M' q => h.nx F2 σ' H' Γ' M' (e.trans q), fun F2 H' M' v d q => h.rt F2 H' M' v d (e.trans q), fun F2 σ' H' Γ' M' q => h.bk F2 σ' H' Γ' M' (e.trans q), fun F2 σ' H' Γ' M' q => h.ct F2 σ' H' Γ' M' (e.trans q)⟩
structure WS (X : Cx) (sts : List Stmt) (Γ : G) (M : MM) (Φ : Fi) : Prop where
  run : ∀ (F : Hp) (σ : L2.St) (H : Hp), EnvOk X.K F Γ σ → Con X.K F M H → ∀ E : Ends, EndsOk X.K F Φ E → wpSs X sts E σ H
end DL

set_option Elab.async false
set_option linter.all false
set_option autoImplicit false
set_option maxRecDepth 100000
set_option maxHeartbeats 2000000
namespace DL
open PySem L2

section
variable {X : Cx} {Γ : G} {M : MM} {pos p : Pos}

/-! ### what is named, what is written out -/
theorem WE.imp {e : Expr} {Q Q' : D → MM → Prop} (h : WE X e Γ M Q) (hq : ∀ d M', Q d M' → Q' d M') : WE X e Γ M Q' := ⟨fun F σ H he hc R hR =>
  h.run F σ H he hc R fun F' H' M' v d a b c q => hR F' H' M' v d a b c (hq d M' q)⟩
theorem WT.imp {e : Expr} {Q Q' : Bool → MM → Prop} (h : WT X e Γ M Q) (hq : ∀ d M', Q d M' → Q' d M') : WT X e Γ M Q' := ⟨fun F σ H he hc R hR =>
  h.run F σ H he hc R fun F' H' M' b x y q => hR F' H' M' b x y (hq b M' q)⟩
theorem we_var (i : Nat) {x : Str} {d : D} {Q : D → MM → Prop} (hd : Γ[i]? = some (some d)) (hq : Q d M) (hN : X.N[i]? = some x := by rfl) (hv : Vis X.env.scope x := by first | exact Or.inl rfl | exact Or.inr (Or.inl rfl) | exact Or.inr (Or.inr rfl))
    (hdb : (x == ("__debug__" : Str)) = false := by decide) (hcd : (x == ("__classdict__" : Str)) = false := by decide) : WE X (.Name x pos) Γ M Q := ⟨fun F σ H he hc R hR => by
  obtain ⟨v, h1, h2⟩ := he.get i d hd
  exact ⟨_, pe_var hN hv hdb hcd, v, h1, hR F H M v d (Same.refl F) hc h2 hq⟩⟩
theorem we_int {i : Int} {j} {Q : D → MM → Prop} (hq : Q (.int i) M) : WE X (.Constant (.int i) j pos) Γ M Q := ⟨fun F σ H he hc R hR =>
  ⟨_, pe_int, hR F H M _ _ (Same.refl F) hc (.int i) hq⟩⟩
theorem we_bl {b : Bool} {j} {Q : D → MM → Prop} (hq : Q (.bl b) M) : WE X (.Constant (.bool b) j pos) Γ M Q := ⟨fun F σ H he hc R hR =>
  ⟨_, pe_bl, hR F H M _ _ (Same.refl F) hc (.bl b) hq⟩⟩
theorem we_non {j} {Q : D → MM → Prop} (hq : Q .non M) : WE X (.Constant .none j pos) Γ M Q := ⟨fun F σ H he hc R hR =>
  ⟨_, pe_non, hR F H M _ _ (Same.refl F) hc .non hq⟩⟩
theorem we_str {s : Str} {j} {Q : D → MM → Prop} (hq : Q (.str s) M) : WE X (.Constant (.str s) j pos) Γ M Q := ⟨fun F σ H he hc R hR =>
  ⟨_, pe_str, hR F H M _ _ (Same.refl F) hc (.str s) hq⟩⟩

/-! ### two-place operations -/
abbrev Post (X : Cx) (F : Hp) (Q : D → MM → Prop) (R : VK) : Prop := ∀ (F' H' : Hp) (M' : MM) (w : V) (z : D), Same F F' → Con X.K F' M' H' → Dn X.K F' w z → Q z M' → R w H'
def OpD (X : Cx) (r : R2) (x y : D) (M : MM) (Q : D → MM → Prop) : Prop := ∀ (F H : Hp) (v u : V), Con X.K F M H → Dn X.K F v x → Dn X.K F u y → ∀ R : VK, Post X F Q R → r v u H R
theorem tOp_wp {a b : Expr} {r : R2} {Q : D → MM → Prop} (h : WE X a Γ M fun x M1 => WE X b Γ M1 fun y M2 => OpD X r x y M2 Q) {F : Hp} {σ : L2.St} {H : Hp} (he : EnvOk X.K F Γ σ) (hc : Con X.K F M H) {R : VK}
    (hR : Post X F Q R) : tOp r (wpE X a) (wpE X b) σ H R := by
  refine h.run F σ H he hc _ fun F1 H1 M1 v x e1 c1 d1 h1 => ?_
  refine h1.run F1 σ H1 (he.mono e1) c1 _ fun F2 H2 M2 u y e2 c2 d2 h2 => ?_
  exact h2 F2 H2 v u c2 (d1.mono e2) d2 R fun F3 H3 M3 w z e3 c3 d3 q => hR F3 H3 M3 w z ((e1.trans e2).trans e3) c3 d3 q
theorem we_bin {a b : Expr} {op : Operator} {r : R2} {S : D → D → MM → (D → MM → Prop) → Prop} {Q : D → MM → Prop} (ho : OpR X (binaryOp op) r) (hs : ∀ x y M, S x y M Q → OpD X r x y M Q)
    (h : WE X a Γ M fun x M1 => WE X b Γ M1 fun y M2 => S x y M2 Q) : WE X (.BinOp a op b pos) Γ M Q := ⟨fun F σ H he hc R hR =>
  ⟨_, pe_op ho pe_wp pe_wp, tOp_wp (h.imp fun x M1 h1 => h1.imp fun y M2 h2 => hs x y M2 h2) he hc hR⟩⟩
theorem we_cmpR {a b : Expr} {op : CmpOp} {r : R2} {S : D → D → MM → (D → MM → Prop) → Prop} {Q : D → MM → Prop} (ho : OpR X (compareOp op) r) (hs : ∀ x y M, S x y M Q → OpD X r x y M Q) (hm : behindInMarks op b = false)
    (h : WE X a Γ M fun x M1 => WE X b Γ M1 fun y M2 => S x y M2 Q) : WE X (.Compare a [op] [b] pos) Γ M Q := ⟨fun F σ H he hc R hR =>
  ⟨_, pe_cmpR ho pe_wp pe_wp hm, tOp_wp (h.imp fun x M1 h1 => h1.imp fun y M2 h2 => hs x y M2 h2) he hc hR⟩⟩
/-- a value's bool as a test's answer -/
abbrev asB (Q : Bool → MM → Prop) : D → MM → Prop := fun d M => ∃ b, d = .bl b ∧ Q b M
theorem wt_cmpR {a b : Expr} {op : CmpOp} {r : R2} {S : D → D → MM → (D → MM → Prop) → Prop} {Q : Bool → MM → Prop} (ho : OpR X (compareOp op) r) (hs : ∀ x y M, S x y M (asB Q) → OpD X r x y M (asB Q)) (hm : behindInMarks op b = false)
    (h : WE X a Γ M fun x M1 => WE X b Γ M1 fun y M2 => S x y M2 (asB Q)) : WT X (.Compare a [op] [b] pos) Γ M Q := ⟨fun F σ H he hc R hR => by
  refine ⟨_, pt_cmpR ho pe_wp pe_wp hm, ?_⟩
  show tOp r (wpE X a) (wpE X b) σ H fun x H' => ∃ k, x = .bl k ∧ R k H'
  refine tOp_wp (h.imp fun x M1 h1 => h1.imp fun y M2 h2 => hs x y M2 h2) he hc fun F' H' M' w z e c d ⟨b, hb, q⟩ => ?_
  subst hb
  cases d
  exact ⟨b, rfl, hR F' H' M' b e c q⟩⟩

/-- + -/
@[reducible] def AddQ (x y : D) (M : MM) (Q : D → MM → Prop) : Prop := match x, y with
  | .int i, .int j => Q (.int (i + j)) M
  | .str s, .str t => s.length + t.length ≤ sizeLine ∧ Q (.str (s ++ t)) M
  | .tup xs, .tup ys => xs.length + ys.length ≤ sizeLine ∧ Q (.tup (xs ++ ys)) M
  | .lst xs, .lst ys => xs.length + ys.length ≤ sizeLine ∧ Q (.lst (xs ++ ys)) M
  | _, _ => False
theorem Dns.nil_of {K : PySem.W.Frag} {F : Hp} {vs : List V} {ds : List D} (h : Dns K F vs ds) : vs = [] ↔ ds = [] := by
  cases h with
  | nil => simp
  | cons _ _ => simp
theorem we_add {a b : Expr} {Q : D → MM → Prop} (h : WE X a Γ M fun x M1 => WE X b Γ M1 fun y M2 => AddQ x y M2 Q) : WE X (.BinOp a .Add b pos) Γ M Q := by
  refine we_bin (S := AddQ) (op_add.or (op_add_str.or (op_catA.or op_cat))) (fun x y M hs => ?_) h
  intro F H v u c dv du R hR
  cases dv with
  | int i =>
    cases du with
    | int j => exact .inl ⟨i, j, rfl, rfl, hR F H M _ _ (Same.refl F) c (.int _) hs⟩
    | _ => exact hs.elim
  | str s =>
    cases du with
    | str t => exact .inr (.inl ⟨s, t, rfl, rfl, hs.1, hR F H M _ _ (Same.refl F) c (.str _) hs.2⟩)
    | _ => exact hs.elim
  | @tup a xs ds h1 h2 =>
    cases du with
    | @tup b ys es k1 k2 =>
      have z : ds.length + es.length ≤ sizeLine ∧ Q (.tup (ds ++ es)) M := hs
      refine .inr (.inr (.inl ⟨a, b, xs, ys, rfl, rfl, sqT_mono c.sub h1, sqT_mono c.sub k1, by rw [h2.length, k2.length]; exact z.1, fun q => ?_, fun q1 q2 => ?_, fun q1 q2 p hp => ?_⟩))
      · have e : ds = [] := h2.nil_of.mp q
        subst e
        exact hR F H M _ _ (Same.refl F) c (.tup k1 k2) z.2
      · have e : es = [] := k2.nil_of.mp q2
        subst e
        have z2 := z.2
        rw [List.append_nil] at z2
        exact hR F H M _ _ (Same.refl F) c (.tup h1 h2) z2
      · have s := same_new (o := .tup (xs ++ ys)) (c.sub.free hp)
        exact hR _ _ M _ _ s (c.new hp) (.tup (.inl (.inl upd_same)) ((h2.append k2).mono s)) z.2
    | _ => exact hs.elim
  | @lst a xs ds h1 h2 =>
    cases du with
    | @lst b ys es k1 k2 =>
      have z : ds.length + es.length ≤ sizeLine ∧ Q (.lst (ds ++ es)) M := hs
      refine .inr (.inr (.inr ⟨a, b, xs, ys, rfl, rfl, c.sub _ _ h1, c.sub _ _ k1, by rw [h2.length, k2.length]; exact z.1, fun p hp => ?_⟩))
      have s := same_new (o := .lst (xs ++ ys)) (c.sub.free hp)
      exact hR _ _ M _ _ s (c.new hp) (.lst upd_same ((h2.append k2).mono s)) z.2
    | _ => exact hs.elim
  | _ => cases du <;> exact hs.elim
/-- ints in, under a condition, and a value out -/
theorem we_I {a b : Expr} {op : Operator} {C : Int → Int → Prop} {g : Int → Int → Int} {Q : D → MM → Prop} (ho : OpR X (binaryOp op) (rI C fun i j => .int (g i j)))
    (h : WE X a Γ M fun x M1 => WE X b Γ M1 fun y M2 => ∃ i j, x = .int i ∧ y = .int j ∧ C i j ∧ Q (.int (g i j)) M2) : WE X (.BinOp a op b pos) Γ M Q := by
  refine we_bin (S := fun x y M Q => ∃ i j, x = .int i ∧ y = .int j ∧ C i j ∧ Q (.int (g i j)) M) ho (fun x y M hs => ?_) h
  intro F H v u c dv du R hR
  obtain ⟨i, j, rfl, rfl, hc, q⟩ := hs
  cases dv
  cases du
  exact ⟨i, j, rfl, rfl, hc, hR F H M _ _ (Same.refl F) c (.int _) q⟩
/-- ints in, a condition -/
@[reducible] def IQ (C : Int → Int → Prop) (g : Int → Int → D) (x y : D) (M : MM) (Q : D → MM → Prop) : Prop := match x, y with
  | .int i, .int j => C i j ∧ Q (g i j) M
  | _, _ => False
@[reducible] def I0 (g : Int → Int → D) (x y : D) (M : MM) (Q : D → MM → Prop) : Prop := match x, y with
  | .int i, .int j => Q (g i j) M
  | _, _ => False
theorem opd_I {C : Int → Int → Prop} {g : Int → Int → Int} {x y : D} {Q : D → MM → Prop} (hs : IQ C (fun i j => .int (g i j)) x y M Q) : OpD X (rI C fun i j => .int (g i j)) x y M Q := by
  intro F H v u c dv du R hR
  cases dv with
  | int i =>
    cases du with
    | int j => exact ⟨i, j, rfl, rfl, hs.1, hR F H M _ _ (Same.refl F) c (.int _) hs.2⟩
    | _ => exact hs.elim
  | _ => cases du <;> exact hs.elim
theorem opd_I0 {g : Int → Int → Int} {x y : D} {Q : D → MM → Prop} (hs : I0 (fun i j => .int (g i j)) x y M Q) : OpD X (rI0 fun i j => .int (g i j)) x y M Q := by
  intro F H v u c dv du R hR
  cases dv with
  | int i =>
    cases du with
    | int j => exact ⟨i, j, rfl, rfl, hR F H M _ _ (Same.refl F) c (.int _) hs⟩
    | _ => exact hs.elim
  | _ => cases du <;> exact hs.elim
theorem opd_B0 {g : Int → Int → Bool} {x y : D} {Q : D → MM → Prop} (hs : I0 (fun i j => .bl (g i j)) x y M Q) : OpD X (rI0 fun i j => .bl (g i j)) x y M Q := by
  intro F H v u c dv du R hR
  cases dv with
  | int i =>
    cases du with
    | int j => exact ⟨i, j, rfl, rfl, hR F H M _ _ (Same.refl F) c (.bl _) hs⟩
    | _ => exact hs.elim
  | _ => cases du <;> exact hs.elim
theorem we_sub {a b : Expr} {Q : D → MM → Prop} (h : WE X a Γ M fun x M1 => WE X b Γ M1 fun y M2 => I0 (fun i j => .int (i - j)) x y M2 Q) : WE X (.BinOp a .Sub b pos) Γ M Q :=
  we_bin (S := I0 fun i j => .int (i - j)) op_sub (fun _ _ _ hs => opd_I0 hs) h
theorem we_mul {a b : Expr} {Q : D → MM → Prop} (h : WE X a Γ M fun x M1 => WE X b Γ M1 fun y M2 => IQ CMul (fun i j => .int (i * j)) x y M2 Q) : WE X (.BinOp a .Mult b pos) Γ M Q :=
  we_bin (S := IQ CMul fun i j => .int (i * j)) op_mul (fun _ _ _ hs => opd_I hs) h
theorem we_fdiv {a b : Expr} {Q : D → MM → Prop} (h : WE X a Γ M fun x M1 => WE X b Γ M1 fun y M2 => IQ CDiv (fun i j => .int (i / j)) x y M2 Q) : WE X (.BinOp a .FloorDiv b pos) Γ M Q :=
  we_bin (S := IQ CDiv fun i j => .int (i / j)) op_fdiv (fun _ _ _ hs => opd_I hs) h
theorem we_mod {a b : Expr} {Q : D → MM → Prop} (h : WE X a Γ M fun x M1 => WE X b Γ M1 fun y M2 => IQ (fun _ j => 0 < j) (fun i j => .int (i % j)) x y M2 Q) : WE X (.BinOp a .Mod b pos) Γ M Q :=
  we_bin (S := IQ (fun _ j => 0 < j) fun i j => .int (i % j)) op_mod (fun _ _ _ hs => opd_I hs) h
theorem we_pow {a b : Expr} {Q : D → MM → Prop} (h : WE X a Γ M fun x M1 => WE X b Γ M1 fun y M2 => IQ CPow (fun i j => .int (i ^ j.toNat)) x y M2 Q) : WE X (.BinOp a .Pow b pos) Γ M Q :=
  we_bin (S := IQ CPow fun i j => .int (i ^ j.toNat)) op_pow (fun _ _ _ hs => opd_I hs) h
theorem we_neg {a : Expr} {Q : D → MM → Prop} (h : WE X a Γ M fun x M1 => ∃ i, x = .int i ∧ Q (.int (-i)) M1) : WE X (.UnaryOp .USub a pos) Γ M Q := ⟨fun F σ H he hc R hR => by
  refine ⟨_, pe_un un_neg pe_wp, h.run F σ H he hc _ fun F1 H1 M1 v x e1 c1 d1 h1 => ?_⟩
  obtain ⟨i, rfl, q⟩ := h1
  cases d1
  exact ⟨i, rfl, hR F1 H1 M1 _ _ e1 c1 (.int _) q⟩⟩

/-! ### comparisons -/
theorem we_lt {a b : Expr} {Q : D → MM → Prop} (h : WE X a Γ M fun x M1 => WE X b Γ M1 fun y M2 => I0 (fun i j => .bl (decide (i < j))) x y M2 Q) : WE X (.Compare a [.Lt] [b] pos) Γ M Q :=
  we_cmpR (S := I0 fun i j => .bl (decide (i < j))) op_lt (fun _ _ _ hs => opd_B0 hs) (nomark _) h
theorem we_le {a b : Expr} {Q : D → MM → Prop} (h : WE X a Γ M fun x M1 => WE X b Γ M1 fun y M2 => I0 (fun i j => .bl (decide (i ≤ j))) x y M2 Q) : WE X (.Compare a [.LtE] [b] pos) Γ M Q :=
  we_cmpR (S := I0 fun i j => .bl (decide (i ≤ j))) op_le (fun _ _ _ hs => opd_B0 hs) (nomark _) h
theorem we_gt {a b : Expr} {Q : D → MM → Prop} (h : WE X a Γ M fun x M1 => WE X b Γ M1 fun y M2 => I0 (fun i j => .bl (decide (j < i))) x y M2 Q) : WE X (.Compare a [.Gt] [b] pos) Γ M Q :=
  we_cmpR (S := I0 fun i j => .bl (decide (j < i))) op_gt (fun _ _ _ hs => opd_B0 hs) (nomark _) h
theorem we_ge {a b : Expr} {Q : D → MM → Prop} (h : WE X a Γ M fun x M1 => WE X b Γ M1 fun y M2 => I0 (fun i j => .bl (decide (j ≤ i))) x y M2 Q) : WE X (.Compare a [.GtE] [b] pos) Γ M Q :=
  we_cmpR (S := I0 fun i j => .bl (decide (j ≤ i))) op_ge (fun _ _ _ hs => opd_B0 hs) (nomark _) h
theorem wt_lt {a b : Expr} {Q : Bool → MM → Prop} (h : WE X a Γ M fun x M1 => WE X b Γ M1 fun y M2 => I0 (fun i j => .bl (decide (i < j))) x y M2 (asB Q)) : WT X (.Compare a [.Lt] [b] pos) Γ M Q :=
  wt_cmpR (S := I0 fun i j => .bl (decide (i < j))) op_lt (fun _ _ _ hs => opd_B0 hs) (nomark _) h
theorem wt_le {a b : Expr} {Q : Bool → MM → Prop} (h : WE X a Γ M fun x M1 => WE X b Γ M1 fun y M2 => I0 (fun i j => .bl (decide (i ≤ j))) x y M2 (asB Q)) : WT X (.Compare a [.LtE] [b] pos) Γ M Q :=
  wt_cmpR (S := I0 fun i j => .bl (decide (i ≤ j))) op_le (fun _ _ _ hs => opd_B0 hs) (nomark _) h
theorem wt_gt {a b : Expr} {Q : Bool → MM → Prop} (h : WE X a Γ M fun x M1 => WE X b Γ M1 fun y M2 => I0 (fun i j => .bl (decide (j < i))) x y M2 (asB Q)) : WT X (.Compare a [.Gt] [b] pos) Γ M Q :=
  wt_cmpR (S := I0 fun i j => .bl (decide (j < i))) op_gt (fun _ _ _ hs => opd_B0 hs) (nomark _) h
theorem wt_ge {a b : Expr} {Q : Bool → MM → Prop} (h : WE X a Γ M fun x M1 => WE X b Γ M1 fun y M2 => I0 (fun i j => .bl (decide (j ≤ i))) x y M2 (asB Q)) : WT X (.Compare a [.GtE] [b] pos) Γ M Q :=
  wt_cmpR (S := I0 fun i j => .bl (decide (j ≤ i))) op_ge (fun _ _ _ hs => opd_B0 hs) (nomark _) h
end

/-! ### data as the library's data -/
mutual
def py : D → Option PyData
  | .non => some .none
  | .bl b => some (.bool b)
  | .int i => some (.int i)
  | .str s => some (.str s)
  | .lst ds => (pys ds).map .list
  | .frz ds => (pys ds).map .list
  | .tup ds => (pys ds).map .tuple
  | .raw _ => none
  | .ins _ _ _ => none
def pys : List D → Option (List PyData)
  | [] => some []
  | d :: ds => (py d).bind fun x => (pys ds).map fun xs => x :: xs
end
section
variable {K : PySem.W.Frag} {F H : Hp}
mutual
theorem dp_of (e : Same F H) : ∀ {v : V} {d : D} {q : PyData}, Dn K F v d → py d = some q → Dp K H v q
  | _, _, _, .non, h => by simp only [py] at h; cases h; exact .non
  | _, _, _, .bl b, h => by simp only [py] at h; cases h; exact .bl b
  | _, _, _, .int i, h => by simp only [py] at h; cases h; exact .int i
  | _, _, _, .str s, h => by simp only [py] at h; cases h; exact .str s
  | _, _, _, .lst h1 h2, h => by
    simp only [py] at h
    obtain ⟨qs, e1, rfl⟩ := Option.map_eq_some_iff.mp h
    exact .lst (.inl (.inl (e _ _ h1))) (dps_of e h2 e1)
  | _, _, _, .frz h1 h2, h => by
    simp only [py] at h
    obtain ⟨qs, e1, rfl⟩ := Option.map_eq_some_iff.mp h
    exact .lst (sqL_mono e h1) (dps_of e h2 e1)
  | _, _, _, .tup h1 h2, h => by
    simp only [py] at h
    obtain ⟨qs, e1, rfl⟩ := Option.map_eq_some_iff.mp h
    exact .tup (sqT_mono e h1) (dps_of e h2 e1)
  | _, _, _, .raw _, h => by simp only [py] at h; cases h
  | _, _, _, .ins _ _ _, h => by simp only [py] at h; cases h
theorem dps_of (e : Same F H) : ∀ {vs : List V} {ds : List D} {qs : List PyData}, Dns K F vs ds → pys ds = some qs → DpAll K H vs qs
  | _, _, _, .nil, h => by simp only [pys] at h; cases h; exact .nil
  | _, _, _, .cons h1 h2, h => by
    simp only [pys] at h
    obtain ⟨x, e1, h3⟩ := Option.bind_eq_some_iff.mp h
    obtain ⟨xs, e2, rfl⟩ := Option.map_eq_some_iff.mp h3
    exact .cons (dp_of e h1 e1) (dps_of e h2 e2)
end
end
/-- == as data -/
@[reducible] def EqQ (x y : D) (M : MM) (Q : Bool → MM → Prop) : Prop := match x, y with
  | .int i, .int j => Q (decide (i = j)) M
  | .str s, .str t => Q (decide (s = t)) M
  | .bl a, .bl b => Q (decide (a = b)) M
  | x, y => ∃ p q, py x = some p ∧ py y = some q ∧ SeqAt.shaped p = true ∧ SeqAt.shaped q = true ∧ Q (PyData.eqv p q) M
section
variable {X : Cx} {Γ : G} {M : MM} {pos p : Pos}
theorem opd_eq (f : Bool → Bool) {r : R2} {x y : D} {Q : D → MM → Prop} (h1 : ∀ v u H R, scal v u = true → R (.bl (f (decide (v = u)))) H → r v u H R)
    (h2 : ∀ v u H R, (∃ d e, Dp X.K H v d ∧ Dp X.K H u e ∧ SeqAt.shaped d = true ∧ SeqAt.shaped e = true ∧ R (.bl (f (PyData.eqv d e))) H) → r v u H R)
    (hs : EqQ x y M fun b M => Q (.bl (f b)) M) : OpD X r x y M Q := by
  intro F H v u c dv du R hR
  have deep : (∃ p q, py x = some p ∧ py y = some q ∧ SeqAt.shaped p = true ∧ SeqAt.shaped q = true ∧ Q (.bl (f (PyData.eqv p q))) M) → r v u H R := fun ⟨p, q, a1, a2, a3, a4, a5⟩ =>
    h2 v u H R ⟨p, q, dp_of c.sub dv a1, dp_of c.sub du a2, a3, a4, hR F H M _ _ (Same.refl F) c (.bl _) a5⟩
  cases dv with
  | int i =>
    cases du with
    | int j => exact h1 _ _ H R rfl (by
        have e : decide (V.int i = V.int j) = decide (i = j) := by simp
        rw [e]; exact hR F H M _ _ (Same.refl F) c (.bl _) hs)
    | _ => exact deep hs
  | str s =>
    cases du with
    | str t => exact h1 _ _ H R rfl (by
        have e : decide (V.str s = V.str t) = decide (s = t) := by simp
        rw [e]; exact hR F H M _ _ (Same.refl F) c (.bl _) hs)
    | _ => exact deep hs
  | bl s =>
    cases du with
    | bl t => exact h1 _ _ H R rfl (by
        have e : decide (V.bl s = V.bl t) = decide (s = t) := by simp
        rw [e]; exact hR F H M _ _ (Same.refl F) c (.bl _) hs)
    | _ => exact deep hs
  | _ => cases du <;> exact deep hs
theorem we_eq {a b : Expr} {Q : D → MM → Prop} (hu : X.A.units + 64 < cLine) (h : WE X a Γ M fun x M1 => WE X b Γ M1 fun y M2 => EqQ x y M2 fun b M => Q (.bl b) M) : WE X (.Compare a [.Eq] [b] pos) Γ M Q :=
  we_cmpR (S := fun x y M Q => EqQ x y M fun b M => Q (.bl b) M) (op_eq.or (op_eqD hu)) (fun _ _ _ hs => opd_eq id (fun _ _ _ _ a b => .inl ⟨a, b⟩) (fun _ _ _ _ a => .inr a) hs) (nomark _) h
theorem we_ne {a b : Expr} {Q : D → MM → Prop} (hu : X.A.units + 64 < cLine) (h : WE X a Γ M fun x M1 => WE X b Γ M1 fun y M2 => EqQ x y M2 fun b M => Q (.bl (!b)) M) : WE X (.Compare a [.NotEq] [b] pos) Γ M Q :=
  we_cmpR (S := fun x y M Q => EqQ x y M fun b M => Q (.bl (!b)) M) (op_ne.or (op_neD hu)) (fun _ _ _ hs => opd_eq not (fun _ _ _ _ a b => .inl ⟨a, b⟩) (fun _ _ _ _ a => .inr a) hs) (nomark _) h
theorem EqQ.imp {x y : D} {Q Q' : Bool → MM → Prop} (h : EqQ x y M Q) (hq : ∀ b M, Q b M → Q' b M) : EqQ x y M Q' := by
  unfold EqQ at h ⊢
  split at h
  · exact hq _ _ h
  · exact hq _ _ h
  · exact hq _ _ h
  · obtain ⟨p, q, a1, a2, a3, a4, a5⟩ := h
    exact ⟨p, q, a1, a2, a3, a4, hq _ _ a5⟩
theorem wt_eq {a b : Expr} {Q : Bool → MM → Prop} (hu : X.A.units + 64 < cLine) (h : WE X a Γ M fun x M1 => WE X b Γ M1 fun y M2 => EqQ x y M2 Q) : WT X (.Compare a [.Eq] [b] pos) Γ M Q :=
  wt_cmpR (S := fun x y M Q => EqQ x y M fun b M => Q (.bl b) M) (op_eq.or (op_eqD hu)) (fun _ _ _ hs => opd_eq id (fun _ _ _ _ a b => .inl ⟨a, b⟩) (fun _ _ _ _ a => .inr a) hs) (nomark _)
    (h.imp fun x M1 h1 => h1.imp fun y M2 h2 => h2.imp fun b M q => ⟨b, rfl, q⟩)
theorem wt_ne {a b : Expr} {Q : Bool → MM → Prop} (hu : X.A.units + 64 < cLine) (h : WE X a Γ M fun x M1 => WE X b Γ M1 fun y M2 => EqQ x y M2 fun b M => Q (!b) M) : WT X (.Compare a [.NotEq] [b] pos) Γ M Q :=
  wt_cmpR (S := fun x y M Q => EqQ x y M fun b M => Q (.bl (!b)) M) (op_ne.or (op_neD hu)) (fun _ _ _ hs => opd_eq not (fun _ _ _ _ a b => .inl ⟨a, b⟩) (fun _ _ _ _ a => .inr a) hs) (nomark _)
    (h.imp fun x M1 h1 => h1.imp fun y M2 h2 => h2.imp fun b M q => ⟨!b, rfl, q⟩)
/-- is None -/
@[reducible] def isNon : D → Bool
  | .non => true
  | _ => false
theorem isNon_of {K : PySem.W.Frag} {F : Hp} {v : V} {d : D} (h : Dn K F v d) : decide (v = .non) = isNon d := by
  cases h <;> rfl
theorem we_isN {a : Expr} {j p2} {Q : D → MM → Prop} (h : WE X a Γ M fun x M1 => Q (.bl (isNon x)) M1) : WE X (.Compare a [.Is] [.Constant .none j p2] pos) Γ M Q := ⟨fun F σ H he hc R hR => by
  refine ⟨_, pe_cmpR op_isN pe_wp pe_non (nomark _), h.run F σ H he hc _ fun F1 H1 M1 v x e1 c1 d1 h1 => ?_⟩
  exact ⟨rfl, by rw [isNon_of d1]; exact hR F1 H1 M1 _ _ e1 c1 (.bl _) h1⟩⟩
theorem we_notN {a : Expr} {j p2} {Q : D → MM → Prop} (h : WE X a Γ M fun x M1 => Q (.bl (!isNon x)) M1) : WE X (.Compare a [.IsNot] [.Constant .none j p2] pos) Γ M Q := ⟨fun F σ H he hc R hR => by
  refine ⟨_, pe_cmpR op_notN pe_wp pe_non (nomark _), h.run F σ H he hc _ fun F1 H1 M1 v x e1 c1 d1 h1 => ?_⟩
  exact ⟨rfl, by rw [isNon_of d1]; exact hR F1 H1 M1 _ _ e1 c1 (.bl _) h1⟩⟩
theorem wt_isN {a : Expr} {j p2} {Q : Bool → MM → Prop} (h : WE X a Γ M fun x M1 => Q (isNon x) M1) : WT X (.Compare a [.Is] [.Constant .none j p2] pos) Γ M Q := ⟨fun F σ H he hc R hR => by
  refine ⟨_, pt_cmpR op_isN pe_wp pe_non (nomark _), h.run F σ H he hc _ fun F1 H1 M1 v x e1 c1 d1 h1 => ?_⟩
  exact ⟨rfl, _, rfl, by rw [isNon_of d1]; exact hR F1 H1 M1 _ e1 c1 h1⟩⟩
theorem wt_notN {a : Expr} {j p2} {Q : Bool → MM → Prop} (h : WE X a Γ M fun x M1 => Q (!isNon x) M1) : WT X (.Compare a [.IsNot] [.Constant .none j p2] pos) Γ M Q := ⟨fun F σ H he hc R hR => by
  refine ⟨_, pt_cmpR op_notN pe_wp pe_non (nomark _), h.run F σ H he hc _ fun F1 H1 M1 v x e1 c1 d1 h1 => ?_⟩
  exact ⟨rfl, _, rfl, by rw [isNon_of d1]; exact hR F1 H1 M1 _ e1 c1 h1⟩⟩
end
end DL

set_option Elab.async false
set_option linter.all false
set_option autoImplicit false
set_option maxRecDepth 100000
set_option maxHeartbeats 2000000
namespace DL
open PySem L2

section
variable {X : Cx} {Γ : G} {M : MM} {pos p : Pos}
/-! ### tests -/
theorem wt_val {e : Expr} {Q : Bool → MM → Prop} (h : WE X e Γ M (asB Q)) (he : ∀ whole, isTrue e X.env whole = (do let v ← whole; standAt e.pos; holding [v] (truthy v)) := by intro _; rfl) : WT X e Γ M Q := ⟨fun F σ H ho hc R hR => by
  refine ⟨_, pt_val pe_wp he, h.run F σ H ho hc _ fun F1 H1 M1 v x e1 c1 d1 ⟨b, hb, q⟩ => ?_⟩
  subst hb
  cases d1
  exact ⟨b, rfl, hR F1 H1 M1 b e1 c1 q⟩⟩
theorem wt_not {e : Expr} {Q : Bool → MM → Prop} (h : WT X e Γ M fun b M => Q (!b) M) : WT X (.UnaryOp .Not e pos) Γ M Q := ⟨fun F σ H ho hc R hR =>
  ⟨_, pt_not pt_wp, h.run F σ H ho hc _ fun F1 H1 M1 b e1 c1 q => hR F1 H1 M1 _ e1 c1 q⟩⟩
theorem wt_ww {e : Expr} {Q : Bool → MM → Prop} (h : WW X e Γ M Q) : WT X e Γ M Q := ⟨fun F σ H ho hc R hR => by
  obtain ⟨t, p, q⟩ := h.run F σ H ho hc R hR
  exact ⟨t, p.pt, q⟩⟩
theorem ww_and1 {a : Expr} {Q : Bool → MM → Prop} (h : WT X a Γ M Q) : WW X (.BoolOp .And [a] pos) Γ M Q := ⟨fun F σ H ho hc R hR =>
  ⟨_, pw_and1 pt_wp, h.run F σ H ho hc R hR⟩⟩
theorem ww_or1 {a : Expr} {Q : Bool → MM → Prop} (h : WT X a Γ M Q) : WW X (.BoolOp .Or [a] pos) Γ M Q := ⟨fun F σ H ho hc R hR =>
  ⟨_, pw_or1 pt_wp, h.run F σ H ho hc R hR⟩⟩
theorem ww_and {a b : Expr} {rest : List Expr} {Q : Bool → MM → Prop} (h : WT X a Γ M fun c M1 => (c = true → WW X (.BoolOp .And (b :: rest) pos) Γ M1 Q) ∧ (c = false → Q false M1)) : WW X (.BoolOp .And (a :: b :: rest) pos) Γ M Q := ⟨fun F σ H ho hc R hR => by
  refine ⟨_, pw_and pt_wp pw_wp, h.run F σ H ho hc _ fun F1 H1 M1 c e1 c1 ⟨q1, q2⟩ => ?_⟩
  cases c with
  | true =>
    rw [if_pos rfl]
    exact (q1 rfl).run F1 σ H1 (ho.mono e1) c1 R fun F2 H2 M2 b e2 c2 q => hR F2 H2 M2 b (e1.trans e2) c2 q
  | false =>
    rw [if_neg Bool.false_ne_true]
    exact hR F1 H1 M1 _ e1 c1 (q2 rfl)⟩
theorem ww_or {a b : Expr} {rest : List Expr} {Q : Bool → MM → Prop} (h : WT X a Γ M fun c M1 => (c = true → Q true M1) ∧ (c = false → WW X (.BoolOp .Or (b :: rest) pos) Γ M1 Q)) : WW X (.BoolOp .Or (a :: b :: rest) pos) Γ M Q := ⟨fun F σ H ho hc R hR => by
  refine ⟨_, pw_or pt_wp pw_wp, h.run F σ H ho hc _ fun F1 H1 M1 c e1 c1 ⟨q1, q2⟩ => ?_⟩
  cases c with
  | false =>
    rw [if_neg Bool.false_ne_true]
    exact (q2 rfl).run F1 σ H1 (ho.mono e1) c1 R fun F2 H2 M2 b e2 c2 q => hR F2 H2 M2 b (e1.trans e2) c2 q
  | true =>
    rw [if_pos rfl]
    exact hR F1 H1 M1 _ e1 c1 (q1 rfl)⟩
/-- a chain of two comparisons, as a test and as a value -/
theorem tChain_wp {a b c : Expr} {r r' : R2} {Q : D → MM → Prop} {S S' : D → D → MM → (D → MM → Prop) → Prop} (hs : ∀ x y M Q, S x y M Q → OpD X r x y M Q) (hs' : ∀ x y M, S' x y M Q → OpD X r' x y M Q)
    (h : WE X a Γ M fun x M1 => WE X b Γ M1 fun y M2 => S x y M2 fun k M3 => ∃ t, k = .bl t ∧ (t = true → WE X c Γ M3 fun z M4 => S' y z M4 Q) ∧ (t = false → Q (.bl false) M3)) {F : Hp} {σ : L2.St} {H : Hp} (he : EnvOk X.K F Γ σ) (hc : Con X.K F M H) {R : VK}
    (hR : Post X F Q R) : tChain r r' (wpE X a) (wpE X b) (wpE X c) σ H R := by
  refine h.run F σ H he hc _ fun F1 H1 M1 v x e1 c1 d1 h1 => ?_
  refine h1.run F1 σ H1 (he.mono e1) c1 _ fun F2 H2 M2 u y e2 c2 d2 h2 => ?_
  refine hs _ _ _ _ h2 F2 H2 v u c2 (d1.mono e2) d2 _ fun F3 H3 M3 w z e3 c3 d3 ⟨t, ht, q1, q2⟩ => ?_
  subst ht
  cases d3
  refine ⟨t, rfl, ?_⟩
  cases t with
  | true =>
    rw [if_pos rfl]
    refine (q1 rfl).run F3 σ H3 (he.mono ((e1.trans e2).trans e3)) c3 _ fun F4 H4 M4 w z e4 c4 d4 q => ?_
    exact hs' _ _ _ q F4 H4 u w c4 (d2.mono (e3.trans e4)) d4 R fun F5 H5 M5 w z e5 c5 d5 q => hR F5 H5 M5 w z ((((e1.trans e2).trans e3).trans e4).trans e5) c5 d5 q
  | false =>
    rw [if_neg Bool.false_ne_true]
    exact hR F3 H3 M3 _ _ ((e1.trans e2).trans e3) c3 (.bl false) (q2 rfl)
/-- the comparison's way on ints -/
inductive CmpI : CmpOp → (Int → Int → Bool) → Prop
  | lt : CmpI .Lt fun i j => decide (i < j)
  | le : CmpI .LtE fun i j => decide (i ≤ j)
  | gt : CmpI .Gt fun i j => decide (j < i)
  | ge : CmpI .GtE fun i j => decide (j ≤ i)
theorem CmpI.op {op : CmpOp} {g : Int → Int → Bool} (h : CmpI op g) : OpR X (compareOp op) (rI0 fun i j => .bl (g i j)) := by
  cases h
  · exact op_lt
  · exact op_le
  · exact op_gt
  · exact op_ge
theorem we_chain {a b c : Expr} {op op' : CmpOp} {g g' : Int → Int → Bool} {Q : D → MM → Prop} (k : CmpI op g) (k' : CmpI op' g')
    (h : WE X a Γ M fun x M1 => WE X b Γ M1 fun y M2 => I0 (fun i j => .bl (g i j)) x y M2 fun k M3 => ∃ t, k = .bl t ∧ (t = true → WE X c Γ M3 fun z M4 => I0 (fun i j => .bl (g' i j)) y z M4 Q) ∧ (t = false → Q (.bl false) M3))
    (hm : lastMarks [op, op'] [b, c] = false := by with_unfolding_all rfl) : WE X (.Compare a [op, op'] [b, c] pos) Γ M Q := ⟨fun F σ H he hc R hR =>
  ⟨_, pe_chain k.op k'.op pe_wp pe_wp pe_wp hm, tChain_wp (S := I0 fun i j => .bl (g i j)) (S' := I0 fun i j => .bl (g' i j)) (fun _ _ _ _ hs => opd_B0 hs) (fun _ _ _ hs => opd_B0 hs) h he hc hR⟩⟩
theorem wt_chain {a b c : Expr} {op op' : CmpOp} {g g' : Int → Int → Bool} {Q : Bool → MM → Prop} (k : CmpI op g) (k' : CmpI op' g')
    (h : WE X a Γ M fun x M1 => WE X b Γ M1 fun y M2 => I0 (fun i j => .bl (g i j)) x y M2 fun k M3 => ∃ t, k = .bl t ∧ (t = true → WE X c Γ M3 fun z M4 => I0 (fun i j => .bl (g' i j)) y z M4 (asB Q)) ∧ (t = false → Q false M3))
    (hm : lastMarks [op, op'] [b, c] = false := by with_unfolding_all rfl) : WT X (.Compare a [op, op'] [b, c] pos) Γ M Q := ⟨fun F σ H he hc R hR => by
  refine ⟨_, pt_chain k.op k'.op pe_wp pe_wp pe_wp hm, ?_⟩
  refine tChain_wp (Q := asB Q) (S := I0 fun i j => .bl (g i j)) (S' := I0 fun i j => .bl (g' i j)) (fun _ _ _ _ hs => opd_B0 hs) (fun _ _ _ hs => opd_B0 hs) ?_ he hc fun F' H' M' w z e c d ⟨b, hb, q⟩ => ?_
  · refine h.imp fun x M1 h1 => h1.imp fun y M2 h2 => ?_
    cases x with
    | int i =>
      cases y with
      | int j =>
        obtain ⟨t, ht, q1, q2⟩ : ∃ t, D.bl (g i j) = .bl t ∧ _ ∧ _ := h2
        exact ⟨t, ht, q1, fun ht => ⟨false, rfl, q2 ht⟩⟩
      | _ => exact h2.elim
    | _ => cases y <;> exact h2.elim
  · subst hb
    cases d
    exact ⟨b, rfl, hR F' H' M' b e c q⟩⟩
/-! ### and, or, not as values (bools) -/
theorem we_one {op} {a : Expr} {Q : D → MM → Prop} (h : WE X a Γ M Q) : WE X (.BoolOp op [a] pos) Γ M Q := ⟨fun F σ H he hc R hR => ⟨_, pe_one pe_wp, h.run F σ H he hc R hR⟩⟩
theorem we_and {a b : Expr} {rest : List Expr} {Q : D → MM → Prop} (h : WE X a Γ M fun x M1 => ∃ c, x = .bl c ∧ (c = true → WE X (.BoolOp .And (b :: rest) pos) Γ M1 Q) ∧ (c = false → Q (.bl false) M1)) : WE X (.BoolOp .And (a :: b :: rest) pos) Γ M Q := ⟨fun F σ H he hc R hR => by
  refine ⟨_, pe_and pe_wp pe_wp, h.run F σ H he hc _ fun F1 H1 M1 v x e1 c1 d1 ⟨c, hx, q1, q2⟩ => ?_⟩
  subst hx
  cases d1
  refine ⟨c, rfl, ?_⟩
  cases c with
  | true =>
    rw [if_pos rfl]
    exact (q1 rfl).run F1 σ H1 (he.mono e1) c1 R fun F2 H2 M2 v d e2 c2 d2 q => hR F2 H2 M2 v d (e1.trans e2) c2 d2 q
  | false =>
    rw [if_neg Bool.false_ne_true]
    exact hR F1 H1 M1 _ _ e1 c1 (.bl false) (q2 rfl)⟩
theorem we_or {a b : Expr} {rest : List Expr} {Q : D → MM → Prop} (h : WE X a Γ M fun x M1 => ∃ c, x = .bl c ∧ (c = true → Q (.bl true) M1) ∧ (c = false → WE X (.BoolOp .Or (b :: rest) pos) Γ M1 Q)) : WE X (.BoolOp .Or (a :: b :: rest) pos) Γ M Q := ⟨fun F σ H he hc R hR => by
  refine ⟨_, pe_or pe_wp pe_wp, h.run F σ H he hc _ fun F1 H1 M1 v x e1 c1 d1 ⟨c, hx, q1, q2⟩ => ?_⟩
  subst hx
  cases d1
  refine ⟨c, rfl, ?_⟩
  cases c with
  | false =>
    rw [if_neg Bool.false_ne_true]
    exact (q2 rfl).run F1 σ H1 (he.mono e1) c1 R fun F2 H2 M2 v d e2 c2 d2 q => hR F2 H2 M2 v d (e1.trans e2) c2 d2 q
  | true =>
    rw [if_pos rfl]
    exact hR F1 H1 M1 _ _ e1 c1 (.bl true) (q1 rfl)⟩
theorem we_not {a : Expr} {Q : D → MM → Prop} (h : WE X a Γ M fun x M1 => ∃ c, x = .bl c ∧ Q (.bl (!c)) M1) : WE X (.UnaryOp .Not a pos) Γ M Q := ⟨fun F σ H he hc R hR => by
  refine ⟨_, pe_not pe_wp, h.run F σ H he hc _ fun F1 H1 M1 v x e1 c1 d1 ⟨c, hx, q⟩ => ?_⟩
  subst hx
  cases d1
  exact ⟨c, rfl, hR F1 H1 M1 _ _ e1 c1 (.bl _) q⟩⟩
theorem we_if {c a b : Expr} {Q : D → MM → Prop} (h : WT X c Γ M fun t M1 => (t = true → WE X a Γ M1 Q) ∧ (t = false → WE X b Γ M1 Q)) : WE X (.IfExp c a b pos) Γ M Q := ⟨fun F σ H he hc R hR => by
  refine ⟨_, pe_ifExp pt_wp pe_wp pe_wp, h.run F σ H he hc _ fun F1 H1 M1 t e1 c1 ⟨q1, q2⟩ => ?_⟩
  have hR' : Post X F1 Q R := fun F2 H2 M2 v d e2 c2 d2 q => hR F2 H2 M2 v d (e1.trans e2) c2 d2 q
  cases t with
  | true =>
    rw [if_pos rfl]
    exact (q1 rfl).run F1 σ H1 (he.mono e1) c1 R hR'
  | false =>
    rw [if_neg Bool.false_ne_true]
    exact (q2 rfl).run F1 σ H1 (he.mono e1) c1 R hR'⟩

/-! ### arguments, displays -/
theorem WA.imp {es : List Expr} {Q Q' : List D → MM → Prop} (h : WA X es Γ M Q) (hq : ∀ d M', Q d M' → Q' d M') : WA X es Γ M Q' := ⟨fun F σ H he hc R hR =>
  h.run F σ H he hc R fun F' H' M' v d a b c q => hR F' H' M' v d a b c (hq d M' q)⟩
theorem wa_nil {Q : List D → MM → Prop} (h : Q [] M) : WA X [] Γ M Q := ⟨fun F σ H he hc R hR => ⟨_, pa_nil, hR F H M _ _ (Same.refl F) hc .nil h⟩⟩
theorem wa_cons {e : Expr} {es : List Expr} {Q : List D → MM → Prop} (h : WE X e Γ M fun x M1 => WA X es Γ M1 fun xs M2 => Q (x :: xs) M2) (hs : starEach (e :: es) X.env = (false, eval e X.env) :: starEach es X.env := by rfl) : WA X (e :: es) Γ M Q := ⟨fun F σ H he hc R hR => by
  refine ⟨_, pa_cons pe_wp pa_wp hs, h.run F σ H he hc _ fun F1 H1 M1 v x e1 c1 d1 h1 => ?_⟩
  exact h1.run F1 σ H1 (he.mono e1) c1 _ fun F2 H2 M2 vs xs e2 c2 d2 q => hR F2 H2 M2 _ _ (e1.trans e2) c2 (.cons (d1.mono e2) d2) q⟩
/-- *e among the arguments -/
theorem wa_star {e : Expr} {es : List Expr} {Q : List D → MM → Prop} (h : WE X e Γ M fun x M1 => ∃ ds, (x = .tup ds ∨ x = .lst ds) ∧ WA X es Γ M1 fun xs M2 => Q (ds ++ xs) M2) (hs : starEach (.Starred e p :: es) X.env = (true, eval e X.env) :: starEach es X.env := by rfl) : WA X (.Starred e p :: es) Γ M Q := ⟨fun F σ H he hc R hR => by
  refine ⟨_, StX.pa_star pe_wp pa_wp hs, h.run F σ H he hc _ fun F1 H1 M1 v x e1 c1 d1 ⟨ds, hx, h1⟩ => ?_⟩
  rcases hx with hx | hx
  · subst hx
    cases d1 with
    | @tup a xs _ k1 k2 =>
      exact ⟨a, xs, rfl, .inl (sqT_mono c1.sub k1), h1.run F1 σ H1 (he.mono e1) c1 _ fun F2 H2 M2 vs ys e2 c2 d2 q => hR F2 H2 M2 _ _ (e1.trans e2) c2 ((k2.mono e2).append d2) q⟩
  · subst hx
    cases d1 with
    | @lst a xs _ k1 k2 =>
      exact ⟨a, xs, rfl, .inr (SqL.of (c1.sub _ _ k1)), h1.run F1 σ H1 (he.mono e1) c1 _ fun F2 H2 M2 vs ys e2 c2 d2 q => hR F2 H2 M2 _ _ (e1.trans e2) c2 ((k2.mono e2).append d2) q⟩⟩
theorem we_tup {es : List Expr} {x1} {Q : D → MM → Prop} (h : WA X es Γ M fun ds M1 => ds.length ≤ sizeLine ∧ Q (.tup ds) M1) : WE X (.Tuple es x1 pos) Γ M Q := ⟨fun F σ H he hc R hR => by
  refine ⟨_, pe_tup pa_wp, h.run F σ H he hc _ fun F1 H1 M1 vs ds e1 c1 d1 ⟨z, q⟩ => ⟨by rw [d1.length]; exact z, fun p hp => ?_⟩⟩
  have s := same_new (o := .tup vs) (c1.sub.free hp)
  exact hR _ _ M1 _ _ (e1.trans s) (c1.new hp) (.tup (.inl (.inl upd_same)) (d1.mono s)) q⟩
theorem we_lst {es : List Expr} {Q : D → MM → Prop} (h : WA X es Γ M fun ds M1 => ds.length ≤ sizeLine ∧ Q (.lst ds) M1) : WE X (.List es pos) Γ M Q := ⟨fun F σ H he hc R hR => by
  refine ⟨_, pe_lst pa_wp, h.run F σ H he hc _ fun F1 H1 M1 vs ds e1 c1 d1 ⟨z, q⟩ => ⟨by rw [d1.length]; exact z, fun p hp => ?_⟩⟩
  have s := same_new (o := .lst vs) (c1.sub.free hp)
  exact hR _ _ M1 _ _ (e1.trans s) (c1.new hp) (.lst upd_same (d1.mono s)) q⟩
/-- a list display that may change later -/
theorem we_lstM {es : List Expr} {Q : D → MM → Prop} (h : WA X es Γ M fun ds M1 => ds.length ≤ sizeLine ∧ ∀ a, M1 a = none → Q (.raw a) (mupd M1 a (.lst ds))) : WE X (.List es pos) Γ M Q := ⟨fun F σ H he hc R hR => by
  refine ⟨_, pe_lst pa_wp, h.run F σ H he hc _ fun F1 H1 M1 vs ds e1 c1 d1 ⟨z, q⟩ => ⟨by rw [d1.length]; exact z, fun p hp => ?_⟩⟩
  exact hR F1 _ _ _ _ e1 (c1.newM hp d1) (.raw p) (q p (c1.fresh hp))⟩

/-! ### subscripts -/
@[reducible] def IxQ (x y : D) (M : MM) (Q : D → MM → Prop) : Prop := match x, y with
  | .lst ds, .int i => ∃ d, atI ds i = some d ∧ Q d M
  | .frz ds, .int i => ∃ d, atI ds i = some d ∧ Q d M
  | .tup ds, .int i => ∃ d, atI ds i = some d ∧ Q d M
  | .raw a, .int i => ∃ ds d, M a = some (.lst ds) ∧ atI ds i = some d ∧ Q d M
  | .str s, .int i => s.length ≤ sizeLine ∧ ∃ c, atI s.cps.toList i = some c ∧ Q (.str ⟨#[c]⟩) M
  | _, _ => False
theorem atI_dn {K : PySem.W.Frag} {F : Hp} {vs : List V} {ds : List D} (h : Dns K F vs ds) {i : Int} {d : D} (e : atI ds i = some d) : ∃ v, atI vs i = some v ∧ Dn K F v d := by
  unfold atI at e ⊢
  rw [h.length]
  cases q : ixN ds.length i with
  | none => rw [q] at e; cases e
  | some j =>
    rw [q] at e
    exact h.get e
theorem we_ix {a b : Expr} {Q : D → MM → Prop} (h : WE X a Γ M fun x M1 => WE X b Γ M1 fun y M2 => IxQ x y M2 Q) (hp : PlainIx b := by exact fun _ _ => rfl) : WE X (.Subscript a b pos) Γ M Q := ⟨fun F σ H he hc R hR => by
  refine ⟨_, pe_ix ix_seq pe_wp pe_wp hp, tOp_wp (h.imp fun x M1 h1 => h1.imp fun y M2 h2 => ?_) he hc hR⟩
  intro F H v u c dv du R hR
  cases dv with
  | @lst a xs ds k1 k2 =>
    cases du with
    | int i =>
      obtain ⟨d, e, q⟩ : ∃ d, atI ds i = some d ∧ Q d M2 := h2
      obtain ⟨w, e2, dw⟩ := atI_dn k2 e
      exact .inl ⟨a, xs, i, w, rfl, rfl, SqL.of (c.sub _ _ k1), e2, hR F H M2 _ _ (Same.refl F) c dw q⟩
    | _ => exact h2.elim
  | @frz a xs ds k1 k2 =>
    cases du with
    | int i =>
      obtain ⟨d, e, q⟩ : ∃ d, atI ds i = some d ∧ Q d M2 := h2
      obtain ⟨w, e2, dw⟩ := atI_dn k2 e
      exact .inl ⟨a, xs, i, w, rfl, rfl, sqL_mono c.sub k1, e2, hR F H M2 _ _ (Same.refl F) c dw q⟩
    | _ => exact h2.elim
  | @tup a xs ds k1 k2 =>
    cases du with
    | int i =>
      obtain ⟨d, e, q⟩ : ∃ d, atI ds i = some d ∧ Q d M2 := h2
      obtain ⟨w, e2, dw⟩ := atI_dn k2 e
      exact .inr (.inl ⟨a, xs, i, w, rfl, rfl, sqT_mono c.sub k1, e2, hR F H M2 _ _ (Same.refl F) c dw q⟩)
    | _ => exact h2.elim
  | raw a =>
    cases du with
    | int i =>
      obtain ⟨ds, d, hM, e, q⟩ : ∃ ds d, M2 a = some (.lst ds) ∧ atI ds i = some d ∧ Q d M2 := h2
      obtain ⟨xs, k1, k2⟩ := c.lst hM
      obtain ⟨w, e2, dw⟩ := atI_dn k2 e
      exact .inl ⟨a, xs, i, w, rfl, rfl, SqL.of k1, e2, hR F H M2 _ _ (Same.refl F) c dw q⟩
    | _ => exact h2.elim
  | str s =>
    cases du with
    | int i =>
      obtain ⟨z, cc, e, q⟩ : s.length ≤ sizeLine ∧ ∃ c, atI s.cps.toList i = some c ∧ Q (.str ⟨#[c]⟩) M2 := h2
      exact .inr (.inr ⟨s, i, cc, rfl, rfl, z, e, hR F H M2 _ _ (Same.refl F) c (.str _) q⟩)
    | _ => exact h2.elim
  | _ => cases du <;> exact h2.elim⟩
/-- lo:hi of data -/
def cutD (xs : List D) (lo hi : Option Int) : List D := (xs.drop (HT.sIx xs.length 0 lo)).take (HT.sIx xs.length xs.length hi - HT.sIx xs.length 0 lo)
theorem Dns.cut {K : PySem.W.Frag} {F : Hp} {vs : List V} {ds : List D} (h : Dns K F vs ds) (lo hi : Option Int) : Dns K F (cutV vs lo hi) (cutD ds lo hi) := by
  unfold cutV cutD
  rw [h.length]
  exact (h.drop _).take _
theorem cutD_whole {ds : List D} {lo hi : Option Int} (h : HT.sIx ds.length 0 lo = 0 ∧ HT.sIx ds.length ds.length hi = ds.length) : cutD ds lo hi = ds := by
  unfold cutD
  rw [h.1, h.2]
  simp
structure WO (X : Cx) (e : Option Expr) (Γ : G) (M : MM) (Q : Option Int → MM → Prop) : Prop where
  run : ∀ (F : Hp) (σ : L2.St) (H : Hp), EnvOk X.K F Γ σ → Con X.K F M H → ∀ R : Option Int → Hp → Prop, (∀ (F' H' : Hp) (M' : MM) (o : Option Int), Same F F' → Con X.K F' M' H' → Q o M' → R o H') → ∃ t, PO X e t ∧ t σ H R
theorem WO.imp {e : Option Expr} {Q Q' : Option Int → MM → Prop} (h : WO X e Γ M Q) (hq : ∀ d M', Q d M' → Q' d M') : WO X e Γ M Q' := ⟨fun F σ H he hc R hR =>
  h.run F σ H he hc R fun F' H' M' o a b q => hR F' H' M' o a b (hq o M' q)⟩
theorem wo_none {Q : Option Int → MM → Prop} (h : Q none M) : WO X none Γ M Q := ⟨fun F σ H he hc R hR => ⟨_, po_none, hR F H M _ (Same.refl F) hc h⟩⟩
theorem wo_some {e : Expr} {Q : Option Int → MM → Prop} (h : WE X e Γ M fun x M1 => ∃ i, x = .int i ∧ Q (some i) M1) : WO X (some e) Γ M Q := ⟨fun F σ H he hc R hR => by
  refine ⟨_, po_some pe_wp, h.run F σ H he hc _ fun F1 H1 M1 v x e1 c1 d1 ⟨i, hx, q⟩ => ?_⟩
  subst hx
  cases d1
  exact ⟨i, rfl, hR F1 H1 M1 _ e1 c1 q⟩⟩
def wpO (X : Cx) (e : Option Expr) : TO := fun σ H Q => ∃ t, PO X e t ∧ t σ H Q
theorem po_wp {e : Option Expr} : PO X e (wpO X e) := ⟨fun pins s σ H Q I ⟨_, p, h⟩ => p.run pins s σ H Q I h⟩
@[reducible] def SlQ (x : D) (lo hi : Option Int) (M : MM) (Q : D → MM → Prop) : Prop := match x with
  | .lst ds => Q (.lst (cutD ds lo hi)) M
  | .frz ds => Q (.lst (cutD ds lo hi)) M
  | .tup ds => Q (.tup (cutD ds lo hi)) M
  | .str s => s.length ≤ sizeLine ∧ Q (.str (Txt.slice s lo hi)) M
  | .raw a => ∃ ds, M a = some (.lst ds) ∧ Q (.lst (cutD ds lo hi)) M
  | _ => False
theorem we_slice {a : Expr} {lo hi : Option Expr} {p2 : Pos} {Q : D → MM → Prop} (h : WE X a Γ M fun x M1 => WO X lo Γ M1 fun l M2 => WO X hi Γ M2 fun u M3 => SlQ x l u M3 Q) : WE X (.Subscript a (.Slice lo hi none p2) pos) Γ M Q := ⟨fun F σ H he hc R hR => by
  refine ⟨_, pe_slice (sl_list.or (sl_tupA.or C8.sl_txt)) pe_wp po_wp po_wp, ?_⟩
  refine h.run F σ H he hc _ fun F1 H1 M1 v x e1 c1 d1 h1 => ?_
  refine h1.run F1 σ H1 (he.mono e1) c1 _ fun F2 H2 M2 l e2 c2 h2 => ?_
  refine h2.run F2 σ H2 (he.mono (e1.trans e2)) c2 _ fun F3 H3 M3 u e3 c3 h3 => ?_
  have d3 := d1.mono (e2.trans e3)
  have e13 : Same F F3 := (e1.trans e2).trans e3
  cases d3 with
  | @lst a xs ds k1 k2 =>
    refine .inl ⟨a, xs, rfl, SqL.of (c3.sub _ _ k1), fun p hp => ?_⟩
    have s := same_new (o := .lst (cutV xs l u)) (c3.sub.free hp)
    exact hR _ _ M3 _ _ (e13.trans s) (c3.new hp) (.lst upd_same ((k2.cut l u).mono s)) h3
  | @frz a xs ds k1 k2 =>
    refine .inl ⟨a, xs, rfl, sqL_mono c3.sub k1, fun p hp => ?_⟩
    have s := same_new (o := .lst (cutV xs l u)) (c3.sub.free hp)
    exact hR _ _ M3 _ _ (e13.trans s) (c3.new hp) (.lst upd_same ((k2.cut l u).mono s)) h3
  | raw a =>
    obtain ⟨ds, hM, q⟩ : ∃ ds, M3 a = some (.lst ds) ∧ Q (.lst (cutD ds l u)) M3 := h3
    obtain ⟨xs, k1, k2⟩ := c3.lst hM
    refine .inl ⟨a, xs, rfl, SqL.of k1, fun p hp => ?_⟩
    have s := same_new (o := .lst (cutV xs l u)) (c3.sub.free hp)
    exact hR _ _ M3 _ _ (e13.trans s) (c3.new hp) (.lst upd_same ((k2.cut l u).mono s)) q
  | @tup a xs ds k1 k2 =>
    refine .inr (.inl ⟨a, xs, rfl, sqT_mono c3.sub k1, fun hw => ?_, fun hw p hp => ?_⟩)
    · rw [k2.length] at hw
      have z : Q (.tup (cutD ds l u)) M3 := h3
      rw [cutD_whole hw] at z
      exact hR F3 H3 M3 _ _ e13 c3 (.tup k1 k2) z
    · have s := same_new (o := .tup (cutV xs l u)) (c3.sub.free hp)
      exact hR _ _ M3 _ _ (e13.trans s) (c3.new hp) (.tup (.inl (.inl upd_same)) ((k2.cut l u).mono s)) h3
  | str s =>
    obtain ⟨z, q⟩ : s.length ≤ sizeLine ∧ Q (.str (Txt.slice s l u)) M3 := h3
    exact .inr (.inr ⟨s, rfl, z, hR F3 H3 M3 _ _ e13 c3 (.str _) q⟩)
  | _ => exact h3.elim⟩
end
end DL

set_option Elab.async false
set_option linter.all false
set_option autoImplicit false
set_option maxRecDepth 100000
set_option maxHeartbeats 2000000
namespace DL
open PySem L2

/-! ### what a def promises, over data -/
abbrev RD := List D → MM → (D → MM → Prop) → Prop
def SpD (K : PySem.W.Frag) (R : RD) : Sp := fun vs H Q _ => ∃ (F : Hp) (ds : List D) (M : MM) (Qd : D → MM → Prop), Con K F M H ∧ Dns K F vs ds ∧ R ds M Qd ∧
  ∀ (F' H' : Hp) (M' : MM) (v : V) (d : D), Same F F' → Con K F' M' H' → Dn K F' v d → Qd d M' → Q v H'
def startD (N : List Str) (ds : List D) : G := ds.map some ++ List.replicate (N.length - ds.length) none
theorem start_ok {K : PySem.W.Frag} {F : Hp} {N : List Str} {vs : List V} {ds : List D} (h : Dns K F vs ds) : EnvOk K F (startD N ds) (L2.start N vs) := by
  have hl := h.length
  refine ⟨by unfold L2.start startD; simp [hl], fun i d e => ?_⟩
  unfold startD at e
  unfold L2.start
  by_cases hi : i < ds.length
  · rw [List.getElem?_append_left (by simpa using hi), List.getElem?_map] at e
    cases q : ds[i]? with
    | none => rw [q] at e; cases e
    | some x =>
      rw [q] at e
      cases e
      obtain ⟨v, h1, h2⟩ := h.get q
      refine ⟨v, ?_, h2⟩
      rw [List.getElem?_append_left (by simp [hl]; exact hi), List.getElem?_map, h1]
      rfl
  · rw [List.getElem?_append_right (by simpa using hi), List.getElem?_replicate] at e
    split at e <;> cases e
section
variable {P : Program} {w : World} {K : PySem.W.Frag} {mg : Str → Option Value} {base : Heap}
/-- THE RULE for a def -/
theorem fn_ok {x qual : Str} {st : Stmt} {f : Addr} {fd : FuncData} {N ps : List Str} {k : Nat} {R : RD} (F : Fun K x qual st f fd) (S : FnScope N ps (defScope st)) (len : ∀ ds M Q, R ds M Q → ds.length = ps.length)
    (hbody : ∀ (cdv : Value) (A : Around) (outer : List Env) (s : Shared) (H : Hp) (E : XK), Room k (A.deeper (PyProof.Rows.envOfC qual (defScope st) s.heap.objs.size f cdv)) → ∀ (ds : List D) (M : MM) (Q : D → MM → Prop), R ds M Q →
      WS (cxOf CX0 P w K mg base N qual (defScope st) f cdv A outer s H E).nox (defBody st) (startD N ds) M { nx := fun _ M' => Q .non M', rt := Q }) : FnOk P w K mg base CX0 (k + 1) f fd ps (SpD K R) := by
  refine F.ok S (fun vs H Q E ⟨F, ds, M, Qd, c, d, r, _⟩ => d.length.trans (len ds M Qd r)) fun cdv A outer s H vs Q E hr ⟨F, ds, M, Qd, c, d, r, hq⟩ => ?_
  exact (hbody cdv A outer s H E hr ds M Qd r).run F (L2.start N vs) H (start_ok d) c _
    ⟨fun F' σ' H' Γ' M' e _ c' q => hq F' H' M' .non .non e c' .non q, fun F' H' M' v d e c' dv q => hq F' H' M' v d e c' dv q, fun _ _ _ _ _ _ _ _ h => h.elim, fun _ _ _ _ _ _ _ _ h => h.elim⟩
/-- a weaker promise -/
theorem SpD.imp {R R' : RD} (h : ∀ ds M Q, R' ds M Q → R ds M Q) : ∀ vs H Q E, SpD K R' vs H Q E → SpD K R vs H Q E := fun vs H Q E ⟨F, ds, M, Qd, a, b, c, d⟩ => ⟨F, ds, M, Qd, a, b, h _ _ _ c, d⟩

/-- a def that may be called by its name -/
structure Cal (P : Program) (w : World) (K : PySem.W.Frag) (mg : Str → Option Value) (base : Heap) (k : Nat) (x : Str) (R : RD) : Prop where
  ex : ∃ (f : Addr) (fd : FuncData) (ps : List Str), FnOk P w K mg base CX0 k f fd ps (SpD K R) ∧ mg x = some (.ref f) ∧ PySem.W.keepIn K (.ref f) = true ∧ Binds K fd ps []
/-- a method, found at the class C -/
structure Met (P : Program) (w : World) (K : PySem.W.Frag) (mg : Str → Option Value) (base : Heap) (k : Nat) (C : Addr) (m : Str) (R : RD) : Prop where
  ex : ∃ (f : Addr) (fd : FuncData) (ps : List Str), Cls K C ∧ Meth K C m f ∧ FnOk P w K mg base CX0 k f fd ps (SpD K R) ∧ Binds K fd ps []
/-- a property of the class at C -/
structure Prp (P : Program) (w : World) (K : PySem.W.Frag) (mg : Str → Option Value) (base : Heap) (k : Nat) (C : Addr) (m : Str) (R : RD) : Prop where
  ex : ∃ (p g : Addr) (fd : FuncData) (ps : List Str), Cls K C ∧ PropOf K C m p g ∧ FnOk P w K mg base CX0 k g fd ps (SpD K R) ∧ Binds K fd ps []
/-- a class that may be made by its name; R: its __init__, the new instance first -/
structure Mak (P : Program) (w : World) (K : PySem.W.Frag) (mg : Str → Option Value) (base : Heap) (k : Nat) (x : Str) (C : Addr) (R : RD) : Prop where
  ex : ∃ (f : Addr) (fd : FuncData) (ps : List Str), Mk K C f ∧ FnOk P w K mg base CX0 k f fd ps (SpD K R) ∧ mg x = some (.ref C) ∧ Binds K fd ps []
end

section
variable {X : Cx} {Γ : G} {M : MM} {pos p apos : Pos} {k j : Nat} {x m : Str} {R : RD}
theorem we_call {e : Expr} {es : List Expr} {Q : D → MM → Prop} (c : Cal X.prog X.w X.K X.mg X.base k x R) (hr : Room j X.A) (hk : k ≤ j) (h : WA X (e :: es) Γ M fun ds M1 => R ds M1 Q) (hg : Gl X x := by rfl)
    (hdb : (x == ("__debug__" : Str)) = false := by decide) (he : starEach (e :: es) X.env = (false, eval e X.env) :: starEach es X.env := by rfl) (hpl : (backTo pos (starEach es X.env)).any (·.1) = false := by rfl) :
    WE X (.Call (.Name x p) (e :: es) [] pos) Γ M Q := ⟨fun F σ H ho hc W hR => by
  obtain ⟨f, fd, ps, G, hm, kp, b⟩ := c.ex
  refine ⟨_, pe_call G (hr.mono hk) hg hm kp b .nil (L2.pass0 (X := X)) pa_wp hdb he hpl, h.run F σ H ho hc _ fun F1 H1 M1 vs ds e1 c1 d1 h1 => ?_⟩
  rw [List.append_nil]
  exact ⟨F1, ds, M1, Q, c1, d1, h1, fun F2 H2 M2 v d e2 c2 d2 q => hR F2 H2 M2 v d (e1.trans e2) c2 d2 q⟩⟩
theorem we_call0 {Q : D → MM → Prop} (c : Cal X.prog X.w X.K X.mg X.base k x R) (hr : Room j X.A) (hk : k ≤ j) (h : R [] M Q) (hg : Gl X x := by rfl)
    (hdb : (x == ("__debug__" : Str)) = false := by decide) : WE X (.Call (.Name x p) [] [] pos) Γ M Q := ⟨fun F σ H ho hc W hR => by
  obtain ⟨f, fd, ps, G, hm, kp, b⟩ := c.ex
  refine ⟨_, pe_call0 G (hr.mono hk) hg hm kp b .nil (L2.pass0 (X := X)) hdb, ?_⟩
  exact ⟨F, [], M, Q, hc, .nil, h, fun F2 H2 M2 v d e2 c2 d2 q => hR F2 H2 M2 v d e2 c2 d2 q⟩⟩
/-- the object, a class's instance that may change or stays, of which m is no attribute -/
def InsOf (M : MM) (C : Addr) (m : Str) : D → Prop
  | .raw a => ∃ ns ds, M a = some (.ins C ns ds) ∧ m ∉ ns
  | .ins C' ns _ => C' = C ∧ m ∉ ns
  | _ => False
theorem lookup_none_of {β : Type} {fs : List (Str × β)} {m : Str} (h : m ∉ fs.map (·.1)) : fs.lookup m = none := by
  induction fs with
  | nil => rfl
  | cons p fs ih =>
    obtain ⟨k, v⟩ := p
    simp only [List.map_cons, List.mem_cons, not_or] at h
    rw [List.lookup_cons]
    have e : (m == k) = false := by simpa using h.1
    rw [e]
    exact ih h.2
theorem InsOf.at {K : PySem.W.Frag} {F H : Hp} {C : Addr} {v : V} {d : D} (c : Con K F M H) (dv : Dn K F v d) (h : InsOf M C m d) : ∃ a dx fs, v = .ref a ∧ H a = some (.ins C dx fs) ∧ fs.lookup m = none := by
  cases dv with
  | raw a =>
    obtain ⟨ns, ds, hM, hm⟩ := h
    obtain ⟨_, dx, fs, h1, _, _, h4, _⟩ := c.chg a _ hM
    subst h4
    exact ⟨a, dx, fs, rfl, h1, lookup_none_of hm⟩
  | @ins a C' dx fs ns ds h1 h2 h3 =>
    obtain ⟨e, hm⟩ := h
    subst e
    subst h2
    exact ⟨a, dx, fs, rfl, c.sub _ _ h1, lookup_none_of hm⟩
  | _ => exact h.elim
theorem we_meth {C : Addr} {o e : Expr} {es : List Expr} {pl : Sem Bool} {Q : D → MM → Prop} (c : Met X.prog X.w X.K X.mg X.base k C m R) (hr : Room j X.A) (hk : k ≤ j)
    (h : WE X o Γ M fun x M1 => InsOf M1 C m x ∧ WA X (e :: es) Γ M1 fun ds M2 => R (x :: ds) M2 Q)
    (hst : starEach (e :: es) X.env = (false, eval e X.env) :: starEach es X.env := by rfl) (hpl : (backTo pos (starEach es X.env)).any (·.1) = false := by rfl)
    (ht : eval (.Call (.Attribute o m apos) (e :: es) [] pos) X.env = (do
      let ov ← eval o X.env
      standAt apos.atName
      let (f, first) ← holding [ov] (getMethod ov m pl)
      callWith pos f first (backTo pos (starEach (e :: es) X.env)) (backToKw pos (keywordEach [] X.env))) := by rfl) :
    WE X (.Call (.Attribute o m apos) (e :: es) [] pos) Γ M Q := ⟨fun F σ H ho hc W hR => by
  obtain ⟨f, fd, ps, hcl, hm, G, b⟩ := c.ex
  refine ⟨_, pe_meth (pl := pl) pe_wp hcl hm G (hr.mono hk) b .nil (L2.pass0 (X := X)) pa_wp hst hpl ht, h.run F σ H ho hc _ fun F1 H1 M1 v x e1 c1 d1 ⟨hi, h1⟩ => ?_⟩
  obtain ⟨a, dx, fs, rfl, ha, hl⟩ := hi.at c1 d1
  refine ⟨a, dx, fs, rfl, ha, hl, h1.run F1 σ H1 (ho.mono e1) c1 _ fun F2 H2 M2 vs ds e2 c2 d2 q => ?_⟩
  rw [List.append_nil]
  exact ⟨F2, x :: ds, M2, Q, c2, .cons (d1.mono e2) d2, q, fun F3 H3 M3 v d e3 c3 d3 q => hR F3 H3 M3 v d ((e1.trans e2).trans e3) c3 d3 q⟩⟩
theorem we_meth0 {C : Addr} {o : Expr} {pl : Sem Bool} {Q : D → MM → Prop} (c : Met X.prog X.w X.K X.mg X.base k C m R) (hr : Room j X.A) (hk : k ≤ j)
    (h : WE X o Γ M fun x M1 => InsOf M1 C m x ∧ R [x] M1 Q)
    (ht : eval (.Call (.Attribute o m apos) [] [] pos) X.env = (do
      let ov ← eval o X.env
      standAt apos.atName
      let (f, first) ← holding [ov] (getMethod ov m pl)
      callWith pos f first (backTo pos (starEach [] X.env)) (backToKw pos (keywordEach [] X.env))) := by rfl) :
    WE X (.Call (.Attribute o m apos) [] [] pos) Γ M Q := ⟨fun F σ H ho hc W hR => by
  obtain ⟨f, fd, ps, hcl, hm, G, b⟩ := c.ex
  refine ⟨_, pe_meth0 (pl := pl) pe_wp hcl hm G (hr.mono hk) b .nil (L2.pass0 (X := X)) ht, h.run F σ H ho hc _ fun F1 H1 M1 v x e1 c1 d1 ⟨hi, h1⟩ => ?_⟩
  obtain ⟨a, dx, fs, rfl, ha, hl⟩ := hi.at c1 d1
  exact ⟨a, dx, fs, rfl, ha, hl, F1, [x], M1, Q, c1, .cons d1 .nil, h1, fun F3 H3 M3 v d e3 c3 d3 q => hR F3 H3 M3 v d (e1.trans e3) c3 d3 q⟩⟩
/-- e.f, a property -/
theorem we_prop {C : Addr} {o : Expr} {Q : D → MM → Prop} (c : Prp X.prog X.w X.K X.mg X.base k C m R) (hr : Room j X.A) (hk : k + 1 ≤ j) (h : WE X o Γ M fun x M1 => InsOf M1 C m x ∧ R [x] M1 Q)
    (hab : attributeBase o m X.env (eval o X.env) = eval o X.env := by rfl) : WE X (.Attribute o m pos) Γ M Q := ⟨fun F σ H ho hc W hR => by
  obtain ⟨pp, g, fd, ps, hcl, hm, G, b⟩ := c.ex
  refine ⟨_, pe_prop pe_wp hcl hm G (hr.mono hk) b .nil (L2.pass0 (X := X.nox)) hab, h.run F σ H ho hc _ fun F1 H1 M1 v x e1 c1 d1 ⟨hi, h1⟩ => ?_⟩
  obtain ⟨a, dx, fs, rfl, ha, hl⟩ := hi.at c1 d1
  exact ⟨a, dx, fs, rfl, ha, F1, [x], M1, Q, c1, .cons d1 .nil, h1, fun F3 H3 M3 v d e3 c3 d3 q => hR F3 H3 M3 v d (e1.trans e3) c3 d3 q⟩⟩
/-- C(..): __init__ at the new instance, which may change -/
theorem we_make {C : Addr} {e : Expr} {es : List Expr} {Q : D → MM → Prop} (c : Mak X.prog X.w X.K X.mg X.base k x C R) (hr : Room j X.A) (hk : k + 1 ≤ j)
    (h : WA X (e :: es) Γ M fun ds M1 => ∀ a, M1 a = none → R (.raw a :: ds) (mupd M1 a (.ins C [] [])) fun d M2 => d = .non ∧ Q (.raw a) M2) (hg : Gl X x := by rfl)
    (hdb : (x == ("__debug__" : Str)) = false := by decide) (he : starEach (e :: es) X.env = (false, eval e X.env) :: starEach es X.env := by rfl) (hpl : (backTo pos (starEach es X.env)).any (·.1) = false := by rfl) :
    WE X (.Call (.Name x p) (e :: es) [] pos) Γ M Q := ⟨fun F σ H ho hc W hR => by
  obtain ⟨f, fd, ps, hmk, G, hm, b⟩ := c.ex
  refine ⟨_, pe_make hmk G (hr.mono hk) hg hm b .nil (L2.pass0 (X := X)) pa_wp hdb he hpl, h.run F σ H ho hc _ fun F1 H1 M1 vs ds e1 c1 d1 h1 => ?_⟩
  intro a dx na nd ne
  rw [List.append_nil]
  have cA : Con X.K F1 M1 (upd H1 dx (.own a)) := c1.newH nd
  have na' : (upd H1 dx (.own a)) a = none := by rw [upd_ne (Ne.symm ne)]; exact na
  have cB : Con X.K F1 M1 (upd (upd H1 dx (.own a)) a (.ins C dx [])) := cA.newH na'
  have hMa : M1 a = none := c1.fresh na
  have cC : Con X.K F1 (mupd M1 a (.ins C [] [])) (upd (upd H1 dx (.own a)) a (.ins C dx [])) := by
    refine ⟨cB.sub, fun b m e => ?_⟩
    by_cases hb : b = a
    · subst hb; rw [mupd_same] at e; cases e
      exact ⟨c1.sub.free na, dx, [], upd_same, by rw [upd_ne ne]; exact upd_same, c1.sub.free nd, rfl, .nil⟩
    · rw [mupd_ne hb] at e
      exact cB.chg b m e
  refine ⟨F1, .raw a :: ds, _, _, cC, .cons (.raw a) d1, h1 a hMa, fun F2 H2 M2 v d e2 c2 d2 ⟨hd, q⟩ => ?_⟩
  subst hd
  cases d2
  exact ⟨rfl, hR F2 H2 M2 _ _ (e1.trans e2) c2 (.raw a) q⟩⟩
end
end DL

set_option Elab.async false
set_option linter.all false
set_option autoImplicit false
set_option maxRecDepth 100000
set_option maxHeartbeats 2000000
namespace DL
open PySem L2

section
variable {X : Cx} {Γ : G} {M : MM} {Φ : Fi} {pos p : Pos} {rest : List Stmt}
/-! ### statements -/
theorem ws_nil (h : Φ.nx Γ M) : WS X [] Γ M Φ := ⟨fun F σ H he hc E hE => ⟨_, pss_nil, hE.nx F σ H Γ M (Same.refl F) he hc h⟩⟩
theorem WS.imp {sts : List Stmt} {Φ' : Fi} (h : WS X sts Γ M Φ) (h1 : ∀ Γ M, Φ.nx Γ M → Φ'.nx Γ M) (h2 : ∀ d M, Φ.rt d M → Φ'.rt d M) (h3 : ∀ Γ M, Φ.bk Γ M → Φ'.bk Γ M) (h4 : ∀ Γ M, Φ.ct Γ M → Φ'.ct Γ M) : WS X sts Γ M Φ' := ⟨fun F σ H he hc E hE =>
  h.run F σ H he hc E ⟨fun F' σ' H' Γ' M' a b c q => hE.nx F' σ' H' Γ' M' a b c (h1 _ _ q), fun F' H' M' v d a b c q => hE.rt F' H' M' v d a b c (h2 _ _ q), fun F' σ' H' Γ' M' a b c q => hE.bk F' σ' H' Γ' M' a b c (h3 _ _ q), fun F' σ' H' Γ' M' a b c q => hE.ct F' σ' H' Γ' M' a b c (h4 _ _ q)⟩⟩
theorem ws_ret {e : Expr} (h : WE X e Γ M Φ.rt) : WS X (.Return (some e) pos :: rest) Γ M Φ := ⟨fun F σ H he hc E hE =>
  ⟨_, pss_cons (ps_ret pe_wp) pss_never, h.run F σ H he hc _ fun F' H' M' v d a b c q => hE.rt F' H' M' v d a b c q⟩⟩
theorem ws_retN (h : Φ.rt .non M) : WS X (.Return none pos :: rest) Γ M Φ := ⟨fun F σ H he hc E hE =>
  ⟨_, pss_cons ps_retN pss_never, hE.rt F H M .non .non (Same.refl F) hc .non h⟩⟩
theorem ws_expr {e : Expr} (h : WE X e Γ M fun _ M1 => WS X rest Γ M1 Φ) (hs : swapsWith e none pos.line X.env = pure false := by rfl) : WS X (.Expr e pos :: rest) Γ M Φ := ⟨fun F σ H he hc E hE =>
  ⟨_, pss_cons (ps_expr pe_wp hs) pss_wp, h.run F σ H he hc _ fun F' H' M' v d a b c q => q.run F' σ H' (he.mono a) b E (hE.mono a)⟩⟩
theorem ws_pass (h : WS X rest Γ M Φ) : WS X (.Pass pos :: rest) Γ M Φ := ⟨fun F σ H he hc E hE => ⟨_, pss_cons ps_pass pss_wp, h.run F σ H he hc E hE⟩⟩
theorem ws_break (h : Φ.bk Γ M) : WS X (.Break pos :: rest) Γ M Φ := ⟨fun F σ H he hc E hE => ⟨_, pss_cons ps_break pss_never, hE.bk F σ H Γ M (Same.refl F) he hc h⟩⟩
theorem ws_continue (h : Φ.ct Γ M) : WS X (.Continue pos :: rest) Γ M Φ := ⟨fun F σ H he hc E hE => ⟨_, pss_cons ps_continue pss_never, hE.ct F σ H Γ M (Same.refl F) he hc h⟩⟩
/-- behind a statement the rest -/
theorem ends_seq {F : Hp} {E : Ends} (hE : EndsOk X.K F Φ E) : EndsOk X.K F { Φ with nx := fun Γ' M' => WS X rest Γ' M' Φ } { E with nx := wpSs X rest E } :=
  ⟨fun F' σ' H' Γ' M' a b c q => q.run F' σ' H' b c E (hE.mono a), hE.rt, hE.bk, hE.ct⟩
theorem ws_if {c : Expr} {a b : List Stmt} (h : WT X c Γ M fun t M1 => (t = true → WS X a Γ M1 { Φ with nx := fun Γ' M' => WS X rest Γ' M' Φ }) ∧ (t = false → WS X b Γ M1 { Φ with nx := fun Γ' M' => WS X rest Γ' M' Φ })) :
    WS X (.If c a b pos :: rest) Γ M Φ := ⟨fun F σ H he hc E hE => by
  refine ⟨_, pss_cons (ps_if pt_wp pss_wp pss_wp) pss_wp, h.run F σ H he hc _ fun F1 H1 M1 t e1 c1 ⟨q1, q2⟩ => ?_⟩
  cases t with
  | true =>
    rw [if_pos rfl]
    exact (q1 rfl).run F1 σ H1 (he.mono e1) c1 _ (ends_seq (hE.mono e1))
  | false =>
    rw [if_neg Bool.false_ne_true]
    exact (q2 rfl).run F1 σ H1 (he.mono e1) c1 _ (ends_seq (hE.mono e1))⟩

/-! ### targets -/
def wpG (X : Cx) (tg : Expr) : TG := fun v σ H Q => ∃ t, PG X tg t ∧ t v σ H Q
def wpGs (X : Cx) (tgs : List Expr) : TGs := fun v σ H Q => ∃ t, PGs X tgs t ∧ t v σ H Q
theorem pg_wp {tg : Expr} : PG X tg (wpG X tg) := ⟨fun pins s σ H v u Q I r ⟨_, p, h⟩ => p.run pins s σ H v u Q I r h⟩
theorem pgs_wp {tgs : List Expr} : PGs X tgs (wpGs X tgs) := ⟨fun pins s σ H v u Q I r ⟨_, p, h⟩ => p.run pins s σ H v u Q I r h⟩
structure WG (X : Cx) (tg : Expr) (d : D) (Γ : G) (M : MM) (Q : G → MM → Prop) : Prop where
  run : ∀ (F : Hp) (σ : L2.St) (H : Hp) (v : V), EnvOk X.K F Γ σ → Con X.K F M H → Dn X.K F v d → ∀ R : L2.St → Hp → Prop,
    (∀ (F' : Hp) (σ' : L2.St) (H' : Hp) (Γ' : G) (M' : MM), Same F F' → EnvOk X.K F' Γ' σ' → Con X.K F' M' H' → Q Γ' M' → R σ' H') → wpG X tg v σ H R
structure WGs (X : Cx) (tgs : List Expr) (ds : List D) (Γ : G) (M : MM) (Q : G → MM → Prop) : Prop where
  run : ∀ (F : Hp) (σ : L2.St) (H : Hp) (vs : List V), EnvOk X.K F Γ σ → Con X.K F M H → Dns X.K F vs ds → ∀ R : L2.St → Hp → Prop,
    (∀ (F' : Hp) (σ' : L2.St) (H' : Hp) (Γ' : G) (M' : MM), Same F F' → EnvOk X.K F' Γ' σ' → Con X.K F' M' H' → Q Γ' M' → R σ' H') → wpGs X tgs vs σ H R
theorem wg_name (i : Nat) {x : Str} {d : D} {Q : G → MM → Prop} (nd : X.N.Nodup) (h : Q (Γ.set i (some d)) M) (hi : X.N[i]? = some x := by rfl) (hx : Loc X.env.scope x := by first | exact Or.inl rfl | exact Or.inr rfl)
    (hf : X.fn x = true ∨ X.env.scope.names.lookup x = some .local := by first | exact .inl rfl | exact .inr rfl) : WG X (.Name x pos) d Γ M Q := ⟨fun F σ H v he hc dv R hR =>
  ⟨_, pg_name nd hi hx hf, hR F _ H _ M (Same.refl F) (he.set dv) hc h⟩⟩
theorem wgs_nil {Q : G → MM → Prop} (h : Q Γ M) : WGs X [] [] Γ M Q := ⟨fun F σ H vs he hc dv R hR => by
  cases dv
  exact ⟨_, pgs_nil, rfl, hR F σ H Γ M (Same.refl F) he hc h⟩⟩
theorem wgs_cons {t : Expr} {ts : List Expr} {d : D} {ds : List D} {Q : G → MM → Prop} (h : WG X t d Γ M fun Γ1 M1 => WGs X ts ds Γ1 M1 Q) (hs : (assignEach (t :: ts) X.env).map (·.2) = assign t X.env :: (assignEach ts X.env).map (·.2) := by rfl) : WGs X (t :: ts) (d :: ds) Γ M Q := ⟨fun F σ H vs he hc dv R hR => by
  cases dv with
  | @cons v vs _ _ d1 d2 =>
    exact ⟨_, pgs_cons pg_wp pgs_wp hs, v, vs, rfl, h.run F σ H v he hc d1 _ fun F1 σ1 H1 Γ1 M1 a b c q => q.run F1 σ1 H1 vs b c (d2.mono a) R fun F2 σ2 H2 Γ2 M2 a2 b2 c2 q2 => hR F2 σ2 H2 Γ2 M2 (a.trans a2) b2 c2 q2⟩⟩
theorem wg_tup {ts : List Expr} {k : Nat} {ds : List D} {Q : G → MM → Prop} (h : WGs X ts ds Γ M Q) (hn : (assignEach ts X.env).length = ds.length := by rfl) (hst : (assignEach ts X.env).findIdx? (·.1) = none := by rfl) (hcm : X.calm = true := by rfl) : WG X (.Tuple ts k pos) (.tup ds) Γ M Q := ⟨fun F σ H v he hc dv R hR => by
  cases dv with
  | @tup a xs _ k1 k2 =>
    exact ⟨_, pg_tup hcm pgs_wp hn hst, a, xs, rfl, sqT_mono hc.sub k1, k2.length, h.run F σ H xs he hc k2 R hR⟩⟩
/-- xs[i] = .., a list that may change -/
theorem wg_sub {o i : Expr} {d : D} {Q : G → MM → Prop} (h : WE X o Γ M fun x M1 => WE X i Γ M1 fun y M2 => ∃ a ds k j, x = .raw a ∧ y = .int k ∧ M2 a = some (.lst ds) ∧ ixN ds.length k = some j ∧ Q Γ (mupd M2 a (.lst (ds.set j d))))
    (ha : ∀ v, assign (.Subscript o i pos) X.env v = (do
      let ov ← holding [v] (eval o X.env)
      let iv ← holding [v, ov] (eval i X.env)
      standAt pos
      holding [v, ov, iv] (setItem ov iv v)
      release [v, ov, iv] []) := by intro _; rfl) : WG X (.Subscript o i pos) d Γ M Q := ⟨fun F σ H v he hc dv R hR => by
  refine ⟨_, pg_sub pe_wp pe_wp set_list ha, h.run F σ H he hc _ fun F1 H1 M1 ov x e1 c1 d1 h1 => ?_⟩
  refine h1.run F1 σ H1 (he.mono e1) c1 _ fun F2 H2 M2 iv y e2 c2 d2 ⟨a, ds, k, j, hx, hy, hM, hj, q⟩ => ?_
  subst hx
  subst hy
  have d1' := d1.mono e2
  cases d1'
  cases d2
  obtain ⟨vs, k1, k2⟩ := c2.lst hM
  refine ⟨a, vs, k, j, rfl, rfl, k1, by rw [k2.length]; exact hj, ?_⟩
  exact hR F2 σ _ Γ _ (e1.trans e2) (he.mono (e1.trans e2)) (c2.setL hM (k2.set j (dv.mono (e1.trans e2)))) q⟩
/-- target = e -/
theorem ws_asg {tg e : Expr} (h : WE X e Γ M fun d M1 => WG X tg d Γ M1 fun Γ2 M2 => WS X rest Γ2 M2 Φ) (hs : swapsWithSole [tg] e pos.line X.env = pure false := by rfl) (hw : swappedStores [tg] e X.env = pure none := by rfl)
    (h1 : (assignEach [tg] X.env).map (·.2) = [assign tg X.env] := by rfl) : WS X (.Assign [tg] e pos :: rest) Γ M Φ := ⟨fun F σ H he hc E hE => by
  refine ⟨_, pss_cons (ps_asg pe_wp pg_wp hs hw h1) pss_wp, h.run F σ H he hc _ fun F1 H1 M1 v d e1 c1 d1 q => ?_⟩
  exact q.run F1 σ H1 v (he.mono e1) c1 d1 _ fun F2 σ2 H2 Γ2 M2 e2 he2 c2 q2 => q2.run F2 σ2 H2 he2 c2 E (hE.mono (e1.trans e2))⟩
/-- a, b = x, y, plain local names -/
theorem ws_par (i j : Nat) {x y : Str} {a b : Expr} {px py pt : Pos} {kt k2 pt2} (nd : X.N.Nodup) (hij : i ≠ j) (h : WA X [a, b] Γ M fun ds M1 => ∃ u v, ds = [u, v] ∧ WS X rest ((Γ.set i (some u)).set j (some v)) M1 Φ)
    (hi : X.N[i]? = some x := by rfl) (hj : X.N[j]? = some y := by rfl) (hx : X.env.scope.names.lookup x = some .local := by rfl) (hy : X.env.scope.names.lookup y = some .local := by rfl)
    (hw : swappedStores [.Tuple [.Name x px, .Name y py] kt pt] (.Tuple [a, b] k2 pt2) X.env = pure (some [x, y]) := by rfl)
    (hs : swapsWithSole [.Tuple [.Name x px, .Name y py] kt pt] (.Tuple [a, b] k2 pt2) pos.line X.env = pure false := by rfl) (hcm : X.calm = true := by rfl) :
    WS X (.Assign [.Tuple [.Name x px, .Name y py] kt pt] (.Tuple [a, b] k2 pt2) pos :: rest) Γ M Φ := ⟨fun F σ H he hc E hE => by
  refine ⟨_, pss_cons (ps_par hcm nd hi hj hij hx hy pa_wp hw hs) pss_wp, h.run F σ H he hc _ fun F1 H1 M1 vs ds e1 c1 d1 ⟨u, v, hd, q⟩ => ?_⟩
  subst hd
  cases d1 with
  | cons a1 d1 =>
    cases d1 with
    | cons a2 d1 =>
      cases d1
      exact ⟨_, _, rfl, q.run F1 _ H1 (((he.mono e1).set a1).set a2) c1 E (hE.mono e1)⟩⟩

/-! ### fields -/
theorem putF_map {f : Str} {v : V} : ∀ {fs : List (Str × V)}, f ∉ fs.map (·.1) → putF f v fs = fs ++ [(f, v)]
  | [], _ => rfl
  | (g, u) :: fs, h => by
    simp only [List.map_cons, List.mem_cons, not_or] at h
    have ih := putF_map (v := v) (fs := fs) h.2
    show (if g = f then (g, v) :: fs else (g, u) :: putF f v fs) = (g, u) :: (fs ++ [(f, v)])
    rw [if_neg (Ne.symm h.1), ih]
/-- the value d put under f -/
def putN (f : Str) (d : D) : List Str → List D → List D
  | n :: ns, e :: ds => if n = f then d :: ds else e :: putN f d ns ds
  | _, _ => []
def getN (f : Str) : List Str → List D → Option D
  | n :: ns, e :: ds => if f = n then some e else getN f ns ds
  | _, _ => none
theorem putF_mem {K : PySem.W.Frag} {F : Hp} {f : Str} {v : V} {d : D} (dv : Dn K F v d) : ∀ {fs : List (Str × V)} {ds : List D}, f ∈ fs.map (·.1) → Dns K F (fs.map (·.2)) ds → (putF f v fs).map (·.1) = fs.map (·.1) ∧ Dns K F ((putF f v fs).map (·.2)) (putN f d (fs.map (·.1)) ds)
  | [], _, h, _ => by simp at h
  | (g, u) :: fs, ds, h, hd => by
    cases hd with
    | @cons _ _ e es d1 d2 =>
      show ((if g = f then (g, v) :: fs else (g, u) :: putF f v fs).map (·.1) = _ ∧ Dns K F ((if g = f then (g, v) :: fs else (g, u) :: putF f v fs).map (·.2)) (if g = f then d :: es else e :: putN f d (fs.map (·.1)) es))
      by_cases q : g = f
      · rw [if_pos q, if_pos q]
        exact ⟨by simp, .cons dv d2⟩
      · rw [if_neg q, if_neg q]
        have hm : f ∈ fs.map (·.1) := by
          simp only [List.map_cons, List.mem_cons] at h
          exact h.resolve_left (fun z => q z.symm)
        obtain ⟨i1, i2⟩ := putF_mem dv (fs := fs) (ds := es) hm d2
        exact ⟨by simp [i1], .cons d1 i2⟩
theorem getN_at {K : PySem.W.Frag} {F : Hp} {f : Str} {d : D} : ∀ {fs : List (Str × V)} {ds : List D}, Dns K F (fs.map (·.2)) ds → getN f (fs.map (·.1)) ds = some d → ∃ v, fs.lookup f = some v ∧ Dn K F v d
  | [], ds, h, e => by
    cases h
    cases e
  | (g, u) :: fs, ds, h, e => by
    cases h with
    | @cons _ _ x es d1 d2 =>
      have e' : (if f = g then some x else getN f (fs.map (·.1)) es) = some d := e
      by_cases q : f = g
      · rw [if_pos q] at e'
        cases e'
        subst q
        exact ⟨u, by simp [List.lookup_cons], d1⟩
      · rw [if_neg q] at e'
        obtain ⟨v, h1, h2⟩ := getN_at (fs := fs) d2 e'
        have b : (f == g) = false := by simpa using q
        exact ⟨v, by rw [List.lookup_cons, b]; exact h1, h2⟩
theorem Con.setI {K : PySem.W.Frag} {F H : Hp} {M : MM} {a C : Addr} {ns ns' : List Str} {ds ds' : List D} {dx : Addr} {fs fs' : List (Str × V)} (c : Con K F M H) (hM : M a = some (.ins C ns ds)) (ha : H a = some (.ins C dx fs)) (hn : fs'.map (·.1) = ns') (hd : Dns K F (fs'.map (·.2)) ds') :
    Con K F (mupd M a (.ins C ns' ds')) (upd H a (.ins C dx fs')) := by
  obtain ⟨f0, dx', fs0, h1, h2, h3, _, _⟩ := c.chg a _ hM
  rw [ha] at h1
  cases h1
  have nd : dx ≠ a := fun z => by subst z; rw [ha] at h2; cases h2
  refine ⟨fun b u e => ?_, fun b m e => ?_⟩
  · rw [upd_ne (ne_of_none e f0)]; exact c.sub _ _ e
  · by_cases hb : b = a
    · subst hb; rw [mupd_same] at e; cases e
      exact ⟨f0, dx, fs', upd_same, by rw [upd_ne nd]; exact h2, h3, hn, hd⟩
    · rw [mupd_ne hb] at e
      obtain ⟨g1, g2⟩ := c.chg b m e
      refine ⟨g1, g2.heap (upd_ne hb) fun dy q => ?_⟩
      have : dy ≠ a := fun z => by subst z; rw [ha] at q; cases q
      rw [upd_ne this]; exact q
/-- o.f = e: a new field, or an old one -/
theorem ws_fld {C : Addr} {o e : Expr} {f : Str} {pos' : Pos} (hc : Cls X.K C) (hn : NoAttr X.K C f)
    (h : WE X e Γ M fun d M1 => WE X o Γ M1 fun x M2 => ∃ a ns ds, x = .raw a ∧ M2 a = some (.ins C ns ds) ∧ ns.length < 1000 ∧ ((f ∉ ns ∧ WS X rest Γ (mupd M2 a (.ins C (ns ++ [f]) (ds ++ [d]))) Φ) ∨ (f ∈ ns ∧ WS X rest Γ (mupd M2 a (.ins C ns (putN f d ns ds))) Φ)))
    (hs : swapsWith e (some (.Attribute o f pos')) pos.line X.env = pure false := by rfl) : WS X (.Assign [.Attribute o f pos'] e pos :: rest) Γ M Φ := ⟨fun F σ H he hco E hE => by
  refine ⟨_, pss_cons (ps_fld pe_wp pe_wp hs) pss_wp, h.run F σ H he hco _ fun F1 H1 M1 v d e1 c1 d1 h1 => ?_⟩
  refine h1.run F1 σ H1 (he.mono e1) c1 _ fun F2 H2 M2 u x e2 c2 d2 ⟨a, ns, ds, hx, hM, hl, q⟩ => ?_
  subst hx
  cases d2
  obtain ⟨f0, dx, fs, k1, k2, k3, k4, k5⟩ := c2.chg a _ hM
  subst k4
  refine ⟨a, C, dx, fs, rfl, k1, hc, hn, by simpa using hl, ?_⟩
  rcases q with ⟨q1, q2⟩ | ⟨q1, q2⟩
  · refine q2.run F2 σ _ (he.mono (e1.trans e2)) (c2.setI hM k1 ?_ ?_) E (hE.mono (e1.trans e2))
    · rw [putF_map q1]; simp
    · rw [putF_map q1, List.map_append]
      exact k5.append (.cons (d1.mono e2) .nil)
  · obtain ⟨z1, z2⟩ := putF_mem (d1.mono e2) q1 k5
    exact q2.run F2 σ _ (he.mono (e1.trans e2)) (c2.setI hM k1 z1 z2) E (hE.mono (e1.trans e2))⟩
/-- o.f, a field -/
theorem we_fld {C : Addr} {o : Expr} {f : Str} {Q : D → MM → Prop} (hc : Cls X.K C) (hn : NoAttr X.K C f)
    (h : WE X o Γ M fun x M1 => ∃ ns ds d, ((∃ a, x = .raw a ∧ M1 a = some (.ins C ns ds)) ∨ x = .ins C ns ds) ∧ getN f ns ds = some d ∧ Q d M1) (hb : attributeBase o f X.env (eval o X.env) = eval o X.env := by rfl) : WE X (.Attribute o f pos) Γ M Q := ⟨fun F σ H he hco R hR => by
  refine ⟨_, pe_fld pe_wp hb, h.run F σ H he hco _ fun F1 H1 M1 v x e1 c1 d1 ⟨ns, ds, d, hx, hg, q⟩ => ?_⟩
  rcases hx with ⟨a, hx, hM⟩ | hx
  · subst hx
    cases d1
    obtain ⟨f0, dx, fs, k1, k2, k3, k4, k5⟩ := c1.chg a _ hM
    subst k4
    obtain ⟨w, z1, z2⟩ := getN_at k5 hg
    exact ⟨a, C, dx, fs, w, rfl, k1, hc, hn, z1, hR F1 H1 M1 w d e1 c1 z2 q⟩
  · subst hx
    cases d1 with
    | @ins a _ dx fs _ _ k1 k4 k5 =>
      subst k4
      obtain ⟨w, z1, z2⟩ := getN_at k5 hg
      exact ⟨a, C, dx, fs, w, rfl, c1.sub _ _ k1, hc, hn, z1, hR F1 H1 M1 w d e1 c1 z2 q⟩⟩
end
end DL

set_option Elab.async false
set_option linter.all false
set_option autoImplicit false
set_option maxRecDepth 100000
set_option maxHeartbeats 2000000
namespace DL
open PySem L2

/-- what a loop walks: n turns, the i-th item it i, while keep stands -/
def Walks (K : PySem.W.Frag) (F : Hp) (J : It) (n : Nat) (it : Nat → D) (keep : MM → Prop) : Prop := ∀ (F2 : Hp) (M2 : MM) (H2 : Hp), Same F F2 → Con K F2 M2 H2 → keep M2 → ∀ i : Nat,
  (i < n → J.go i H2 ∧ ∀ x H', J.yld i H2 x H' → ∃ F3, Same F2 F3 ∧ Con K F3 M2 H' ∧ Dn K F3 x (it i)) ∧ (n = i → J.stop i H2)
def wpI (X : Cx) (tg iter : Expr) : TI := fun σ H R => ∃ wi, PI X tg iter wi ∧ wi σ H R
theorem pi_wp {X : Cx} {tg iter : Expr} : PI X tg iter (wpI X tg iter) := ⟨fun pins s σ H R I ⟨_, p, h⟩ => p.run pins s σ H R I h⟩
structure WI (X : Cx) (tg iter : Expr) (Γ : G) (M : MM) (Q : Nat → (Nat → D) → (MM → Prop) → MM → Prop) : Prop where
  run : ∀ (F : Hp) (σ : L2.St) (H : Hp), EnvOk X.K F Γ σ → Con X.K F M H → ∀ R : It → Hp → Prop,
    (∀ (F' H' : Hp) (M' : MM) (J : It) (n : Nat) (it : Nat → D) (keep : MM → Prop), Same F F' → Con X.K F' M' H' → Walks X.K F' J n it keep → Q n it keep M' → R J H') → wpI X tg iter σ H R
abbrev dAt (ds : List D) (i : Nat) : D := ds.getD i .non
theorem dAt_of {ds : List D} {i : Nat} {d : D} (h : ds[i]? = some d) : dAt ds i = d := by
  unfold dAt
  rw [List.getD_eq_getElem?_getD, h]
  rfl
section
variable {X : Cx} {Γ : G} {M : MM} {Φ : Fi} {pos p : Pos} {rest : List Stmt} {tg : Expr}
theorem walks_list {K : PySem.W.Frag} {F : Hp} {a : Addr} {xs : List V} {ds : List D} (h : SqL K F a xs) (hd : Dns K F xs ds) : Walks K F (Itl K a) ds.length (dAt ds) fun _ => True := by
  intro F2 M2 H2 e c _ i
  have hq : SqL K H2 a xs := sqL_mono c.sub (sqL_mono e h)
  refine ⟨fun hi => ?_, fun hi => ⟨xs, hq, by rw [hd.length]; exact Nat.le_of_eq hi⟩⟩
  have hx : i < xs.length := by rw [hd.length]; exact hi
  refine ⟨⟨xs, xs[i], hq, by simp [hx]⟩, fun x H' ⟨e1, y⟩ => ?_⟩
  subst e1
  obtain ⟨d, h1, h2⟩ := hd.getV (y xs hq)
  exact ⟨F2, Same.refl _, c, by rw [dAt_of h1]; exact h2.mono e⟩
theorem walks_tup {K : PySem.W.Frag} {F : Hp} {a : Addr} {xs : List V} {ds : List D} (h : SqT K F a xs) (hd : Dns K F xs ds) : Walks K F (Itt K a) ds.length (dAt ds) fun _ => True := by
  intro F2 M2 H2 e c _ i
  have hq : SqT K H2 a xs := sqT_mono c.sub (sqT_mono e h)
  refine ⟨fun hi => ?_, fun hi => ⟨xs, hq, by rw [hd.length]; exact Nat.le_of_eq hi⟩⟩
  have hx : i < xs.length := by rw [hd.length]; exact hi
  refine ⟨⟨xs, xs[i], hq, by simp [hx]⟩, fun x H' ⟨e1, y⟩ => ?_⟩
  subst e1
  obtain ⟨d, h1, h2⟩ := hd.getV (y xs hq)
  exact ⟨F2, Same.refl _, c, by rw [dAt_of h1]; exact h2.mono e⟩
theorem wi_list {e : Expr} {Q : Nat → (Nat → D) → (MM → Prop) → MM → Prop} (h : WE X e Γ M fun x M1 => ∃ ds, (x = .lst ds ∨ x = .frz ds) ∧ Q ds.length (dAt ds) (fun _ => True) M1) : WI X tg e Γ M Q := ⟨fun F σ H he hc R hR => by
  refine ⟨_, pi_list pe_wp, h.run F σ H he hc _ fun F1 H1 M1 v x e1 c1 d1 ⟨ds, hx, q⟩ => ?_⟩
  rcases hx with hx | hx
  · subst hx
    cases d1 with
    | @lst a xs _ k1 k2 => exact ⟨a, rfl, ⟨xs, SqL.of (c1.sub _ _ k1)⟩, hR F1 H1 M1 _ _ _ _ e1 c1 (walks_list (SqL.of k1) k2) q⟩
  · subst hx
    cases d1 with
    | @frz a xs _ k1 k2 => exact ⟨a, rfl, ⟨xs, sqL_mono c1.sub k1⟩, hR F1 H1 M1 _ _ _ _ e1 c1 (walks_list k1 k2) q⟩⟩
theorem wi_tup {e : Expr} {Q : Nat → (Nat → D) → (MM → Prop) → MM → Prop} (h : WE X e Γ M fun x M1 => ∃ ds, x = .tup ds ∧ Q ds.length (dAt ds) (fun _ => True) M1) : WI X tg e Γ M Q := ⟨fun F σ H he hc R hR => by
  refine ⟨_, pi_tup pe_wp, h.run F σ H he hc _ fun F1 H1 M1 v x e1 c1 d1 ⟨ds, hx, q⟩ => ?_⟩
  subst hx
  cases d1 with
  | @tup a xs _ k1 k2 => exact ⟨a, rfl, ⟨xs, sqT_mono c1.sub k1⟩, hR F1 H1 M1 _ _ _ _ e1 c1 (walks_tup k1 k2) q⟩⟩
/-- a list that may change, and does not while it is walked -/
theorem wi_raw {e : Expr} {Q : Nat → (Nat → D) → (MM → Prop) → MM → Prop} (h : WE X e Γ M fun x M1 => ∃ a ds, x = .raw a ∧ M1 a = some (.lst ds) ∧ Q ds.length (dAt ds) (fun M => M a = some (.lst ds)) M1) : WI X tg e Γ M Q := ⟨fun F σ H he hc R hR => by
  refine ⟨_, pi_list pe_wp, h.run F σ H he hc _ fun F1 H1 M1 v x e1 c1 d1 ⟨a, ds, hx, hM, q⟩ => ?_⟩
  subst hx
  cases d1
  obtain ⟨xs, k1, k2⟩ := c1.lst hM
  refine ⟨a, rfl, ⟨xs, SqL.of k1⟩, hR F1 H1 M1 _ _ _ _ e1 c1 (fun F2 M2 H2 e c hk i => ?_) q⟩
  obtain ⟨ys, z1, z2⟩ := c.lst hk
  have hq : SqL X.K H2 a ys := SqL.of z1
  refine ⟨fun hi => ?_, fun hi => ⟨ys, hq, by rw [z2.length]; exact Nat.le_of_eq hi⟩⟩
  have hx : i < ys.length := by rw [z2.length]; exact hi
  refine ⟨⟨ys, ys[i], hq, by simp [hx]⟩, fun x H' ⟨e1, y⟩ => ?_⟩
  subst e1
  obtain ⟨d, h1, h2⟩ := z2.getV (y ys hq)
  exact ⟨F2, Same.refl _, c, by rw [dAt_of h1]; exact h2⟩⟩
theorem walks_rng {K : PySem.W.Frag} {F : Hp} {lo : Int} {n : Nat} : Walks K F (Itr lo n) n (fun i => .int (lo + i)) fun _ => True := by
  intro F2 M2 H2 e c _ i
  refine ⟨fun hi => ⟨hi, fun x H' ⟨e1, y⟩ => ?_⟩, fun hi => Nat.le_of_eq hi⟩
  subst e1
  subst y
  exact ⟨F2, Same.refl _, c, .int _⟩
theorem wi_range1 {a : Expr} {Q : Nat → (Nat → D) → (MM → Prop) → MM → Prop} (hm : X.mg "range" = none) (h : WE X a Γ M fun x M1 => ∃ j : Int, x = .int j ∧ (-(2 ^ 62) ≤ j ∧ j < 2 ^ 62) ∧ Q j.toNat (fun i => .int (0 + i)) (fun _ => True) M1) (hg : Gl X "range" := by rfl)
    (hs : starEach [a] X.env = [(false, eval a X.env)] := by rfl) : WI X tg (.Call (.Name "range" p) [a] [] pos) Γ M Q := ⟨fun F σ H he hc R hR => by
  refine ⟨_, pi_range1 hg hm (pa_cons pe_wp pa_nil hs) hs, ?_⟩
  refine h.run F σ H he hc _ fun F1 H1 M1 v x e1 c1 d1 ⟨j, hx, hb, q⟩ => ?_
  subst hx
  cases d1
  exact ⟨j, rfl, hb.1, hb.2, hR F1 H1 M1 _ _ _ _ e1 c1 walks_rng q⟩⟩
theorem wi_range2 {a b : Expr} {Q : Nat → (Nat → D) → (MM → Prop) → MM → Prop} (hm : X.mg "range" = none) (h : WE X a Γ M fun x M1 => WE X b Γ M1 fun y M2 => ∃ i j : Int, x = .int i ∧ y = .int j ∧ (-(2 ^ 62) ≤ i ∧ i < 2 ^ 62 ∧ -(2 ^ 62) ≤ j ∧ j < 2 ^ 62) ∧ Q (j - i).toNat (fun k => .int (i + k)) (fun _ => True) M2) (hg : Gl X "range" := by rfl)
    (hs : starEach [a, b] X.env = [(false, eval a X.env), (false, eval b X.env)] := by rfl) (hs1 : starEach [a, b] X.env = (false, eval a X.env) :: starEach [b] X.env := by rfl) (hs2 : starEach [b] X.env = [(false, eval b X.env)] := by rfl) : WI X tg (.Call (.Name "range" p) [a, b] [] pos) Γ M Q := ⟨fun F σ H he hc R hR => by
  refine ⟨_, pi_range2 hg hm (pa_cons pe_wp (pa_cons pe_wp pa_nil hs2) hs1) hs hs2, ?_⟩
  refine h.run F σ H he hc _ fun F1 H1 M1 v x e1 c1 d1 h1 => ?_
  refine h1.run F1 σ H1 (he.mono e1) c1 _ fun F2 H2 M2 u y e2 c2 d2 ⟨i, j, hx, hy, hb, q⟩ => ?_
  subst hx
  subst hy
  cases d1
  cases d2
  exact ⟨i, j, rfl, hb, hR F2 H2 M2 _ _ _ _ (e1.trans e2) c2 walks_rng q⟩⟩
theorem wi_range3 {a b c : Expr} {Q : Nat → (Nat → D) → (MM → Prop) → MM → Prop} (hm : X.mg "range" = none) (h : WA X [a, b, c] Γ M fun ds M1 => ∃ (i j k : Int) (n : Nat), ds = [.int i, .int j, .int k] ∧ RgC i j k n ∧ Q n (fun m => .int (i + (m : Nat) * k)) (fun _ => True) M1) (hg : Gl X "range" := by rfl)
    (hs : starEach [a, b, c] X.env = (false, eval a X.env) :: starEach [b, c] X.env := by rfl) (hpl : (backTo pos (starEach [b, c] X.env)).any (·.1) = false := by rfl) : WI X tg (.Call (.Name "range" p) [a, b, c] [] pos) Γ M Q := ⟨fun F σ H he hc R hR => by
  refine ⟨_, pi_range3 hg hm pa_wp hs hpl, ?_⟩
  refine h.run F σ H he hc _ fun F1 H1 M1 vs ds e1 c1 d1 ⟨i, j, k, n, hx, hb, q⟩ => ?_
  subst hx
  cases d1 with
  | cons a1 d1 =>
    cases a1
    cases d1 with
    | cons a2 d1 =>
      cases a2
      cases d1 with
      | cons a3 d1 =>
        cases a3
        cases d1
        refine ⟨i, j, k, n, rfl, hb, hR F1 H1 M1 _ _ _ _ e1 c1 (fun F2 M2 H2 e c _ m => ⟨fun hi => ⟨hi, fun x H' ⟨e1, y⟩ => ?_⟩, fun hi => Nat.le_of_eq hi⟩) q⟩
        subst e1
        subst y
        exact ⟨F2, Same.refl _, c, .int _⟩⟩
/-- for a, b in zip(xs, ys): lists of one length, or tuples of one length -/
theorem wi_zip {e e2 : Expr} {elts : List Expr} {kk : Nat} {tpos : Pos} {Q : Nat → (Nat → D) → (MM → Prop) → MM → Prop} (hm : X.mg "zip" = none)
    (h : WE X e Γ M fun x M1 => WE X e2 Γ M1 fun y M2 => ∃ ds es, ((x = .lst ds ∧ y = .lst es) ∨ (x = .tup ds ∧ y = .tup es)) ∧ ds.length = es.length ∧ Q ds.length (fun i => .tup [dAt ds i, dAt es i]) (fun _ => True) M2) (hg : Gl X "zip" := by rfl)
    (hs : starEach [e, e2] X.env = (false, eval e X.env) :: starEach [e2] X.env := by rfl) (hs2 : starEach [e2] X.env = [(false, eval e2 X.env)] := by rfl) (hpl : (backTo pos (starEach [e2] X.env)).any (·.1) = false := by rfl) :
    WI X (.Tuple elts kk tpos) (.Call (.Name "zip" p) [e, e2] [] pos) Γ M Q := ⟨fun F σ H he hc R hR => by
  refine ⟨_, RZ.pi_zipA hg hm (pa_cons pe_wp (pa_cons pe_wp pa_nil hs2) hs) hs hpl, ?_⟩
  refine h.run F σ H he hc _ fun F1 H1 M1 v x e1 c1 d1 h1 => ?_
  refine h1.run F1 σ H1 (he.mono e1) c1 _ fun F2 H2 M2 u y e2 c2 d2 ⟨ds, es, hx, hl, q⟩ => ?_
  rcases hx with ⟨hx, hy⟩ | ⟨hx, hy⟩
  · subst hx
    subst hy
    cases d1 with
    | @lst a xs _ k1 k2 =>
    cases d2 with
    | @lst b ys _ m1 m2 =>
    refine ⟨a, b, xs, ys, rfl, .inl ⟨SqL.of (c2.sub _ _ (e2 _ _ k1)), SqL.of (c2.sub _ _ m1), hR F2 H2 M2 _ _ _ _ (e1.trans e2) c2 (fun F3 M3 H3 e c _ i => ?_) q⟩⟩
    have ha : SqL X.K H3 a xs := SqL.of (c.sub _ _ (e _ _ (e2 _ _ k1)))
    have hb : SqL X.K H3 b ys := SqL.of (c.sub _ _ (e _ _ m1))
    refine ⟨fun hi => ?_, fun hi => ⟨xs, ys, ha, hb, .inl (by rw [k2.length]; exact Nat.le_of_eq hi)⟩⟩
    have hx : i < xs.length := by rw [k2.length]; exact hi
    have hy : i < ys.length := by rw [m2.length, ← hl]; exact hi
    refine ⟨⟨xs, ys, xs[i], ys[i], ha, hb, by simp [hx], by simp [hy]⟩, fun z H' ⟨T, x, y, hz, hT, hH, y1, y2⟩ => ?_⟩
    subst hz
    subst hH
    obtain ⟨d, a1, a2⟩ := k2.getV (y1 xs ha)
    obtain ⟨d', b1, b2⟩ := m2.getV (y2 ys hb)
    have s := same_new (o := .tup [x, y]) (c.sub.free hT)
    exact ⟨_, s, c.new hT, by rw [dAt_of a1, dAt_of b1]; exact .tup (.inl (.inl upd_same)) (.cons (a2.mono ((e2.trans e).trans s)) (.cons (b2.mono (e.trans s)) .nil))⟩
  · subst hx
    subst hy
    cases d1 with
    | @tup a xs _ k1 k2 =>
    cases d2 with
    | @tup b ys _ m1 m2 =>
    refine ⟨a, b, xs, ys, rfl, .inr ⟨sqT_mono c2.sub (sqT_mono e2 k1), sqT_mono c2.sub m1, hR F2 H2 M2 _ _ _ _ (e1.trans e2) c2 (fun F3 M3 H3 e c _ i => ?_) q⟩⟩
    have ha : SqT X.K H3 a xs := sqT_mono c.sub (sqT_mono e (sqT_mono e2 k1))
    have hb : SqT X.K H3 b ys := sqT_mono c.sub (sqT_mono e m1)
    refine ⟨fun hi => ?_, fun hi => ⟨xs, ys, ha, hb, .inl (by rw [k2.length]; exact Nat.le_of_eq hi)⟩⟩
    have hx : i < xs.length := by rw [k2.length]; exact hi
    have hy : i < ys.length := by rw [m2.length, ← hl]; exact hi
    refine ⟨⟨xs, ys, xs[i], ys[i], ha, hb, by simp [hx], by simp [hy]⟩, fun z H' ⟨T, x, y, hz, hT, hH, y1, y2⟩ => ?_⟩
    subst hz
    subst hH
    obtain ⟨d, a1, a2⟩ := k2.getV (y1 xs ha)
    obtain ⟨d', b1, b2⟩ := m2.getV (y2 ys hb)
    have s := same_new (o := .tup [x, y]) (c.sub.free hT)
    exact ⟨_, s, c.new hT, by rw [dAt_of a1, dAt_of b1]; exact .tup (.inl (.inl upd_same)) (.cons (a2.mono ((e2.trans e).trans s)) (.cons (b2.mono (e.trans s)) .nil))⟩⟩

/-! ### for -/
theorem ws_for {iter : Expr} {body : List Stmt} (h : WI X tg iter Γ M fun n it keep M1 => ∃ I : Nat → G → MM → Prop, I 0 Γ M1 ∧ (∀ i Γ' M', i ≤ n → I i Γ' M' → keep M') ∧
      (∀ i Γ' M', i < n → I i Γ' M' → WG X tg (it i) Γ' M' fun Γ2 M2 => WS X body Γ2 M2 { nx := I (i + 1), ct := I (i + 1), bk := fun Γ3 M3 => WS X rest Γ3 M3 Φ, rt := Φ.rt }) ∧ (∀ Γ' M', I n Γ' M' → WS X rest Γ' M' Φ))
    (hp : PassesOwn (model X.prog X.w) X.A X.env X.xe := by exact PassesOwn.never) (hcm : X.calm = true := by rfl) (hs : ∀ x, foldedSetIterable iter X.env x = pure x := by intro _; rfl) : WS X (.For tg iter body [] pos :: rest) Γ M Φ := ⟨fun F σ H he hc E hE => by
  refine ⟨_, pss_cons (ps_for hp hcm pi_wp pg_wp pss_wp hs) pss_wp, h.run F σ H he hc _ fun F1 H1 M1 J n it keep e1 c1 w ⟨I, h0, hk, hst, hdn⟩ => ?_⟩
  refine ⟨fun i m σ' H' => m = n - i ∧ i ≤ n ∧ ∃ F' Γ' M', Same F1 F' ∧ EnvOk X.K F' Γ' σ' ∧ Con X.K F' M' H' ∧ I i Γ' M', ⟨n, by simp, Nat.zero_le _, F1, Γ, M1, Same.refl _, he.mono e1, c1, h0⟩, ?_⟩
  rintro i m σ' H' ⟨rfl, hi, F', Γ', M', e', he', c', hI⟩
  obtain ⟨w1, w2⟩ := w F' M' H' e' c' (hk i Γ' M' hi hI) i
  by_cases hlt : i < n
  · obtain ⟨go, yl⟩ := w1 hlt
    refine .inr ⟨go, fun σ2 H2 => ∃ F2 Γ2 M2, Same F1 F2 ∧ EnvOk X.K F2 Γ2 σ2 ∧ Con X.K F2 M2 H2 ∧ I (i + 1) Γ2 M2, fun σ2 H2 q => ⟨n - (i + 1), by omega, rfl, hlt, q⟩, fun x H2 y => ?_⟩
    obtain ⟨F3, s3, c3, d3⟩ := yl x H2 y
    refine (hst i Γ' M' hlt hI).run F3 σ' H2 x (he'.mono s3) c3 d3 _ fun F4 σ4 H4 Γ4 M4 e4 he4 c4 q4 => ?_
    have eo : Same F F4 := ((e1.trans e').trans s3).trans e4
    refine q4.run F4 σ4 H4 he4 c4 _ ⟨fun F5 σ5 H5 Γ5 M5 a b c q => ?_, fun F5 H5 M5 v d a b c q => hE.rt F5 H5 M5 v d (eo.trans a) b c q, fun F5 σ5 H5 Γ5 M5 a b c q => q.run F5 σ5 H5 b c E (hE.mono (eo.trans a)), fun F5 σ5 H5 Γ5 M5 a b c q => ?_⟩
    · exact ⟨F5, Γ5, M5, ((e'.trans s3).trans e4).trans a, b, c, q⟩
    · exact ⟨F5, Γ5, M5, ((e'.trans s3).trans e4).trans a, b, c, q⟩
  · have hn : i = n := by omega
    subst hn
    exact .inl ⟨w2 rfl, (hdn Γ' M' hI).run F' σ' H' he' c' E (hE.mono (e1.trans e'))⟩⟩

/-! ### comprehensions: one clause, a plain name as the target, no test or one -/
def mdel (M : MM) (a : Addr) : MM := fun b => if b = a then none else M b
theorem mdel_mupd {M : MM} {a : Addr} {o : MO} (h : M a = none) : mdel (mupd M a o) a = M := by
  funext b
  unfold mdel mupd
  by_cases hb : b = a
  · rw [if_pos hb, hb, h]
  · rw [if_neg hb, if_neg hb]
theorem wipe1 (σ : L2.St) (k : Nat) : L2.wipe σ [k] = σ.set k none := rfl
theorem EnvOk.wiped {K : PySem.W.Frag} {F : Hp} {σ : L2.St} (h : EnvOk K F Γ σ) {k : Nat} {v : V} {d : D} (q : Dn K F v d) : EnvOk K F (Γ.set k (some d)) ((L2.wipe σ [k]).set k (some v)) := by
  rw [wipe1, List.set_set]
  exact h.set q
/-- the tests of a clause -/
structure WTs (X : Cx) (ifs : List Expr) (Γ : G) (M : MM) (Q : Bool → MM → Prop) : Prop where
  run : ∀ (F : Hp) (σ : L2.St) (H : Hp), EnvOk X.K F Γ σ → Con X.K F M H → ∀ R : Bool → Hp → Prop, (∀ (F' H' : Hp) (M' : MM) (b : Bool), Same F F' → Con X.K F' M' H' → Q b M' → R b H') → ∃ t, PTs X ifs t ∧ t σ H R
theorem wts_nil {Q : Bool → MM → Prop} (h : Q true M) : WTs X [] Γ M Q := ⟨fun F σ H he hc R hR => ⟨_, pts_nil, hR F H M true (Same.refl F) hc h⟩⟩
theorem wts_one {c : Expr} {Q : Bool → MM → Prop} (h : WT X c Γ M Q) : WTs X [c] Γ M Q := ⟨fun F σ H he hc R hR => ⟨_, pts_one pt_wp, h.run F σ H he hc R hR⟩⟩
/-- the reading of a comprehension, whatever the block's entry -/
theorem lc_run {elt iter : Expr} {ifs : List Expr} {x : Str} {k : Nat} {scope : Scope} {Q : D → MM → Prop} {px : Pos} (hN : X.N.Nodup)
    (hg : ∀ (s : Shared) (H : Hp) (C : Addr) (cl : List (Str × Addr)) (fp : List Addr), PG (X.blk s H scope (compEnvC scope cl C X.env) fp) (.Name x px) (gName k))
    (h : WI X (.Name x px) iter Γ M fun n it keep M1 => ∀ D, M1 D = none → ∃ I : Nat → List DL.D → MM → Prop, I 0 [] M1 ∧ (∀ i acc M', i ≤ n → M' D = none → I i acc M' → keep (mupd M' D (.lst acc))) ∧
      (∀ i acc M', i < n → M' D = none → I i acc M' → ∀ (s : Shared) (H : Hp) (C : Addr) (cl : List (Str × Addr)) (fp : List Addr), WTs (X.blk s H scope (compEnvC scope cl C X.env) fp) ifs (Γ.set k (some (it i))) (mupd M' D (.lst acc)) fun b M2 =>
        (b = true → ∀ (s : Shared) (H : Hp) (C : Addr) (cl : List (Str × Addr)) (fp : List Addr), WE (X.blk s H scope (compEnvC scope cl C X.env) fp) elt (Γ.set k (some (it i))) M2 fun y M3 => acc.length < sizeLine ∧ ∃ M4, M3 = mupd M4 D (.lst acc) ∧ M4 D = none ∧ I (i + 1) (acc ++ [y]) M4) ∧
        (b = false → ∃ M4, M2 = mupd M4 D (.lst acc) ∧ M4 D = none ∧ I (i + 1) acc M4)) ∧
      (∀ acc M', M' D = none → I n acc M' → Q (.lst acc) M')) {F : Hp} {σ : L2.St} {H : Hp} (he : EnvOk X.K F Γ σ) (hc : Con X.K F M H) {R : VK} (hR : Post X F Q R) :
    tLc (wpI X (.Name x px) iter) (gName k) (fun σ H Q => ∀ (s : Shared) (H0 : Hp) (C : Addr) (cl : List (Str × Addr)) (fp : List Addr), ∃ t, PTs (X.blk s H0 scope (compEnvC scope cl C X.env) fp) ifs t ∧ t σ H Q)
      (fun σ H Q => ∀ (s : Shared) (H0 : Hp) (C : Addr) (cl : List (Str × Addr)) (fp : List Addr), wpE (X.blk s H0 scope (compEnvC scope cl C X.env) fp) elt σ H Q) [k] σ H R := by
  refine h.run F σ H he hc _ fun F1 H1 M1 J n it keep e1 c1 w hI => ?_
  intro D hD
  have mD : M1 D = none := c1.fresh hD
  obtain ⟨I, h0, hk, hst, hdn⟩ := hI D mD
  refine ⟨fun i m H' => m = n - i ∧ i ≤ n ∧ ∃ F' M' acc, Same F1 F' ∧ Con X.K F' (mupd M' D (.lst acc)) H' ∧ M' D = none ∧ I i acc M', ⟨n, by simp, Nat.zero_le _, F1, M1, [], Same.refl _, c1.newM hD .nil, mD, h0⟩, ?_⟩
  rintro i m H' ⟨rfl, hi, F', M', acc, e', c', hm, hJ⟩
  obtain ⟨w1, w2⟩ := w F' _ H' e' c' (hk i acc M' hi hm hJ) i
  by_cases hlt : i < n
  · obtain ⟨go, yl⟩ := w1 hlt
    refine .inr ⟨go, fun H2 => ∃ F2 M2 acc2, Same F1 F2 ∧ Con X.K F2 (mupd M2 D (.lst acc2)) H2 ∧ M2 D = none ∧ I (i + 1) acc2 M2, fun H2 q => ⟨n - (i + 1), by omega, rfl, hlt, q⟩, fun v H2 y => ?_⟩
    obtain ⟨F3, s3, c3, d3⟩ := yl v H2 y
    show L2.wipe ((L2.wipe σ [k]).set k (some v)) [k] = L2.wipe σ [k] ∧ _
    refine ⟨by rw [wipe1, wipe1, List.set_set, List.set_set], ?_⟩
    have heB : EnvOk X.K F3 (Γ.set k (some (it i))) ((L2.wipe σ [k]).set k (some v)) := (he.mono ((e1.trans e').trans s3)).wiped d3
    intro s H0 C cl fp
    refine (hst i acc M' hlt hm hJ s H0 C cl fp).run F3 _ H2 heB c3 _ fun F4 H4 M4 b e4 c4 ⟨q1, q2⟩ => ?_
    cases b with
    | true =>
      rw [if_pos rfl]
      intro s H0 C cl fp
      refine (q1 rfl s H0 C cl fp).run F4 _ H4 (heB.mono e4) c4 _ fun F5 H5 M5 u y e5 c5 d5 ⟨z, M6, z1, z2, z3⟩ => ?_
      subst z1
      obtain ⟨vs, k1, k2⟩ := c5.lst mupd_same
      refine ⟨vs, k1, by rw [k2.length]; exact z, F5, M6, acc ++ [y], ((e'.trans s3).trans e4).trans e5, ?_, z2, z3⟩
      have c6 := c5.setL mupd_same (k2.append (.cons d5 .nil))
      rwa [mupd_mupd] at c6
    | false =>
      rw [if_neg Bool.false_ne_true]
      obtain ⟨M5, z1, z2, z3⟩ := q2 rfl
      subst z1
      exact ⟨F4, M5, acc, (e'.trans s3).trans e4, c4, z2, z3⟩
  · have hn : i = n := by omega
    subst hn
    refine .inl ⟨w2 rfl, ?_⟩
    obtain ⟨F2, s2, c2, d2⟩ := c'.freeze mupd_same
    have em : (fun a => if a = D then none else mupd M' D (.lst acc) a) = M' := mdel_mupd hm
    rw [em] at c2
    exact hR F2 H' M' _ _ ((e1.trans e').trans s2) c2 d2 (hdn acc M' hm hJ)
theorem pts_lc {ifs : List Expr} {scope : Scope} (s : Shared) (H : Hp) (C : Addr) (cl : List (Str × Addr)) (fp : List Addr) : PTs (X.blk s H scope (compEnvC scope cl C X.env) fp) ifs
    (fun σ H Q => ∀ (s : Shared) (H0 : Hp) (C : Addr) (cl : List (Str × Addr)) (fp : List Addr), ∃ t, PTs (X.blk s H0 scope (compEnvC scope cl C X.env) fp) ifs t ∧ t σ H Q) :=
  ⟨fun pins s' σ' H' Q' I hw => by obtain ⟨t, pt, q⟩ := hw s H C cl fp; exact pt.run pins s' σ' H' Q' I q⟩
theorem pe_lcE {elt : Expr} {scope : Scope} (s : Shared) (H : Hp) (C : Addr) (cl : List (Str × Addr)) (fp : List Addr) : PE (X.blk s H scope (compEnvC scope cl C X.env) fp) elt
    (fun σ H Q => ∀ (s : Shared) (H0 : Hp) (C : Addr) (cl : List (Str × Addr)) (fp : List Addr), wpE (X.blk s H0 scope (compEnvC scope cl C X.env) fp) elt σ H Q) :=
  ⟨fun pins s' σ' H' Q' I hw => by obtain ⟨t, pt, q⟩ := hw s H C cl fp; exact pt.run pins s' σ' H' Q' I q⟩
/-- what a comprehension asks of its turns -/
abbrev LcI (X : Cx) (elt : Expr) (ifs : List Expr) (k : Nat) (scope : Scope) (Γ : G) (Q : D → MM → Prop) : Nat → (Nat → D) → (MM → Prop) → MM → Prop := fun n it keep M1 => ∀ D, M1 D = none → ∃ I : Nat → List DL.D → MM → Prop, I 0 [] M1 ∧ (∀ i acc M', i ≤ n → M' D = none → I i acc M' → keep (mupd M' D (.lst acc))) ∧
      (∀ i acc M', i < n → M' D = none → I i acc M' → ∀ (s : Shared) (H : Hp) (C : Addr) (cl : List (Str × Addr)) (fp : List Addr), WTs (X.blk s H scope (compEnvC scope cl C X.env) fp) ifs (Γ.set k (some (it i))) (mupd M' D (.lst acc)) fun b M2 =>
        (b = true → ∀ (s : Shared) (H : Hp) (C : Addr) (cl : List (Str × Addr)) (fp : List Addr), WE (X.blk s H scope (compEnvC scope cl C X.env) fp) elt (Γ.set k (some (it i))) M2 fun y M3 => acc.length < sizeLine ∧ ∃ M4, M3 = mupd M4 D (.lst acc) ∧ M4 D = none ∧ I (i + 1) (acc ++ [y]) M4) ∧
        (b = false → ∃ M4, M2 = mupd M4 D (.lst acc) ∧ M4 D = none ∧ I (i + 1) acc M4)) ∧
      (∀ acc M', M' D = none → I n acc M' → Q (.lst acc) M')
theorem we_lc (k : Nat) {elt iter : Expr} {ifs : List Expr} {x : Str} {scope : Scope} {Q : D → MM → Prop} {px : Pos} (hN : X.N.Nodup) (hg : ∀ (s : Shared) (H : Hp) (C : Addr) (cl : List (Str × Addr)) (fp : List Addr), PG (X.blk s H scope (compEnvC scope cl C X.env) fp) (.Name x px) (gName k)) (h : WI X (.Name x px) iter Γ M (LcI X elt ifs k scope Γ Q))
    (ok : BlkOk X.N X.env.scope scope [(x, k)] := by exact blkOk_by (by kernel_rfl)) (hcm : X.calm = true := by rfl) (hs : ∀ x, foldedSetIterable iter X.env x = pure x := by intro _; rfl) :
    WE X (.ListComp elt [⟨.Name x px, iter, ifs, 0⟩] scope pos) Γ M Q := ⟨fun F σ H he hc R hR => by
  exact ⟨_, pe_lc hcm hN pi_wp ok hg (pts_lc (X := X) (ifs := ifs) (scope := scope)) (pe_lcE (X := X) (elt := elt) (scope := scope)) hs, lc_run hN hg h he hc hR⟩⟩
/-- name = [.. for ..] -/
theorem ws_setLc (i k : Nat) {elt iter : Expr} {ifs : List Expr} {x y : Str} {scope : Scope} {px py spos : Pos} (hN : X.N.Nodup) (hg : ∀ (s : Shared) (H : Hp) (C : Addr) (cl : List (Str × Addr)) (fp : List Addr), PG (X.blk s H scope (compEnvC scope cl C X.env) fp) (.Name x px) (gName k))
    (h : WI X (.Name x px) iter Γ M (LcI X elt ifs k scope Γ fun d M2 => WS X rest (Γ.set i (some d)) M2 Φ))
    (hy : X.N[i]? = some y := by rfl) (hyl : X.env.scope.names.lookup y = some .local := by rfl) (hsw : swapsWith (.ListComp elt [⟨.Name x px, iter, ifs, 0⟩] scope pos) (some (.Name y py)) spos.line X.env = pure true := by exact sw_true rfl rfl rfl (by decide +kernel))
    (ok : BlkOk X.N X.env.scope scope [(x, k)] := by exact blkOk_by (by kernel_rfl)) (hcm : X.calm = true := by rfl) (hs : ∀ x, foldedSetIterable iter X.env x = pure x := by intro _; rfl) :
    WS X (.Assign [.Name y py] (.ListComp elt [⟨.Name x px, iter, ifs, 0⟩] scope pos) spos :: rest) Γ M Φ := ⟨fun F σ H he hc E hE => by
  refine ⟨_, pss_cons (ps_setLc hcm hN hy hyl hsw pi_wp ok hg (pts_lc (X := X) (ifs := ifs) (scope := scope)) (pe_lcE (X := X) (elt := elt) (scope := scope)) hs) pss_wp, ?_⟩
  exact lc_run (Q := fun d M2 => WS X rest (Γ.set i (some d)) M2 Φ) (elt := elt) (ifs := ifs) hN hg h he hc fun F1 H1 M1 v d e1 c1 d1 q => q.run F1 _ H1 ((he.mono e1).set d1) c1 E (hE.mono e1)⟩
end
end DL

set_option Elab.async false
set_option linter.all false
set_option autoImplicit false
set_option maxRecDepth 100000
set_option maxHeartbeats 2000000
namespace DL
open PySem L2

section
variable {X : Cx} {Γ : G} {M : MM} {Φ : Fi} {pos p : Pos} {rest : List Stmt}
/-! ### built-in functions and types, called -/
def CD (X : Cx) (r : List V → Hp → VK → Prop) (xs : List D) (M : MM) (Q : D → MM → Prop) : Prop := ∀ (F H : Hp) (vs : List V), Con X.K F M H → Dns X.K F vs xs → ∀ R : VK, Post X F Q R → r vs H R
theorem tCB_wp {es : List Expr} {r : List V → Hp → VK → Prop} {Q : D → MM → Prop} {S : List D → MM → Prop} (hs : ∀ ds M, S ds M → CD X r ds M Q) (h : WA X es Γ M S) {F : Hp} {σ : L2.St} {H : Hp} (he : EnvOk X.K F Γ σ) (hc : Con X.K F M H) {R : VK} (hR : Post X F Q R) :
    tCB r (wpA X es) σ H R := by
  refine h.run F σ H he hc _ fun F1 H1 M1 vs ds e1 c1 d1 q => ?_
  exact hs ds M1 q F1 H1 vs c1 d1 R fun F2 H2 M2 v d e2 c2 d2 q => hR F2 H2 M2 v d (e1.trans e2) c2 d2 q
theorem we_cb {x : Str} {id : String} {e : Expr} {es : List Expr} {r : List V → Hp → VK → Prop} {Q : D → MM → Prop} {S : List D → MM → Prop} (hc : CallR X (.builtin id) r) (hm : X.mg x = none) (hv : bootBuiltins x = some (.builtin id)) (hs : ∀ ds M, S ds M → CD X r ds M Q) (h : WA X (e :: es) Γ M S)
    (hg : Gl X x := by rfl) (hn : x ≠ "__name__" := by decide) (hdb : (x == ("__debug__" : Str)) = false := by decide) (he : starEach (e :: es) X.env = (false, eval e X.env) :: starEach es X.env := by rfl) (hpl : (backTo pos (starEach es X.env)).any (·.1) = false := by rfl) :
    WE X (.Call (.Name x p) (e :: es) [] pos) Γ M Q := ⟨fun F σ H ho hco R hR => ⟨_, pe_callB hc hg hm hv pa_wp hn hdb he hpl, tCB_wp hs h ho hco hR⟩⟩
theorem we_ct {x : Str} {T : String} {e : Expr} {es : List Expr} {r : List V → Hp → VK → Prop} {Q : D → MM → Prop} {S : List D → MM → Prop} (hc : CallR X (.type T) r) (hm : X.mg x = none) (hv : bootBuiltins x = some (.type T)) (hs : ∀ ds M, S ds M → CD X r ds M Q) (h : WA X (e :: es) Γ M S)
    (hg : Gl X x := by rfl) (hn : x ≠ "__name__" := by decide) (hdb : (x == ("__debug__" : Str)) = false := by decide) (he : starEach (e :: es) X.env = (false, eval e X.env) :: starEach es X.env := by rfl) (hpl : (backTo pos (starEach es X.env)).any (·.1) = false := by rfl) :
    WE X (.Call (.Name x p) (e :: es) [] pos) Γ M Q := ⟨fun F σ H ho hco R hR => ⟨_, pe_callTy hc hg hm hv pa_wp hn hdb he hpl, tCB_wp hs h ho hco hR⟩⟩
/-- len -/
@[reducible] def LenQ (ds : List D) (M : MM) (Q : D → MM → Prop) : Prop := match ds with
  | [.lst xs] => Q (.int xs.length) M
  | [.frz xs] => Q (.int xs.length) M
  | [.tup xs] => Q (.int xs.length) M
  | [.raw a] => ∃ xs, M a = some (.lst xs) ∧ Q (.int xs.length) M
  | [.str s] => s.length ≤ sizeLine ∧ Q (.int s.length) M
  | _ => False
theorem Dns.one {K : PySem.W.Frag} {F : Hp} {vs : List V} {d : D} (h : Dns K F vs [d]) : ∃ v, vs = [v] ∧ Dn K F v d := by
  cases h with
  | cons a b => cases b; exact ⟨_, rfl, a⟩
theorem Dns.two {K : PySem.W.Frag} {F : Hp} {vs : List V} {d e : D} (h : Dns K F vs [d, e]) : ∃ v u, vs = [v, u] ∧ Dn K F v d ∧ Dn K F u e := by
  cases h with
  | cons a b =>
    obtain ⟨u, rfl, c⟩ := Dns.one b
    exact ⟨_, u, rfl, a, c⟩
theorem we_len {e : Expr} {Q : D → MM → Prop} (hm : X.mg "len" = none) (h : WE X e Γ M fun d M1 => LenQ [d] M1 Q) (hs : starEach [e] X.env = [(false, eval e X.env)] := by rfl) (hg : Gl X "len" := by rfl) : WE X (.Call (.Name "len" p) [e] [] pos) Γ M Q := by
  refine we_cb (S := fun ds M => LenQ ds M Q) call_len hm PySem.boot_len (fun ds M hs => ?_) (wa_cons (h.imp fun d M1 q => wa_nil q) hs) hg (he := hs)
  intro F H vs c dvs R hR
  cases ds with
  | nil => exact hs.elim
  | cons d r =>
    cases r with
    | cons _ _ => cases d <;> exact hs.elim
    | nil =>
      obtain ⟨v, rfl, dv⟩ := dvs.one
      cases dv with
      | @lst a xs ds k1 k2 => exact ⟨_, xs.length, rfl, .inl ⟨xs, SqL.of (c.sub _ _ k1), rfl⟩, by rw [k2.length]; exact hR F H M _ _ (Same.refl F) c (.int _) hs⟩
      | @frz a xs ds k1 k2 => exact ⟨_, xs.length, rfl, .inl ⟨xs, sqL_mono c.sub k1, rfl⟩, by rw [k2.length]; exact hR F H M _ _ (Same.refl F) c (.int _) hs⟩
      | @tup a xs ds k1 k2 => exact ⟨_, xs.length, rfl, .inr ⟨xs, sqT_mono c.sub k1, rfl⟩, by rw [k2.length]; exact hR F H M _ _ (Same.refl F) c (.int _) hs⟩
      | raw a =>
        obtain ⟨xs, hM, q⟩ : ∃ xs, M a = some (.lst xs) ∧ Q (.int xs.length) M := hs
        obtain ⟨ys, k1, k2⟩ := c.lst hM
        exact ⟨_, ys.length, rfl, .inl ⟨ys, SqL.of k1, rfl⟩, by rw [k2.length]; exact hR F H M _ _ (Same.refl F) c (.int _) q⟩
      | str s => exact ⟨_, s.length, rfl, ⟨hs.1, rfl⟩, hR F H M _ _ (Same.refl F) c (.int _) hs.2⟩
      | _ => exact hs.elim
/-- two ints in, an int out -/
theorem we_b2 {x : Str} {id : String} {a b : Expr} {g : Int → Int → Int} {Q : D → MM → Prop} (hc : CallR X (.builtin id) (fun xs H Q => ∃ i j, xs = [.int i, .int j] ∧ Q (.int (g i j)) H)) (hm : X.mg x = none) (hv : bootBuiltins x = some (.builtin id))
    (h : WE X a Γ M fun y M1 => WE X b Γ M1 fun z M2 => I0 (fun i j => .int (g i j)) y z M2 Q) (hg : Gl X x) (hn : x ≠ "__name__") (hdb : (x == ("__debug__" : Str)) = false)
    (hs : starEach [a, b] X.env = (false, eval a X.env) :: starEach [b] X.env) (hs2 : starEach [b] X.env = [(false, eval b X.env)]) (hpl : (backTo pos (starEach [b] X.env)).any (·.1) = false) :
    WE X (.Call (.Name x p) [a, b] [] pos) Γ M Q := by
  refine we_cb (S := fun ds M => ∃ i j, ds = [.int i, .int j] ∧ Q (.int (g i j)) M) hc hm hv (fun ds M hs => ?_) (wa_cons (h.imp fun y M1 q => wa_cons (q.imp fun z M2 q => wa_nil ?_) hs2) hs) hg hn hdb hs hpl
  · obtain ⟨i, j, rfl, q⟩ := hs
    intro F H vs c dvs R hR
    obtain ⟨v, u, rfl, d1, d2⟩ := dvs.two
    cases d1
    cases d2
    exact ⟨i, j, rfl, hR F H M _ _ (Same.refl F) c (.int _) q⟩
  · cases y with
    | int i =>
      cases z with
      | int j => exact ⟨i, j, rfl, q⟩
      | _ => exact q.elim
    | _ => cases z <;> exact q.elim
theorem max_is (i j : Int) : (if j > i then j else i) = max i j := by
  by_cases h : j > i
  · rw [if_pos h]; omega
  · rw [if_neg h]; omega
theorem min_is (i j : Int) : (if j < i then j else i) = min i j := by
  by_cases h : j < i
  · rw [if_pos h]; omega
  · rw [if_neg h]; omega
theorem we_max {a b : Expr} {Q : D → MM → Prop} (hm : X.mg "max" = none) (h : WE X a Γ M fun y M1 => WE X b Γ M1 fun z M2 => I0 (fun i j => .int (max i j)) y z M2 Q) (hcm : X.calm = true := by rfl) (hg : Gl X "max" := by rfl)
    (hs : starEach [a, b] X.env = (false, eval a X.env) :: starEach [b] X.env := by rfl) (hs2 : starEach [b] X.env = [(false, eval b X.env)] := by rfl) (hpl : (backTo pos (starEach [b] X.env)).any (·.1) = false := by rfl) :
    WE X (.Call (.Name "max" p) [a, b] [] pos) Γ M Q :=
  we_b2 (g := fun i j => max i j) (by have e := call_max2 (X := X) hcm; simp only [max_is] at e; exact e) hm (by decide +kernel) h hg (by decide) (by decide) hs hs2 hpl
theorem we_min {a b : Expr} {Q : D → MM → Prop} (hm : X.mg "min" = none) (h : WE X a Γ M fun y M1 => WE X b Γ M1 fun z M2 => I0 (fun i j => .int (min i j)) y z M2 Q) (hcm : X.calm = true := by rfl) (hg : Gl X "min" := by rfl)
    (hs : starEach [a, b] X.env = (false, eval a X.env) :: starEach [b] X.env := by rfl) (hs2 : starEach [b] X.env = [(false, eval b X.env)] := by rfl) (hpl : (backTo pos (starEach [b] X.env)).any (·.1) = false := by rfl) :
    WE X (.Call (.Name "min" p) [a, b] [] pos) Γ M Q :=
  we_b2 (g := fun i j => min i j) (by have e := call_min2 (X := X) hcm; simp only [min_is] at e; exact e) hm (by decide +kernel) h hg (by decide) (by decide) hs hs2 hpl
/-- one argument -/
theorem we_cb1 {x : Str} {id : String} {e : Expr} {r : List V → Hp → VK → Prop} {Q : D → MM → Prop} {S : D → MM → Prop} (hc : CallR X (.builtin id) r) (hm : X.mg x = none) (hv : bootBuiltins x = some (.builtin id)) (hs : ∀ d M, S d M → CD X r [d] M Q) (h : WE X e Γ M S)
    (hst : starEach [e] X.env = [(false, eval e X.env)]) (hg : Gl X x) (hn : x ≠ "__name__") (hdb : (x == ("__debug__" : Str)) = false) : WE X (.Call (.Name x p) [e] [] pos) Γ M Q := by
  refine we_cb (S := fun ds M => ∃ d, ds = [d] ∧ S d M) hc hm hv (fun ds M ⟨d, e, q⟩ => by subst e; exact hs d M q) (wa_cons (h.imp fun d M1 q => wa_nil ⟨d, rfl, q⟩) hst) hg hn hdb hst
theorem we_ct1 {x : Str} {T : String} {e : Expr} {r : List V → Hp → VK → Prop} {Q : D → MM → Prop} {S : D → MM → Prop} (hc : CallR X (.type T) r) (hm : X.mg x = none) (hv : bootBuiltins x = some (.type T)) (hs : ∀ d M, S d M → CD X r [d] M Q) (h : WE X e Γ M S)
    (hst : starEach [e] X.env = [(false, eval e X.env)]) (hg : Gl X x) (hn : x ≠ "__name__") (hdb : (x == ("__debug__" : Str)) = false) : WE X (.Call (.Name x p) [e] [] pos) Γ M Q := by
  refine we_ct (S := fun ds M => ∃ d, ds = [d] ∧ S d M) hc hm hv (fun ds M ⟨d, e, q⟩ => by subst e; exact hs d M q) (wa_cons (h.imp fun d M1 q => wa_nil ⟨d, rfl, q⟩) hst) hg hn hdb hst
theorem abs_is (i : Int) : (if i < 0 then -i else i) = (i.natAbs : Int) := by
  by_cases h : i < 0
  · rw [if_pos h]; omega
  · rw [if_neg h]; omega
theorem we_abs {e : Expr} {Q : D → MM → Prop} (hm : X.mg "abs" = none) (h : WE X e Γ M fun d M1 => ∃ i : Int, d = .int i ∧ Q (.int (i.natAbs : Int)) M1) (hs : starEach [e] X.env = [(false, eval e X.env)] := by rfl) (hg : Gl X "abs" := by rfl) : WE X (.Call (.Name "abs" p) [e] [] pos) Γ M Q := by
  refine we_cb1 call_abs hm (by decide +kernel) (fun d M ⟨i, hd, q⟩ => ?_) h hs hg (by decide) (by decide)
  subst hd
  intro F H vs c dvs R hR
  obtain ⟨v, rfl, dv⟩ := dvs.one
  cases dv
  exact ⟨i, rfl, by rw [abs_is]; exact hR F H M _ _ (Same.refl F) c (.int _) q⟩
/-- int(..) -/
@[reducible] def IntQ (d : D) (M : MM) (Q : D → MM → Prop) : Prop := match d with
  | .int i => Q (.int i) M
  | .bl b => Q (.int (if b then 1 else 0)) M
  | .str s => ∃ n, PySem.intText? s = some n ∧ s.length ≤ 640 ∧ Q (.int n) M
  | _ => False
theorem we_intc {e : Expr} {Q : D → MM → Prop} (hm : X.mg "int" = none) (h : WE X e Γ M fun d M1 => IntQ d M1 Q) (hs : starEach [e] X.env = [(false, eval e X.env)] := by rfl) (hg : Gl X "int" := by rfl) : WE X (.Call (.Name "int" p) [e] [] pos) Γ M Q := by
  refine we_ct1 (call_int1.or call_int_str) hm (by decide +kernel) (fun d M hs => ?_) h hs hg (by decide) (by decide)
  intro F H vs c dvs R hR
  obtain ⟨v, rfl, dv⟩ := dvs.one
  cases dv with
  | int i => exact .inl (.inl ⟨i, rfl, hR F H M _ _ (Same.refl F) c (.int _) hs⟩)
  | bl b => exact .inl (.inr ⟨b, rfl, hR F H M _ _ (Same.refl F) c (.int _) hs⟩)
  | str s =>
    obtain ⟨n, h1, h2, q⟩ : ∃ n, PySem.intText? s = some n ∧ s.length ≤ 640 ∧ Q (.int n) M := hs
    exact .inr ⟨s, n, rfl, h1, h2, hR F H M _ _ (Same.refl F) c (.int _) q⟩
  | _ => exact hs.elim
/-- str(an int) -/
theorem we_strc {e : Expr} {Q : D → MM → Prop} (hm : X.mg "str" = none) (h : WE X e Γ M fun d M1 => ∃ i : Int, d = .int i ∧ i.natAbs.log2 < 1920 ∧ Q (.str (toString i : String)) M1) (hs : starEach [e] X.env = [(false, eval e X.env)] := by rfl) (hg : Gl X "str" := by rfl) : WE X (.Call (.Name "str" p) [e] [] pos) Γ M Q := by
  refine we_ct1 call_str_int hm (by decide +kernel) (fun d M ⟨i, hd, hl, q⟩ => ?_) h hs hg (by decide) (by decide)
  subst hd
  intro F H vs c dvs R hR
  obtain ⟨v, rfl, dv⟩ := dvs.one
  cases dv
  exact ⟨i, rfl, hl, hR F H M _ _ (Same.refl F) c (.str _) q⟩
/-- tuple(..) -/
@[reducible] def TupQ (d : D) (M : MM) (Q : D → MM → Prop) : Prop := match d with
  | .lst xs => Q (.tup xs) M
  | .frz xs => Q (.tup xs) M
  | .tup xs => Q (.tup xs) M
  | .raw a => ∃ xs, M a = some (.lst xs) ∧ Q (.tup xs) M
  | _ => False
theorem we_tupc {e : Expr} {Q : D → MM → Prop} (hm : X.mg "tuple" = none) (h : WE X e Γ M fun d M1 => TupQ d M1 Q) (hs : starEach [e] X.env = [(false, eval e X.env)] := by rfl) (hg : Gl X "tuple" := by rfl) : WE X (.Call (.Name "tuple" p) [e] [] pos) Γ M Q := by
  refine we_ct1 call_tuple_of hm (by decide +kernel) (fun d M hs => ?_) h hs hg (by decide) (by decide)
  intro F H vs c dvs R hR
  obtain ⟨v, rfl, dv⟩ := dvs.one
  cases dv with
  | @lst a xs ds k1 k2 =>
    refine ⟨a, xs, rfl, .inl ⟨SqL.of (c.sub _ _ k1), fun l hl => ?_⟩⟩
    have s := same_new (o := .tup xs) (c.sub.free hl)
    exact hR _ _ M _ _ s (c.new hl) (.tup (.inl (.inl upd_same)) (k2.mono s)) hs
  | @frz a xs ds k1 k2 =>
    refine ⟨a, xs, rfl, .inl ⟨sqL_mono c.sub k1, fun l hl => ?_⟩⟩
    have s := same_new (o := .tup xs) (c.sub.free hl)
    exact hR _ _ M _ _ s (c.new hl) (.tup (.inl (.inl upd_same)) (k2.mono s)) hs
  | @tup a xs ds k1 k2 => exact ⟨a, xs, rfl, .inr ⟨sqT_mono c.sub k1, hR F H M _ _ (Same.refl F) c (.tup k1 k2) hs⟩⟩
  | raw a =>
    obtain ⟨ds, hM, q⟩ : ∃ xs, M a = some (.lst xs) ∧ Q (.tup xs) M := hs
    obtain ⟨ys, k1, k2⟩ := c.lst hM
    refine ⟨a, ys, rfl, .inl ⟨SqL.of k1, fun l hl => ?_⟩⟩
    have s := same_new (o := .tup ys) (c.sub.free hl)
    exact hR _ _ M _ _ s (c.new hl) (.tup (.inl (.inl upd_same)) (k2.mono s)) q
  | _ => exact hs.elim
/-- list(..): a new list that may change -/
@[reducible] def LstQ (d : D) (M : MM) (Q : List D → Prop) : Prop := match d with
  | .lst xs => Q xs
  | .frz xs => Q xs
  | .tup xs => Q xs
  | .raw a => ∃ xs, M a = some (.lst xs) ∧ Q xs
  | _ => False
theorem we_lstc {e : Expr} {Q : D → MM → Prop} (hm : X.mg "list" = none) (h : WE X e Γ M fun d M1 => LstQ d M1 fun xs => ∀ a, M1 a = none → Q (.raw a) (mupd M1 a (.lst xs))) (hs : starEach [e] X.env = [(false, eval e X.env)] := by rfl) (hg : Gl X "list" := by rfl) : WE X (.Call (.Name "list" p) [e] [] pos) Γ M Q := by
  refine we_ct1 call_list_of hm (by decide +kernel) (fun d M hs => ?_) h hs hg (by decide) (by decide)
  intro F H vs c dvs R hR
  obtain ⟨v, rfl, dv⟩ := dvs.one
  cases dv with
  | @lst a xs ds k1 k2 =>
    exact ⟨a, xs, rfl, .inl (SqL.of (c.sub _ _ k1)), fun l hl => hR F _ _ _ _ (Same.refl F) (c.newM hl k2) (.raw l) (hs l (c.fresh hl))⟩
  | @frz a xs ds k1 k2 =>
    exact ⟨a, xs, rfl, .inl (sqL_mono c.sub k1), fun l hl => hR F _ _ _ _ (Same.refl F) (c.newM hl k2) (.raw l) (hs l (c.fresh hl))⟩
  | @tup a xs ds k1 k2 =>
    exact ⟨a, xs, rfl, .inr (sqT_mono c.sub k1), fun l hl => hR F _ _ _ _ (Same.refl F) (c.newM hl k2) (.raw l) (hs l (c.fresh hl))⟩
  | raw a =>
    obtain ⟨ds, hM, q⟩ : ∃ xs, M a = some (.lst xs) ∧ ∀ b, M b = none → Q (.raw b) (mupd M b (.lst xs)) := hs
    obtain ⟨ys, k1, k2⟩ := c.lst hM
    exact ⟨a, ys, rfl, .inl (SqL.of k1), fun l hl => hR F _ _ _ _ (Same.refl F) (c.newM hl k2) (.raw l) (q l (c.fresh hl))⟩
  | _ => exact hs.elim
theorem we_divmod {a b : Expr} {Q : D → MM → Prop} (hm : X.mg "divmod" = none) (h : WE X a Γ M fun y M1 => WE X b Γ M1 fun z M2 => ∃ i j, y = .int i ∧ z = .int j ∧ 0 < j ∧ j < 1073741824 ∧ Q (.tup [.int (i / j), .int (i % j)]) M2) (hg : Gl X "divmod" := by rfl)
    (hs : starEach [a, b] X.env = (false, eval a X.env) :: starEach [b] X.env := by rfl) (hs2 : starEach [b] X.env = [(false, eval b X.env)] := by rfl) (hpl : (backTo pos (starEach [b] X.env)).any (·.1) = false := by rfl) :
    WE X (.Call (.Name "divmod" p) [a, b] [] pos) Γ M Q := by
  refine we_cb (S := fun ds M => ∃ i j, ds = [.int i, .int j] ∧ 0 < j ∧ j < 1073741824 ∧ Q (.tup [.int (i / j), .int (i % j)]) M) call_divmod hm (by decide +kernel) (fun ds M hs => ?_) (wa_cons (h.imp fun y M1 q => wa_cons (q.imp fun z M2 ⟨i, j, h1, h2, h3⟩ => wa_nil ⟨i, j, by rw [h1, h2], h3⟩) hs2) hs) hg (by decide) (by decide) hs hpl
  obtain ⟨i, j, rfl, h1, h2, q⟩ := hs
  intro F H vs c dvs R hR
  obtain ⟨v, u, rfl, d1, d2⟩ := dvs.two
  cases d1
  cases d2
  refine ⟨i, j, rfl, ⟨h1, h2⟩, fun l hl => ?_⟩
  have s := same_new (o := .tup [.int (i / j), .int (i % j)]) (c.sub.free hl)
  exact hR _ _ M _ _ s (c.new hl) (.tup (.inl (.inl upd_same)) (.cons (.int _) (.cons (.int _) .nil))) q
/-- sum, max, min, all, any of one list -/
@[reducible] def seqOf (d : D) (M : MM) : Option (List D) := match d with
  | .lst xs => some xs
  | .frz xs => some xs
  | .raw a => match M a with
    | some (.lst xs) => some xs
    | _ => none
  | _ => none
theorem seqOf_at {K : PySem.W.Frag} {F H : Hp} {v : V} {d : D} {xs : List D} (c : Con K F M H) (dv : Dn K F v d) (h : seqOf d M = some xs) : ∃ a vs, v = .ref a ∧ SqL K H a vs ∧ Dns K F vs xs := by
  cases dv with
  | @lst a ys ds k1 k2 => cases h; exact ⟨a, ys, rfl, SqL.of (c.sub _ _ k1), k2⟩
  | @frz a ys ds k1 k2 => cases h; exact ⟨a, ys, rfl, sqL_mono c.sub k1, k2⟩
  | raw a =>
    have h' : (match M a with | some (.lst xs) => some xs | _ => none) = some xs := h
    cases e : M a with
    | none => rw [e] at h'; cases h'
    | some m =>
      rw [e] at h'
      cases m with
      | lst ds =>
        cases h'
        obtain ⟨ys, k1, k2⟩ := c.lst e
        exact ⟨a, ys, rfl, SqL.of k1, k2⟩
      | ins C ns ds => cases h'
  | _ => cases h
theorem we_sum {e : Expr} {Q : D → MM → Prop} (hm : X.mg "sum" = none) (h : WE X e Γ M fun d M1 => ∃ ns : List Int, seqOf d M1 = some (ns.map .int) ∧ Q (.int ns.sum) M1) (hcm : X.calm = true := by rfl) (hs : starEach [e] X.env = [(false, eval e X.env)] := by rfl) (hg : Gl X "sum" := by rfl) : WE X (.Call (.Name "sum" p) [e] [] pos) Γ M Q := by
  refine we_cb1 (cr_sum hcm) hm (by decide +kernel) (fun d M ⟨ns, hd, q⟩ => ?_) h hs hg (by decide) (by decide)
  intro F H vs c dvs R hR
  obtain ⟨v, rfl, dv⟩ := dvs.one
  obtain ⟨a, ws, rfl, h1, h2⟩ := seqOf_at c dv hd
  rw [h2.ints] at h1
  exact ⟨a, ns, rfl, h1, hR F H M _ _ (Same.refl F) c (.int _) q⟩
theorem we_all {e : Expr} {Q : D → MM → Prop} (hm : X.mg "all" = none) (h : WE X e Γ M fun d M1 => ∃ bs : List Bool, seqOf d M1 = some (bs.map .bl) ∧ Q (.bl (bs.all id)) M1) (hcm : X.calm = true := by rfl) (hs : starEach [e] X.env = [(false, eval e X.env)] := by rfl) (hg : Gl X "all" := by rfl) : WE X (.Call (.Name "all" p) [e] [] pos) Γ M Q := by
  refine we_cb1 (cr_all hcm) hm (by decide +kernel) (fun d M ⟨ns, hd, q⟩ => ?_) h hs hg (by decide) (by decide)
  intro F H vs c dvs R hR
  obtain ⟨v, rfl, dv⟩ := dvs.one
  obtain ⟨a, ws, rfl, h1, h2⟩ := seqOf_at c dv hd
  rw [h2.bls] at h1
  exact ⟨a, ns, rfl, h1, hR F H M _ _ (Same.refl F) c (.bl _) q⟩
theorem we_any {e : Expr} {Q : D → MM → Prop} (hm : X.mg "any" = none) (h : WE X e Γ M fun d M1 => ∃ bs : List Bool, seqOf d M1 = some (bs.map .bl) ∧ Q (.bl (bs.any id)) M1) (hcm : X.calm = true := by rfl) (hs : starEach [e] X.env = [(false, eval e X.env)] := by rfl) (hg : Gl X "any" := by rfl) : WE X (.Call (.Name "any" p) [e] [] pos) Γ M Q := by
  refine we_cb1 (cr_any hcm) hm (by decide +kernel) (fun d M ⟨ns, hd, q⟩ => ?_) h hs hg (by decide) (by decide)
  intro F H vs c dvs R hR
  obtain ⟨v, rfl, dv⟩ := dvs.one
  obtain ⟨a, ws, rfl, h1, h2⟩ := seqOf_at c dv hd
  rw [h2.bls] at h1
  exact ⟨a, ns, rfl, h1, hR F H M _ _ (Same.refl F) c (.bl _) q⟩
theorem we_maxL {e : Expr} {Q : D → MM → Prop} (hm : X.mg "max" = none) (h : WE X e Γ M fun d M1 => ∃ ns : List Int, seqOf d M1 = some (ns.map .int) ∧ 0 < ns.length ∧ ∀ m, m ∈ ns → (∀ y, y ∈ ns → y ≤ m) → Q (.int m) M1) (hcm : X.calm = true := by rfl) (hs : starEach [e] X.env = [(false, eval e X.env)] := by rfl) (hg : Gl X "max" := by rfl) : WE X (.Call (.Name "max" p) [e] [] pos) Γ M Q := by
  refine we_cb1 (cr_max hcm) hm (by decide +kernel) (fun d M ⟨ns, hd, hl, q⟩ => ?_) h hs hg (by decide) (by decide)
  intro F H vs c dvs R hR
  obtain ⟨v, rfl, dv⟩ := dvs.one
  obtain ⟨a, ws, rfl, h1, h2⟩ := seqOf_at c dv hd
  rw [h2.ints] at h1
  exact ⟨a, ns, rfl, h1, hl, fun m h1 h2 => hR F H M _ _ (Same.refl F) c (.int _) (q m h1 h2)⟩
/-- type(e) is T -/
@[reducible] def tyD : D → Option String
  | .non => some "NoneType"
  | .bl _ => some "bool"
  | .int _ => some "int"
  | .str _ => some "str"
  | .lst _ => some "list"
  | .frz _ => some "list"
  | .tup _ => some "tuple"
  | _ => none
theorem tyD_of {K : PySem.W.Frag} {F H : Hp} {v : V} {d : D} {T : String} (e : Same F H) (dv : Dn K F v d) (h : tyD d = some T) : TyB K H v T := by
  cases dv with
  | non => cases h; exact .non
  | bl b => cases h; exact .bl b
  | int i => cases h; exact .int i
  | str s => cases h; exact .str s
  | lst k1 k2 => cases h; exact .lst (SqL.of (e _ _ k1))
  | frz k1 k2 => cases h; exact .lst (sqL_mono e k1)
  | tup k1 k2 => cases h; exact .tup (sqT_mono e k1)
  | _ => cases h
theorem tTypeIs_wp {e : Expr} {T : String} {Q : D → MM → Prop} (f : Bool → Bool) {r : R2} (hr : ∀ a b H R, R (.bl (f (decide (a = b)))) H → r (.ty a) (.ty b) H R) (h : WE X e Γ M fun d M1 => ∃ t, tyD d = some t ∧ Q (.bl (f (decide (t = T)))) M1) {F : Hp} {σ : L2.St} {H : Hp} (he : EnvOk X.K F Γ σ) (hc : Con X.K F M H) {R : VK} (hR : Post X F Q R) :
    tOp r (tCB (rTyp X.K) (tCons (wpE X e) tNil)) (tC (.ty T)) σ H R := by
  refine h.run F σ H he hc _ fun F1 H1 M1 v d e1 c1 d1 ⟨t, ht, q⟩ => ?_
  exact ⟨v, t, rfl, tyD_of c1.sub d1 ht, hr _ _ _ _ (hR F1 H1 M1 _ _ e1 c1 (.bl _) q)⟩
theorem we_typeIs {e : Expr} {x : Str} {T : String} {p1 p2 p3 : Pos} {Q : D → MM → Prop} (hm : X.mg "type" = none) (hT : X.mg x = none) (hv : bootBuiltins x = some (.type T)) (h : WE X e Γ M fun d M1 => ∃ t, tyD d = some t ∧ Q (.bl (decide (t = T))) M1)
    (hs : starEach [e] X.env = [(false, eval e X.env)] := by rfl) (hg : Gl X "type" := by rfl) (hgT : Gl X x := by rfl) (hn : x ≠ "__name__" := by decide) (hdb : (x == ("__debug__" : Str)) = false := by decide) :
    WE X (.Compare (.Call (.Name "type" p1) [e] [] p2) [.Is] [.Name x p3] pos) Γ M Q := ⟨fun F σ H he hc R hR =>
  ⟨_, pe_cmpR op_isTyB (pe_callTy call_type1 hg hm (by decide +kernel) (pa_cons pe_wp pa_nil hs) (by decide) (by decide) hs) (pe_bltn (v := .ty T) hgT hT hv (show RelV (.ty T) (.type T) from rfl) hn hdb) (nomark _), tTypeIs_wp id (fun a b H R q => ⟨a, b, rfl, rfl, q⟩) h he hc hR⟩⟩
theorem we_typeNot {e : Expr} {x : Str} {T : String} {p1 p2 p3 : Pos} {Q : D → MM → Prop} (hm : X.mg "type" = none) (hT : X.mg x = none) (hv : bootBuiltins x = some (.type T)) (h : WE X e Γ M fun d M1 => ∃ t, tyD d = some t ∧ Q (.bl (!decide (t = T))) M1)
    (hs : starEach [e] X.env = [(false, eval e X.env)] := by rfl) (hg : Gl X "type" := by rfl) (hgT : Gl X x := by rfl) (hn : x ≠ "__name__" := by decide) (hdb : (x == ("__debug__" : Str)) = false := by decide) :
    WE X (.Compare (.Call (.Name "type" p1) [e] [] p2) [.IsNot] [.Name x p3] pos) Γ M Q := ⟨fun F σ H he hc R hR =>
  ⟨_, pe_cmpR op_notTyB (pe_callTy call_type1 hg hm (by decide +kernel) (pa_cons pe_wp pa_nil hs) (by decide) (by decide) hs) (pe_bltn (v := .ty T) hgT hT hv (show RelV (.ty T) (.type T) from rfl) hn hdb) (nomark _), tTypeIs_wp not (fun a b H R q => ⟨a, b, rfl, rfl, q⟩) h he hc hR⟩⟩
end
end DL

set_option Elab.async false
set_option linter.all false
set_option autoImplicit false
set_option maxRecDepth 100000
set_option maxHeartbeats 2000000
namespace DL
open PySem L2

theorem Room.u65 {k : Nat} {A : Around} (r : Room k A) : A.units + 65 < cLine := by have := r.un; omega

section
variable {X : Cx} {Γ : G} {M : MM} {Φ : Fi} {pos p apos : Pos} {rest : List Stmt}
/-! ### names of the module -/
theorem we_glob {x : Str} {v : V} {u : Value} {d : D} {Q : D → MM → Prop} (hm : X.mg x = some u) (r : RelV v u) (hd : ∀ F, Dn X.K F v d) (hq : Q d M) (hg : Gl X x := by rfl) (hdb : (x == ("__debug__" : Str)) = false := by decide) : WE X (.Name x pos) Γ M Q := ⟨fun F σ H he hc R hR =>
  ⟨_, pe_glob hg hm r hdb, hR F H M v d (Same.refl F) hc (hd F) hq⟩⟩
theorem we_globI {x : Str} {i : Int} {t : Tok} {Q : D → MM → Prop} (hm : X.mg x = some (.int i t)) (hq : Q (.int i) M) (hg : Gl X x := by rfl) (hdb : (x == ("__debug__" : Str)) = false := by decide) : WE X (.Name x pos) Γ M Q :=
  we_glob (v := .int i) hm ⟨t, rfl⟩ (fun F => .int i) hq hg hdb

/-! ### in, not in -/
def rInDT (K : PySem.W.Frag) (f : Bool → Bool) : R2 := fun x y H Q => ∃ d ds, Dp K H x d ∧ (Dp K H y (.list ds) ∨ Dp K H y (.tuple ds)) ∧ SeqAt.shaped d = true ∧ SeqAt.shaped (.list ds) = true ∧ Q (.bl (f (ds.any fun z => PyData.eqv z d))) H
theorem op_inDT (hu : X.A.units + 65 < cLine) : OpR X (compareOp .In) (rInDT X.K id) := by
  intro pins s σ H x y v u Q I rx ry h
  obtain ⟨d, ds, hd, he, sd, se, q⟩ := h
  obtain ⟨as, r1⟩ := Dp.reads I d x v hd rx
  rcases he with he | he
  · obtain ⟨bs, r2⟩ := Dp.reads I (.list ds) y u he ry
    exact SeqAt.in_list_reads r2 r1 (SeqAt.canLay_of_shaped se) (SeqAt.canLay_of_shaped sd) (PyProof.Rows.room_in_shaped sd hu) ⟨.bl _, H, I, rfl, q⟩
  · obtain ⟨bs, r2⟩ := Dp.reads I (.tuple ds) y u he ry
    exact SeqAt.in_tuple_reads r2 r1 (SeqAt.canLay_of_shaped se) (SeqAt.canLay_of_shaped sd) (PyProof.Rows.room_in_shaped sd hu) ⟨.bl _, H, I, rfl, q⟩
theorem op_notInDT (hu : X.A.units + 65 < cLine) : OpR X (compareOp .NotIn) (rInDT X.K not) := by
  intro pins s σ H x y v u Q I rx ry h
  obtain ⟨d, ds, hd, he, sd, se, q⟩ := h
  obtain ⟨as, r1⟩ := Dp.reads I d x v hd rx
  rcases he with he | he
  · obtain ⟨bs, r2⟩ := Dp.reads I (.list ds) y u he ry
    exact SeqAt.notIn_list_reads r2 r1 (SeqAt.canLay_of_shaped se) (SeqAt.canLay_of_shaped sd) (PyProof.Rows.room_in_shaped sd hu) ⟨.bl _, H, I, rfl, q⟩
  · obtain ⟨bs, r2⟩ := Dp.reads I (.tuple ds) y u he ry
    exact SeqAt.notIn_tuple_reads r2 r1 (SeqAt.canLay_of_shaped se) (SeqAt.canLay_of_shaped sd) (PyProof.Rows.room_in_shaped sd hu) ⟨.bl _, H, I, rfl, q⟩
/-- x among data -/
@[reducible] def InQ (x y : D) (M : MM) (Q : Bool → MM → Prop) : Prop := match y with
  | .lst ds => ∃ p qs, py x = some p ∧ pys ds = some qs ∧ SeqAt.shaped p = true ∧ SeqAt.shaped (.list qs) = true ∧ Q (qs.any fun z => PyData.eqv z p) M
  | .tup ds => ∃ p qs, py x = some p ∧ pys ds = some qs ∧ SeqAt.shaped p = true ∧ SeqAt.shaped (.list qs) = true ∧ Q (qs.any fun z => PyData.eqv z p) M
  | _ => False
theorem opd_in (f : Bool → Bool) {x y : D} {Q : D → MM → Prop} (hs : InQ x y M fun b M => Q (.bl (f b)) M) : OpD X (rInDT X.K f) x y M Q := by
  intro F H v u c dv du R hR
  cases du with
  | @lst a xs ds k1 k2 =>
    obtain ⟨p, qs, a1, a2, a3, a4, a5⟩ := hs
    exact ⟨p, qs, dp_of c.sub dv a1, .inl (.lst (.inl (.inl (c.sub _ _ k1))) (dps_of c.sub k2 a2)), a3, a4, hR F H M _ _ (Same.refl F) c (.bl _) a5⟩
  | @tup a xs ds k1 k2 =>
    obtain ⟨p, qs, a1, a2, a3, a4, a5⟩ := hs
    exact ⟨p, qs, dp_of c.sub dv a1, .inr (.tup (sqT_mono c.sub k1) (dps_of c.sub k2 a2)), a3, a4, hR F H M _ _ (Same.refl F) c (.bl _) a5⟩
  | _ => exact hs.elim
theorem InQ.imp {x y : D} {Q Q' : Bool → MM → Prop} (h : InQ x y M Q) (hq : ∀ b M, Q b M → Q' b M) : InQ x y M Q' := by
  cases y with
  | lst ds => obtain ⟨p, qs, a1, a2, a3, a4, a5⟩ := h; exact ⟨p, qs, a1, a2, a3, a4, hq _ _ a5⟩
  | tup ds => obtain ⟨p, qs, a1, a2, a3, a4, a5⟩ := h; exact ⟨p, qs, a1, a2, a3, a4, hq _ _ a5⟩
  | _ => exact h.elim
theorem we_in {a b : Expr} {Q : D → MM → Prop} (hu : X.A.units + 65 < cLine) (h : WE X a Γ M fun x M1 => WE X b Γ M1 fun y M2 => InQ x y M2 fun b M => Q (.bl b) M) (hm : behindInMarks .In b = false := by rfl) : WE X (.Compare a [.In] [b] pos) Γ M Q :=
  we_cmpR (S := fun x y M Q => InQ x y M fun b M => Q (.bl b) M) (op_inDT hu) (fun _ _ _ hs => opd_in id hs) hm h
theorem we_nin {a b : Expr} {Q : D → MM → Prop} (hu : X.A.units + 65 < cLine) (h : WE X a Γ M fun x M1 => WE X b Γ M1 fun y M2 => InQ x y M2 fun b M => Q (.bl (!b)) M) (hm : behindInMarks .NotIn b = false := by rfl) : WE X (.Compare a [.NotIn] [b] pos) Γ M Q :=
  we_cmpR (S := fun x y M Q => InQ x y M fun b M => Q (.bl (!b)) M) (op_notInDT hu) (fun _ _ _ hs => opd_in not hs) hm h
theorem wt_in {a b : Expr} {Q : Bool → MM → Prop} (hu : X.A.units + 65 < cLine) (h : WE X a Γ M fun x M1 => WE X b Γ M1 fun y M2 => InQ x y M2 Q) (hm : behindInMarks .In b = false := by rfl) : WT X (.Compare a [.In] [b] pos) Γ M Q :=
  wt_cmpR (S := fun x y M Q => InQ x y M fun b M => Q (.bl b) M) (op_inDT hu) (fun _ _ _ hs => opd_in id hs) hm (h.imp fun x M1 h1 => h1.imp fun y M2 h2 => h2.imp fun b M q => ⟨b, rfl, q⟩)
theorem wt_nin {a b : Expr} {Q : Bool → MM → Prop} (hu : X.A.units + 65 < cLine) (h : WE X a Γ M fun x M1 => WE X b Γ M1 fun y M2 => InQ x y M2 fun b M => Q (!b) M) (hm : behindInMarks .NotIn b = false := by rfl) : WT X (.Compare a [.NotIn] [b] pos) Γ M Q :=
  wt_cmpR (S := fun x y M Q => InQ x y M fun b M => Q (.bl (!b)) M) (op_notInDT hu) (fun _ _ _ hs => opd_in not hs) hm (h.imp fun x M1 h1 => h1.imp fun y M2 h2 => h2.imp fun b M q => ⟨!b, rfl, q⟩)

/-! ### methods of texts -/
theorem we_m0 {id : String} {name : Str} {o : Expr} {r : V → List V → Hp → VK → Prop} {Q : D → MM → Prop} {S : Str → MM → Prop} (slot : Slot "str" name id) (ty : typeOf (.builtin id) = pure (.type "method_descriptor")) (rule : MtR X id r)
    (hs : ∀ s M, S s M → ∀ (F H : Hp), Con X.K F M H → ∀ R : VK, Post X F Q R → r (.str s) [] H R) (h : WE X o Γ M fun x M1 => ∃ s, x = .str s ∧ S s M1)
    (hbase : attributeBase o name X.env (eval o X.env) = eval o X.env := by rfl) (hline : (apos.endLine == pos.line) = true := by rfl) : WE X (.Call (.Attribute o name apos) [] [] pos) Γ M Q := ⟨fun F σ H he hc R hR => by
  refine ⟨_, pe_m0 slot ty rule pe_wp hbase hline, h.run F σ H he hc _ fun F1 H1 M1 v x e1 c1 d1 ⟨s, hx, q⟩ => ?_⟩
  subst hx
  cases d1
  exact ⟨⟨s, rfl⟩, hs s M1 q F1 H1 c1 R fun F2 H2 M2 v d e2 c2 d2 q => hR F2 H2 M2 v d (e1.trans e2) c2 d2 q⟩⟩
theorem we_m1 {id : String} {name : Str} {o e : Expr} {r : V → List V → Hp → VK → Prop} {Q : D → MM → Prop} {S : Str → D → MM → Prop} (slot : Slot "str" name id) (ty : typeOf (.builtin id) = pure (.type "method_descriptor")) (rule : MtR X id r)
    (hs : ∀ s d M, S s d M → ∀ (F H : Hp) (v : V), Con X.K F M H → Dn X.K F v d → ∀ R : VK, Post X F Q R → r (.str s) [v] H R) (h : WE X o Γ M fun x M1 => ∃ s, x = .str s ∧ WE X e Γ M1 fun y M2 => S s y M2)
    (hst : starEach [e] X.env = [(false, eval e X.env)] := by rfl) (hbase : attributeBase o name X.env (eval o X.env) = eval o X.env := by rfl) (hline : (apos.endLine == pos.line) = true := by rfl) : WE X (.Call (.Attribute o name apos) [e] [] pos) Γ M Q := ⟨fun F σ H he hc R hR => by
  refine ⟨_, pe_m1 slot ty rule pe_wp pe_wp hst hbase hline, h.run F σ H he hc _ fun F1 H1 M1 v x e1 c1 d1 ⟨s, hx, q⟩ => ?_⟩
  subst hx
  cases d1
  refine ⟨⟨s, rfl⟩, q.run F1 σ H1 (he.mono e1) c1 _ fun F2 H2 M2 u y e2 c2 d2 q2 => ?_⟩
  exact hs s y M2 q2 F2 H2 u c2 d2 R fun F3 H3 M3 v d e3 c3 d3 q => hR F3 H3 M3 v d ((e1.trans e2).trans e3) c3 d3 q⟩
theorem we_split {o e : Expr} {Q : D → MM → Prop} (h : WE X o Γ M fun x M1 => ∃ s, x = .str s ∧ WE X e Γ M1 fun y M2 => ∃ t, y = .str t ∧ (t.length == 0) = false ∧ s.length + 2 ≤ sizeLine ∧ Q (.lst ((Txt.split s t).map .str)) M2)
    (hst : starEach [e] X.env = [(false, eval e X.env)] := by rfl) (hbase : attributeBase o "split" X.env (eval o X.env) = eval o X.env := by rfl) (hline : (apos.endLine == pos.line) = true := by rfl) : WE X (.Call (.Attribute o "split" apos) [e] [] pos) Γ M Q :=
  we_m1 (S := fun s y M => ∃ t, y = .str t ∧ (t.length == 0) = false ∧ s.length + 2 ≤ sizeLine ∧ Q (.lst ((Txt.split s t).map .str)) M) F.slot_str_split F.type_str_split mt_split (fun s d M ⟨t, hd, h1, h2, q⟩ => by
    subst hd
    intro F H v c dv R hR
    cases dv
    refine ⟨s, t, rfl, rfl, h1, h2, fun p hp => ?_⟩
    exact hR _ _ M _ _ (same_new (c.sub.free hp)) (c.new hp) (.lst upd_same (Dns.of_strs _)) q) h hst hbase hline
theorem we_join {o e : Expr} {Q : D → MM → Prop} (h : WE X o Γ M fun x M1 => ∃ s, x = .str s ∧ WE X e Γ M1 fun y M2 => ∃ ys : List Str, (y = .lst (ys.map .str) ∨ y = .tup (ys.map .str)) ∧ (ys.map (·.length)).sum + ys.length * s.length ≤ 16777216 ∧ Q (.str (Txt.join s ys)) M2)
    (hst : starEach [e] X.env = [(false, eval e X.env)] := by rfl) (hbase : attributeBase o "join" X.env (eval o X.env) = eval o X.env := by rfl) (hline : (apos.endLine == pos.line) = true := by rfl) : WE X (.Call (.Attribute o "join" apos) [e] [] pos) Γ M Q :=
  we_m1 (S := fun s y M => ∃ ys : List Str, (y = .lst (ys.map .str) ∨ y = .tup (ys.map .str)) ∧ (ys.map (·.length)).sum + ys.length * s.length ≤ 16777216 ∧ Q (.str (Txt.join s ys)) M) F.slot_str_join F.type_str_join mt_join (fun s d M ⟨ys, hd, h1, q⟩ => by
    intro F H v c dv R hR
    rcases hd with hd | hd
    · subst hd
      cases dv with
      | @lst a xs _ k1 k2 =>
        refine ⟨s, a, ys, rfl, rfl, .inl ?_, h1, hR F H M _ _ (Same.refl F) c (.str _) q⟩
        rw [← k2.strs]
        exact SqL.of (c.sub _ _ k1)
    · subst hd
      cases dv with
      | @tup a xs _ k1 k2 =>
        refine ⟨s, a, ys, rfl, rfl, .inr ?_, h1, hR F H M _ _ (Same.refl F) c (.str _) q⟩
        rw [← k2.strs]
        exact sqT_mono c.sub k1) h hst hbase hline
theorem we_removeprefix {o e : Expr} {Q : D → MM → Prop} (h : WE X o Γ M fun x M1 => ∃ s, x = .str s ∧ WE X e Γ M1 fun y M2 => ∃ t, y = .str t ∧ s.length ≤ sizeLine ∧ Q (.str (Txt.removeprefix s t)) M2)
    (hst : starEach [e] X.env = [(false, eval e X.env)] := by rfl) (hbase : attributeBase o "removeprefix" X.env (eval o X.env) = eval o X.env := by rfl) (hline : (apos.endLine == pos.line) = true := by rfl) : WE X (.Call (.Attribute o "removeprefix" apos) [e] [] pos) Γ M Q :=
  we_m1 (S := fun s y M => ∃ t, y = .str t ∧ s.length ≤ sizeLine ∧ Q (.str (Txt.removeprefix s t)) M) F.slot_str_removeprefix F.type_str_removeprefix mt_removeprefix (fun s d M ⟨t, hd, h1, q⟩ => by
    subst hd
    intro F H v c dv R hR
    cases dv
    exact ⟨s, t, rfl, rfl, h1, hR F H M _ _ (Same.refl F) c (.str _) q⟩) h hst hbase hline
theorem we_isdecimal {o : Expr} {Q : D → MM → Prop} (h : WE X o Γ M fun x M1 => ∃ s, x = .str s ∧ Q (.bl (Txt.isdecimal s)) M1)
    (hbase : attributeBase o "isdecimal" X.env (eval o X.env) = eval o X.env := by rfl) (hline : (apos.endLine == pos.line) = true := by rfl) : WE X (.Call (.Attribute o "isdecimal" apos) [] [] pos) Γ M Q :=
  we_m0 (S := fun s M => Q (.bl (Txt.isdecimal s)) M) F.slot_str_isdecimal F.type_str_isdecimal mt_isdecimal (fun s M q => by
    intro F H c R hR
    exact ⟨s, rfl, rfl, trivial, hR F H M _ _ (Same.refl F) c (.bl _) q⟩) h hbase hline

/-! ### lists that change -/
theorem we_append {o e : Expr} {Q : D → MM → Prop} (h : WE X o Γ M fun x M1 => ∃ a ds0, x = .raw a ∧ M1 a = some (.lst ds0) ∧ WE X e Γ M1 fun y M2 => ∃ ds, M2 a = some (.lst ds) ∧ ds.length < sizeLine ∧ Q .non (mupd M2 a (.lst (ds ++ [y]))))
    (hbase : attributeBase o "append" X.env (eval o X.env) = eval o X.env := by rfl)
    (hfew : ((backTo pos (starEach [e] X.env)).all (fun x => !x.1) && (backToKw pos (keywordEach [] X.env)).all (fun x => x.1.isSome)
      && decide ([e].length + ([] : List Keyword).length + (if ([] : List Keyword).isEmpty then 0 else 1) < 30)) = true := by rfl)
    (hline : (apos.endLine == pos.line) = true := by rfl) (hs : starEach [e] X.env = (false, eval e X.env) :: starEach [] X.env := by rfl) (hplain : (backTo pos (starEach [] X.env)).any (·.1) = false := by rfl) :
    WE X (.Call (.Attribute o "append" apos) [e] [] pos) Γ M Q := ⟨fun F σ H he hc R hR => by
  refine ⟨_, pe_bm PySem.F.plainAttrs_list PySem.F.slot_list_append PySem.F.type_list_append mt_append pe_wp (pa_cons pe_wp pa_nil hs) hbase hfew hline hs hplain, ?_⟩
  refine h.run F σ H he hc _ fun F1 H1 M1 v x e1 c1 d1 ⟨a, ds0, hx, hM, q⟩ => ?_
  subst hx
  cases d1
  obtain ⟨vs0, k1, _⟩ := c1.lst hM
  refine ⟨.inl ⟨rfl, vs0, SqL.of k1⟩, q.run F1 σ H1 (he.mono e1) c1 _ fun F2 H2 M2 u y e2 c2 d2 ⟨ds, hM2, hl, q2⟩ => ?_⟩
  obtain ⟨vs, z1, z2⟩ := c2.lst hM2
  exact ⟨a, vs, u, rfl, rfl, z1, by rw [z2.length]; exact hl, hR F2 _ _ _ _ (e1.trans e2) (c2.setL hM2 (z2.append (.cons d2 .nil))) .non q2⟩⟩
theorem we_pop {o : Expr} {Q : D → MM → Prop} (h : WE X o Γ M fun x M1 => ∃ a ds d, x = .raw a ∧ M1 a = some (.lst (ds ++ [d])) ∧ Q d (mupd M1 a (.lst ds)))
    (hbase : attributeBase o "pop" X.env (eval o X.env) = eval o X.env := by rfl) (hline : (apos.endLine == pos.line) = true := by rfl) : WE X (.Call (.Attribute o "pop" apos) [] [] pos) Γ M Q := ⟨fun F σ H he hc R hR => by
  refine ⟨_, pe_bm0 PySem.F.plainAttrs_list PySem.F.slot_list_pop PySem.F.type_list_pop mt_pop pe_wp hbase hline, ?_⟩
  refine h.run F σ H he hc _ fun F1 H1 M1 v x e1 c1 d1 ⟨a, ds, d, hx, hM, q⟩ => ?_
  subst hx
  cases d1
  obtain ⟨vs, k1, k2⟩ := c1.lst hM
  have hl := k2.length
  have hg : (ds ++ [d])[vs.length - 1]? = some d := by
    rw [hl]
    simp
  obtain ⟨w, z1, z2⟩ := k2.get hg
  refine ⟨.inl ⟨rfl, vs, SqL.of k1⟩, a, vs, w, rfl, rfl, k1, z1, hR F1 _ _ _ _ e1 (c1.setL hM ?_) z2 q⟩
  have := k2.take (vs.length - 1)
  rw [← List.dropLast_eq_take] at this
  have e : (ds ++ [d]).take (vs.length - 1) = ds := by
    rw [hl]
    simp
  rwa [e] at this⟩
end

/-! ### data of ints -/
theorem pys_ints : ∀ ns : List Int, pys (ns.map .int) = some (ns.map .int)
  | [] => rfl
  | n :: ns => by
    show (py (.int n)).bind (fun x => (pys (ns.map .int)).map fun xs => x :: xs) = _
    rw [pys_ints ns]
    rfl
theorem eqv_ints : ∀ ns ms : List Int, PyData.eqvAll (ns.map .int) (ms.map .int) = decide (ns = ms)
  | [], [] => rfl
  | [], m :: ms => rfl
  | n :: ns, [] => rfl
  | n :: ns, m :: ms => by
    show (PyData.eqv (.int n) (.int m) && PyData.eqvAll (ns.map .int) (ms.map .int)) = _
    rw [eqv_ints ns ms]
    show ((n == m) && decide (ns = ms)) = decide (n :: ns = m :: ms)
    by_cases h1 : n = m <;> by_cases h2 : ns = ms <;> simp [h1, h2]
theorem lay_ints : ∀ ns : List Int, PyData.canLayAll0 (ns.map .int) = true
  | [] => rfl
  | n :: ns => by
    show (PyData.canLay0 (.int n) && PyData.canLayAll0 (ns.map .int)) = true
    rw [lay_ints ns]
    rfl
theorem depth_ints : ∀ ns : List Int, PyData.depthAll (ns.map .int) ≤ 1
  | [] => by decide
  | n :: ns => by
    have := depth_ints ns
    simp only [List.map_cons, PyData.depthAll, PyData.depth]
    omega
theorem shaped_intsT (ns : List Int) : SeqAt.shaped (.tuple (ns.map .int)) = true := by
  unfold SeqAt.shaped
  have h1 : PyData.canLay0 (.tuple (ns.map .int)) = true := by simp only [PyData.canLay0]; exact lay_ints ns
  have h2 : PyData.depth (.tuple (ns.map .int)) ≤ 64 := by
    have := depth_ints ns
    simp only [PyData.depth]; omega
  rw [h1, decide_eq_true h2] <;> rfl
/-- a tuple of ints -/
abbrev tI (ns : List Int) : D := .tup (ns.map .int)
theorem eqQ_ints {M : MM} {Q : Bool → MM → Prop} {ns ms : List Int} (h : Q (decide (ns = ms)) M) : EqQ (tI ns) (tI ms) M Q := by
  refine ⟨.tuple (ns.map .int), .tuple (ms.map .int), ?_, ?_, shaped_intsT ns, shaped_intsT ms, ?_⟩
  · simp only [py, pys_ints]; rfl
  · simp only [py, pys_ints]; rfl
  · simp only [PyData.eqv, eqv_ints]; exact h
theorem atI_ints {ns : List Int} {i : Nat} {n : Int} (h : ns[i]? = some n) : atI (ns.map D.int) (i : Int) = some (.int n) := atI_nat (by rw [List.getElem?_map, h]; rfl)
end DL

set_option Elab.async false
set_option linter.all false
set_option autoImplicit false
set_option maxRecDepth 100000
set_option maxHeartbeats 2000000
/-! enumerate(a tuple) -/
namespace DL
open PySem L2 PyProof.Rows
open AutoSeq1 (wpAny_loadPart')

theorem meets_enumerate_newT (l : Addr) (items : Array Value) (n : Nat) (dct : Option Addr) (sl : Array (Option Value)) :
    Meets (Builtin.«enumerate.__new__» ⟨[.type "enumerate", .ref l], []⟩) (fun _ R s => s.heap.get? l = some { cls := .type "tuple", dict := dct, data := .seq items n, slots := sl } ∧
      R (.ok (.ret (.ref (s.heap.push { cls := .type "tuple_iterator", data := .fields #[.ref l, .int 0 0] }).objs.size)))
        { s with heap := (s.heap.push { cls := .type "tuple_iterator", data := .fields #[.ref l, .int 0 0] }).push { cls := .type "enumerate", data := .fields #[.none, .bool false, .ref s.heap.objs.size, rawInt 0, .none, .none] } }) :=
  .of_wp fun prog w A R s h => by
    obtain ⟨hp, g, d, tk, os⟩ := s; obtain ⟨lenIs, h⟩ := h
    have hsub := sub_enumerate
    have hL : Heap.IsTuple (Shared.heap ⟨hp, g, d, tk, os⟩) l items := ⟨_, lenIs, rfl, n, rfl⟩
    wp_walk using wpAny_loadPart' lenIs
    refine wpAny_stack_any fun state => wpAny_pure ?_
    split
    · rename_i c _ _ _ _ _
      cases (c == Value.type "enumerate")
      · wp_walk using wpAny_loadPart' lenIs, wpAny_pyIter_tuple hL
        exact ⟨_, rfl, h⟩
      · wp_walk using wpAny_loadPart' lenIs, wpAny_pyIter_tuple hL
        exact ⟨_, rfl, h⟩
    · wp_walk using wpAny_loadPart' lenIs, wpAny_pyIter_tuple hL
      exact ⟨_, rfl, h⟩
theorem call_enumerate_tuple {prog : Program} {w : World} {A : Around} {E : Value → Shared → Prop} {s : Shared} {l : Addr} {items : Array Value} {Q : Value → Shared → Prop} (hL : s.heap.IsTuple l items)
    (h : ∀ h', IsEnum h' (s.heap.objs.size + 1) s.heap.objs.size 0 .none → h'.IsTupleIter s.heap.objs.size l 0 → h'.objs.size = s.heap.objs.size + 2 →
      (∀ b o, s.heap.get? b = some o → h'.get? b = some o) → Q (.ref (s.heap.objs.size + 1)) { s with heap := h' }) :
    wpAny (model prog w) A (call (.type "enumerate") [.ref l]) Q E s := by
  obtain ⟨⟨c, dct, dt, sl⟩, lenIs, clsIs, n, dataIs⟩ := hL
  replace clsIs : c = .type "tuple" := clsIs
  replace dataIs : dt = .seq items n := dataIs
  subst clsIs dataIs
  refine callType_new F.called_enumerate (by decide) (F.typeCall_enumerate_1 _) (F.newCall_enumerate_1 _) (fun obj => F.args_object_init_2 obj _) F.entry_enumerate_new
    (meets_enumerate_newT l items n dct sl) ⟨lenIs, ?_⟩
  have size1 : (s.heap.push { cls := .type "tuple_iterator", data := .fields #[.ref l, .int 0 0] }).objs.size = s.heap.objs.size + 1 := Heap.size_push ..
  show _ ∧ _
  rw [size1]
  have enumAt : IsEnum ((s.heap.push { cls := .type "tuple_iterator", data := .fields #[.ref l, .int 0 0] }).push
      { cls := .type "enumerate", data := .fields #[.none, .bool false, .ref s.heap.objs.size, rawInt 0, .none, .none] }) (s.heap.objs.size + 1) s.heap.objs.size 0 .none := by
    have := Heap.get?_push_size (s.heap.push { cls := .type "tuple_iterator", data := .fields #[.ref l, .int 0 0] })
      (o := { cls := .type "enumerate", data := .fields #[.none, .bool false, .ref s.heap.objs.size, rawInt 0, .none, .none] }) rfl
    rw [size1] at this; exact this
  refine ⟨⟨_, enumAt, rfl⟩, h _ enumAt ⟨_, Heap.get?_push_of_some _ (Heap.get?_push_size _ rfl), rfl, rfl⟩ (by rw [Heap.size_push, size1]) fun b o x => Heap.get?_push_of_some _ (Heap.get?_push_of_some _ x)⟩

/-- the tuple at a, each item in a pairOk pair -/
def IteT (K : PySem.W.Frag) (a : Addr) : It :=
  ⟨fun i H => ∃ (xs : List V) (x : V), SqT K H a xs ∧ xs[i]? = some x, fun i H v H' => ∃ T x, v = .ref T ∧ H T = none ∧ H' = upd H T (.tup [.int (i : Nat), x]) ∧ ∀ xs, SqT K H a xs → xs[i]? = some x, fun i H => ∃ xs : List V, SqT K H a xs ∧ xs.length = i⟩
theorem apart_it {h : Heap} {a it : Addr} {items : Array Value} {i : Nat} (p : h.IsTuple a items) (state : h.IsTupleIter it a i) : a ≠ it := by
  rintro rfl
  obtain ⟨o, h1, h2, _⟩ := p
  obtain ⟨o', h3, h4, _⟩ := state
  rw [h1] at h3
  cases h3
  rw [h2] at h4
  exact absurd h4 (by decide)
theorem turn_enumT {P : Program} {w : World} {K : PySem.W.Frag} {elts : List Expr} {kk : Nat} {tpos : Pos} (a e it : Addr) :
    Turn P w K (.Tuple elts kk tpos) (IteT K a) [e, it] e (fun i h => (∃ was, IsEnum h e it ((i : Nat) : Int) was) ∧ h.IsTupleIter it a i ∧ e ≠ it ∧ e ≠ a) where
  mem := by simp
  obj := fun i h state b hb => by
    obtain ⟨⟨was, enumAt⟩, ⟨o, ho, clsIs, dataIs⟩, _⟩ := state
    have which : b = e ∨ b = it := by simpa using hb
    rcases which with z | z
    · rw [z]; exact ⟨_, enumAt, fun v q => nomatch q⟩
    · rw [z]; exact ⟨o, ho, fun v q => by rw [dataIs] at q; cases q⟩
  keep := fun i h h' state k => let ⟨⟨was, enumAt⟩, idx, eNit⟩ := state; ⟨⟨was, k e (by simp) _ enumAt⟩, idx.at fun o q => k it (by simp) o q, eNit⟩
  item := by
    intro X hP hw hK clsIs i pn s σ H E I foot state hg
    subst hP hw hK
    obtain ⟨⟨was, enumAt⟩, iter, eNit, eNa⟩ := state
    obtain ⟨xs, x, seqAt, itemAt⟩ := hg
    obtain ⟨vals, rel, p, size1⟩ := I.tuple seqAt
    have tupA : s.heap.IsTuple a vals.toArray := p
    obtain ⟨u, itemV, relV⟩ := rel.get itemAt
    have lowE : e < s.heap.objs.size := Heap.lt_size enumAt
    have lowIt : it < s.heap.objs.size := by obtain ⟨_, q, _⟩ := iter; exact Heap.lt_size q
    have apart := apart_it tupA iter
    have inside : i < vals.toArray.size := by
      have := (List.getElem?_eq_some_iff.mp itemV).1
      simpa using this
    refine wpAny_pyNext_enum_itemD (Draws.tuple (A := X.A.in1) (I.ok.hd clsIs) it a apart vals.toArray) enumAt ⟨iter, tupA⟩ inside eNit (by simp [eNit, eNa]) fun v h' tk drew ho iter' hT size2 stays => ?_
    have same_ : v = u := by
      have h1 : vals.toArray[i]? = some u := by simpa using itemV
      rw [h1] at drew
      exact (Option.some.inj drew).symm
    subst same_
    refine ⟨_, rfl, wpAny_letOwnedTupleGo_enum (s := { s with heap := h', toks := tk + 1 }) ho fun h'' enumAt' rest2 => ?_⟩
    have pairAt : h''.get? s.heap.objs.size = some { cls := .type "tuple", data := .seq #[.int i tk, v] } := (rest2.2 _ (Nat.ne_of_gt lowE)).trans hT
    have pairOk : ObjOk X.prog X.w (upd H s.heap.objs.size (.tup [.int (i : Nat), x])) h'' s.heap.objs.size (.tup [.int (i : Nat), x]) :=
      ⟨by show 2 ≤ sizeLine; decide, [.int i tk, v], .cons ⟨_, rfl⟩ (.cons relV .nil), ⟨_, pairAt, rfl, _, rfl⟩⟩
    have J1 : Inv X pn σ (upd H s.heap.objs.size (.tup [.int (i : Nat), x])) { s with heap := h'', toks := tk + 1 } :=
      I.turnedNew (ch := [e, it]) (fun b ob hb q => (rest2.2 b (fun z => hb (by simp [z]))).trans (stays b ob (fun z => hb (by simp [z])) (fun z => hb (by simp [z])) q)) foot (Nat.le_refl _) pairOk
    refine ⟨.ref s.heap.objs.size, _, J1, rfl, ⟨_, x, rfl, I.hok.fresh (Nat.le_refl _), rfl, fun ys hy => by rw [I.tuple_inj hy seqAt]; exact itemAt⟩, ⟨⟨v, ?_⟩, iter'.1.at fun o q => (rest2.2 it (Ne.symm eNit)).trans q, eNit, eNa⟩, fun b hb => ?_⟩
    · have e1 : ((i + 1 : Nat) : Int) = (i : Int) + 1 := by omega
      rw [e1]; exact enumAt'
    · have low : b < s.heap.objs.size := by
        have which : b = e ∨ b = it := by simpa using hb
        rcases which with z | z
        · rw [z]; exact lowE
        · rw [z]; exact lowIt
      rw [upd_ne (Nat.ne_of_lt low)]
      exact (foot b hb).1
  done := by
    intro X hP hw hK clsIs i pn s σ H E I foot state hg
    subst hP hw hK
    obtain ⟨⟨was, enumAt⟩, iter, eNit, eNa⟩ := state
    obtain ⟨xs, seqAt, itemAt⟩ := hg
    obtain ⟨vals, rel, p, size1⟩ := I.tuple seqAt
    have tupA : s.heap.IsTuple a vals.toArray := p
    obtain ⟨g0, g1, g2, g3, g4, g5⟩ := foot it (by simp)
    have lenIs := rel.length
    have idx : i = vals.toArray.size := by simp; omega
    subst idx
    exact wpAny_pyNext_enum_endD (Draws.tuple (A := X.A.in1) (I.ok.hd clsIs) it a (apart_it tupA iter) vals.toArray) enumAt ⟨iter, tupA⟩ fun h' after => ⟨rfl, I.turned (t' := s.toks) (fun b o hb q => after b o hb q) g0 g1 g3 g4 g5⟩
  self := fun A i s Q E state h => let ⟨⟨_, enumAt⟩, _⟩ := state; wpAny_pyIter_enum enumAt h
def iEnumT (K : PySem.W.Frag) (ta : TA) : TI := fun σ H R => ta σ H fun vs H1 => ∃ a xs, vs = [.ref a] ∧ SqT K H1 a xs ∧ R (IteT K a) H1
theorem pi_enumT {X : Cx} {e : Expr} {ta : TA} {p pos tpos : Pos} {elts : List Expr} {kk : Nat} (hg : Gl X "enumerate") (hm : X.mg "enumerate" = none) (ha : PA X [e] ta) (hs : starEach [e] X.env = [(false, eval e X.env)] := by rfl) :
    PI X (.Tuple elts kk tpos) (.Call (.Name "enumerate" p) [e] [] pos) (iEnumT X.K ta) := by
  refine ⟨fun pn s σ H R I h => ?_⟩
  refine Call_ (ld_blt I hg hm boot_enumerate (PyProof.Rows.callWith_type1 (thn (ha.run pos pn s σ H _ I h) fun us s1 ⟨vs, H1, J1, r1, w1⟩ => ?_) hs rfl))
  obtain ⟨a, xs, isRef, seqAt, q⟩ := w1
  subst isRef
  cases r1 with
  | cons r rels =>
    cases rels
    cases r
    obtain ⟨vals, rel, p', size1⟩ := J1.tuple seqAt
    have tupA : s1.heap.IsTuple a vals.toArray := p'
    refine call_enumerate_tuple tupA fun h' enumAt iter size2 stays => wpAny_pyIter_enum enumAt ?_
    have J2 : Inv X pn σ H1 { s1 with heap := h' } := J1.kept (t' := s1.toks) stays
    have lowA : a < s1.heap.objs.size := by obtain ⟨o, z, _⟩ := tupA; exact Heap.lt_size z
    refine ⟨s1.heap.objs.size + 1, [s1.heap.objs.size + 1, s1.heap.objs.size], _, _, H1, rfl, J2, turn_enumT a (s1.heap.objs.size + 1) s1.heap.objs.size, ⟨⟨.none, enumAt⟩, iter, Nat.succ_ne_self _, Nat.ne_of_gt (Nat.lt_succ_of_lt lowA)⟩, fun b hb => ?_, q⟩
    have which : b = s1.heap.objs.size + 1 ∨ b = s1.heap.objs.size := by simpa using hb
    have above : s1.heap.objs.size ≤ b := by
      rcases which with z | z
      · rw [z]; exact Nat.le_add_right _ _
      · rw [z]; exact Nat.le_refl _
    exact J1.fpOk above (J1.hok.fresh above)
/-- for i, x in enumerate(a tuple) -/
theorem wi_enumT {X : Cx} {Γ : DL.G} {M : MM} {e : Expr} {p pos tpos : Pos} {elts : List Expr} {kk : Nat} {Q : Nat → (Nat → D) → (MM → Prop) → MM → Prop} (hm : X.mg "enumerate" = none) (h : WE X e Γ M fun x M1 => ∃ ds, x = .tup ds ∧ Q ds.length (fun i => .tup [.int (i : Nat), dAt ds i]) (fun _ => True) M1) (hg : Gl X "enumerate" := by rfl)
    (hs : starEach [e] X.env = [(false, eval e X.env)] := by rfl) : WI X (.Tuple elts kk tpos) (.Call (.Name "enumerate" p) [e] [] pos) Γ M Q := ⟨fun F σ H he hc R hR => by
  refine ⟨_, pi_enumT hg hm (pa_cons pe_wp pa_nil hs) hs, ?_⟩
  refine h.run F σ H he hc _ fun F1 H1 M1 v x e1 c1 d1 ⟨ds, hx, q⟩ => ?_
  subst hx
  cases d1 with
  | @tup a xs _ k1 k2 =>
    refine ⟨a, xs, rfl, sqT_mono c1.sub k1, hR F1 H1 M1 _ _ _ _ e1 c1 (fun F2 M2 H2 e c _ i => ?_) q⟩
    have hq : SqT X.K H2 a xs := sqT_mono c.sub (sqT_mono e k1)
    refine ⟨fun hi => ?_, fun hi => ⟨xs, hq, by rw [k2.length]; exact hi⟩⟩
    have hx : i < xs.length := by rw [k2.length]; exact hi
    refine ⟨⟨xs, xs[i], hq, by simp [hx]⟩, fun z H' ⟨T, x, hz, hT, hH, y1⟩ => ?_⟩
    subst hz
    subst hH
    obtain ⟨d, a1, a2⟩ := k2.getV (y1 xs hq)
    have s := same_new (o := .tup [.int (i : Nat), x]) (c.sub.free hT)
    exact ⟨_, s, c.new hT, by rw [dAt_of a1]; exact .tup (.inl (.inl upd_same)) (.cons (.int _) (.cons (a2.mono (e.trans s)) .nil))⟩⟩
end DL

set_option Elab.async false
set_option linter.all false
set_option autoImplicit false
set_option maxRecDepth 100000
set_option maxHeartbeats 2000000
/-! chains of three comparisons; keywords at calls -/
namespace DL
open PySem L2 PyProof.Rows

def tChain3 (r r' r2 : R2) (ta tb tc td : TE) : TE := fun σ H Q => ta σ H fun x H1 => tb σ H1 fun y H2 => r x y H2 fun z H3 => ∃ k, z = .bl k ∧
  (if k = true then tc σ H3 fun w' H4 => r' y w' H4 fun z H5 => ∃ k, z = .bl k ∧ (if k = true then td σ H5 fun u' H6 => r2 w' u' H6 Q else Q (.bl false) H5) else Q (.bl false) H3)
theorem pt_chain3 {X : Cx} {a b c d : Expr} {ta tb tc td : TE} {pos : Pos} {op op' op2 : CmpOp} {r r' r2 : R2} (ho : OpR X (compareOp op) r) (ho' : OpR X (compareOp op') r') (ho2 : OpR X (compareOp op2) r2) (ha : PE X a ta) (hb : PE X b tb) (hc : PE X c tc) (hd : PE X d td)
    (hm : lastMarks [op, op', op2] [b, c, d] = false := by with_unfolding_all rfl) : PT X (.Compare a [op, op', op2] [b, c, d] pos) (tTest (tChain3 r r' r2 ta tb tc td)) := by
  refine ⟨fun pins s σ H Q I h => ?_⟩
  refine isTrue_chain (thn (ha.run pins s σ H _ I h) fun v s1 ⟨x, H1, I1, r1, q1⟩ => test_link (thn (hb.run pins s1 σ H1 _ I1 q1) fun u s2 ⟨y, H2, I2, r2', q2⟩ =>
    thn (ho pins s2 σ H2 x y v u _ I2 r1 r2' q2) fun d' s3 ⟨z, H3, I3, r3, k, e, q3⟩ => ?_)) hm
  subst e
  cases r3
  refine wpAny_truthy_bool ?_
  cases k with
  | false =>
    rw [if_neg Bool.false_ne_true] at q3 ⊢
    obtain ⟨k', e', q'⟩ := q3
    cases e'
    exact ⟨H3, I3, q'⟩
  | true =>
    rw [if_pos rfl] at q3 ⊢
    refine test_link (thn (hc.run pins s3 σ H3 _ I3 q3) fun w' s4 ⟨z', H4, I4, r4, q4⟩ => thn (ho' pins s4 σ H4 y z' u w' _ I4 r2' r4 q4) fun d' s5 ⟨z2, H5, I5, r5, k2, e2, q5⟩ => ?_)
    subst e2
    cases r5
    refine wpAny_truthy_bool ?_
    cases k2 with
    | false =>
      rw [if_neg Bool.false_ne_true] at q5 ⊢
      obtain ⟨k', e', q'⟩ := q5
      cases e'
      exact ⟨H5, I5, q'⟩
    | true =>
      rw [if_pos rfl] at q5 ⊢
      refine test_last (thn (hd.run pins s5 σ H5 _ I5 q5) fun w2 s6 ⟨z3, H6, I6, r6, q6⟩ => thn (ho2 pins s6 σ H6 z' z3 w' w2 _ I6 r4 r6 q6) fun d2 s7 ⟨z4, H7, I7, r7, k3, e3, q7⟩ => ?_)
      subst e3
      cases r7
      exact wpAny_truthy_bool ⟨H7, I7, q7⟩
section
variable {X : Cx} {Γ : DL.G} {M : MM} {pos p apos : Pos}
theorem wt_chain3 {a b c d : Expr} {op op' op2 : CmpOp} {g g' g2 : Int → Int → Bool} {Q : Bool → MM → Prop} (k : CmpI op g) (k' : CmpI op' g') (k2 : CmpI op2 g2)
    (h : WE X a Γ M fun x M1 => WE X b Γ M1 fun y M2 => ∃ i j, x = .int i ∧ y = .int j ∧ (g i j = true → WE X c Γ M2 fun z M3 => ∃ l, z = .int l ∧ (g' j l = true → WE X d Γ M3 fun u M4 => ∃ m, u = .int m ∧ Q (g2 l m) M4) ∧ (g' j l = false → Q false M3)) ∧ (g i j = false → Q false M2))
    (hm : lastMarks [op, op', op2] [b, c, d] = false := by with_unfolding_all rfl) : WT X (.Compare a [op, op', op2] [b, c, d] pos) Γ M Q := ⟨fun F σ H he hc R hR => by
  refine ⟨_, pt_chain3 k.op k'.op k2.op pe_wp pe_wp pe_wp pe_wp hm, ?_⟩
  refine h.run F σ H he hc _ fun F1 H1 M1 v x e1 c1 d1 h1 => ?_
  refine h1.run F1 σ H1 (he.mono e1) c1 _ fun F2 H2 M2 u y e2 c2 d2 ⟨i, j, hx, hy, q1, q2⟩ => ?_
  subst hx
  subst hy
  cases d1
  cases d2
  refine ⟨i, j, rfl, rfl, g i j, rfl, ?_⟩
  cases hg : g i j with
  | false =>
    rw [if_neg Bool.false_ne_true]
    exact ⟨false, rfl, hR F2 H2 M2 false (e1.trans e2) c2 (q2 hg)⟩
  | true =>
    rw [if_pos rfl]
    refine (q1 hg).run F2 σ H2 (he.mono (e1.trans e2)) c2 _ fun F3 H3 M3 v z e3 c3 d3 ⟨l, hz, r1, r2⟩ => ?_
    subst hz
    cases d3
    refine ⟨j, l, rfl, rfl, g' j l, rfl, ?_⟩
    have e13 := (e1.trans e2).trans e3
    cases hg' : g' j l with
    | false =>
      rw [if_neg Bool.false_ne_true]
      exact ⟨false, rfl, hR F3 H3 M3 false e13 c3 (r2 hg')⟩
    | true =>
      rw [if_pos rfl]
      refine (r1 hg').run F3 σ H3 (he.mono e13) c3 _ fun F4 H4 M4 v z e4 c4 d4 ⟨m, hz, q⟩ => ?_
      subst hz
      cases d4
      exact ⟨l, m, rfl, rfl, g2 l m, rfl, hR F4 H4 M4 _ (e13.trans e4) c4 q⟩⟩
end

section
variable {X : Cx} {Γ : DL.G} {M : MM} {pos : Pos}
theorem wt_typeIs {e : Expr} {x : Str} {T : String} {p1 p2 p3 : Pos} {Q : Bool → MM → Prop} (hm : X.mg "type" = none) (hT : X.mg x = none) (hv : bootBuiltins x = some (.type T)) (h : WE X e Γ M fun d M1 => ∃ t, tyD d = some t ∧ Q (decide (t = T)) M1)
    (hs : starEach [e] X.env = [(false, eval e X.env)] := by rfl) (hg : Gl X "type" := by rfl) (hgT : Gl X x := by rfl) (hn : x ≠ "__name__" := by decide) (hdb : (x == ("__debug__" : Str)) = false := by decide) :
    WT X (.Compare (.Call (.Name "type" p1) [e] [] p2) [.Is] [.Name x p3] pos) Γ M Q := ⟨fun F σ H he hc R hR => by
  refine ⟨_, pt_cmpR op_isTyB (pe_callTy call_type1 hg hm (by decide +kernel) (pa_cons pe_wp pa_nil hs) (by decide) (by decide) hs) (pe_bltn (v := .ty T) hgT hT hv (show RelV (.ty T) (.type T) from rfl) hn hdb) (nomark _), ?_⟩
  exact tTypeIs_wp (X := X) (Q := asB Q) id (fun a b H R q => ⟨a, b, rfl, rfl, q⟩) (h.imp fun d M1 ⟨t, ht, q⟩ => ⟨t, ht, _, rfl, q⟩) he hc fun F' H' M' w z e c d ⟨b, hb, q⟩ => by
    subst hb
    cases d
    exact ⟨b, rfl, hR F' H' M' b e c q⟩⟩
theorem wt_typeNot {e : Expr} {x : Str} {T : String} {p1 p2 p3 : Pos} {Q : Bool → MM → Prop} (hm : X.mg "type" = none) (hT : X.mg x = none) (hv : bootBuiltins x = some (.type T)) (h : WE X e Γ M fun d M1 => ∃ t, tyD d = some t ∧ Q (!decide (t = T)) M1)
    (hs : starEach [e] X.env = [(false, eval e X.env)] := by rfl) (hg : Gl X "type" := by rfl) (hgT : Gl X x := by rfl) (hn : x ≠ "__name__" := by decide) (hdb : (x == ("__debug__" : Str)) = false := by decide) :
    WT X (.Compare (.Call (.Name "type" p1) [e] [] p2) [.IsNot] [.Name x p3] pos) Γ M Q := ⟨fun F σ H he hc R hR => by
  refine ⟨_, pt_cmpR op_notTyB (pe_callTy call_type1 hg hm (by decide +kernel) (pa_cons pe_wp pa_nil hs) (by decide) (by decide) hs) (pe_bltn (v := .ty T) hgT hT hv (show RelV (.ty T) (.type T) from rfl) hn hdb) (nomark _), ?_⟩
  exact tTypeIs_wp (X := X) (Q := asB Q) not (fun a b H R q => ⟨a, b, rfl, rfl, q⟩) (h.imp fun d M1 ⟨t, ht, q⟩ => ⟨t, ht, _, rfl, q⟩) he hc fun F' H' M' w z e c d ⟨b, hb, q⟩ => by
    subst hb
    cases d
    exact ⟨b, rfl, hR F' H' M' b e c q⟩⟩
end

/-! ### keywords -/
structure WK (X : Cx) (kws : List Keyword) (Γ : DL.G) (M : MM) (Q : List D → MM → Prop) : Prop where
  run : ∀ (F : Hp) (σ : L2.St) (H : Hp), EnvOk X.K F Γ σ → Con X.K F M H → ∀ R : List V → Hp → Prop,
    (∀ (F' H' : Hp) (M' : MM) (vs : List V) (ds : List D), Same F F' → Con X.K F' M' H' → Dns X.K F' vs ds → Q ds M' → R vs H') → ∃ t, PK X kws t ∧ t σ H R
def wpK (X : Cx) (kws : List Keyword) : TA := fun σ H Q => ∃ t, PK X kws t ∧ t σ H Q
theorem pk_wp {X : Cx} {kws : List Keyword} : PK X kws (wpK X kws) := ⟨fun pos pins s σ H Q I ⟨_, p, h⟩ => p.run pos pins s σ H Q I h⟩
section
variable {X : Cx} {Γ : DL.G} {M : MM} {pos p apos kpos : Pos} {k j : Nat} {x m : Str} {R : RD}
theorem wk_nil {Q : List D → MM → Prop} (h : Q [] M) : WK X [] Γ M Q := ⟨fun F σ H he hc R hR => ⟨_, pk_nil, hR F H M _ _ (Same.refl F) hc .nil h⟩⟩
theorem wk_cons {nm : Option Str} {e : Expr} {kws : List Keyword} {Q : List D → MM → Prop} (h : WE X e Γ M fun x M1 => WK X kws Γ M1 fun xs M2 => Q (x :: xs) M2) : WK X (⟨nm, e, kpos⟩ :: kws) Γ M Q := ⟨fun F σ H he hc R hR => by
  refine ⟨_, pk_cons pe_wp pk_wp, h.run F σ H he hc _ fun F1 H1 M1 v x e1 c1 d1 h1 => ?_⟩
  exact h1.run F1 σ H1 (he.mono e1) c1 _ fun F2 H2 M2 vs xs e2 c2 d2 q => hR F2 H2 M2 _ _ (e1.trans e2) c2 (.cons (d1.mono e2) d2) q⟩
/-- the parameters' order: g puts positional values and keywords' values in it; nothing else is bound -/
structure KB (K : PySem.W.Frag) (fd : FuncData) (ps ks : List Str) (g : {α : Type} → List α → List α → List α) : Prop where
  to : ∀ (s : Shared) (us ws : List Value), K.In s.heap → (g us ws).length = ps.length → BindsTo s fd ⟨us, ks.zip ws⟩ (ps.zip (g us ws))
  relV : ∀ {vs : List V} {us : List Value} {zs : List V} {ws : List Value}, Vals vs us → Vals zs ws → Vals (g vs zs) (g us ws)
  relD : ∀ {K : PySem.W.Frag} {F : Hp} {vs : List V} {ds : List D} {zs : List V} {es : List D}, Dns K F vs ds → Dns K F zs es → Dns K F (g vs zs) (g ds es)
/-- a def called with keywords -/
structure CalK (P : Program) (w : World) (K : PySem.W.Frag) (mg : Str → Option Value) (base : Heap) (k : Nat) (x : Str) (ks : List Str) (g : {α : Type} → List α → List α → List α) (R : RD) : Prop where
  ex : ∃ (f : Addr) (fd : FuncData) (ps : List Str), FnOk P w K mg base CX0 k f fd ps (SpD K R) ∧ mg x = some (.ref f) ∧ PySem.W.keepIn K (.ref f) = true ∧ KB K fd ps ks g
structure MetK (P : Program) (w : World) (K : PySem.W.Frag) (mg : Str → Option Value) (base : Heap) (k : Nat) (C : Addr) (m : Str) (ks : List Str) (g : {α : Type} → List α → List α → List α) (R : RD) : Prop where
  ex : ∃ (f : Addr) (fd : FuncData) (ps : List Str), Cls K C ∧ Meth K C m f ∧ FnOk P w K mg base CX0 k f fd ps (SpD K R) ∧ KB K fd ps ks g
/-- o.m(k = v, ..) -/
theorem pe_methK0 {C : Addr} {o : Expr} {ta : TE} {tk : TA} {kws : List Keyword} {ks : List Str} {f : Addr} {fd : FuncData} {ps : List Str} {sp : Sp} {E : XK} {CX : CXT} {g : List Value → List Value → List Value} {gV : List V → List V → List V} {pl : Sem Bool} (he : PE X o ta) (c : Cls X.K C) (hm : Meth X.K C m f) (F : FnOk X.prog X.w X.K X.mg X.base CX k f fd ps sp) (hr : Room k X.A) (hb : KBinds X.K fd ps ks g gV) (hx : Passes CX X E) (hkw : PK X kws tk)
    (hall : (backToKw pos (keywordEach kws X.env)).all (·.1.isSome) = true) (hks : (backToKw pos (keywordEach kws X.env)).filterMap (·.1) = ks)
    (hpl : ((backTo pos (starEach [] X.env)).any (·.1) || (backToKw pos (keywordEach kws X.env)).any (·.1.isNone)) = false)
    (ht : eval (.Call (.Attribute o m apos) [] kws pos) X.env = (do
      let ov ← eval o X.env
      standAt apos.atName
      let (f, first) ← holding [ov] (getMethod ov m pl)
      callWith pos f first (backTo pos (starEach [] X.env)) (backToKw pos (keywordEach kws X.env)))) :
    PE X (.Call (.Attribute o m apos) [] kws pos) (fun σ H Q => ta σ H fun x H1 => ∃ a dx fs, x = .ref a ∧ H1 a = some (.ins C dx fs) ∧ fs.lookup m = none ∧ tk σ H1 fun zs H2 => sp (gV [.ref a] zs) H2 Q E) := by
  refine ⟨fun pins s σ H Q I h => ?_⟩
  refine PySem.W.methodCall_KW (pl := pl) (thn (he.run pins s σ H _ I h) fun u s1 ⟨x, H1, I1, rx, a, dx, fs, ex, ea, l, q⟩ => ?_) ht
  subst ex
  obtain rfl : u = Value.ref a := rx
  refine getmeth_ok I1 ea c hm l ?_
  refine PySem.W.callWith_KW0 (first := [.ref a]) (h₀ := X.base) I.ok.mod.kin hm.kp hall (thn (hkw.run pos pins s1 σ H1 _ I1 q) fun ws s2 ⟨zs, H2, I2, rz, q2⟩ => ⟨I2.kIn, ?_⟩) hpl
  rw [hks]
  exact run_fnk (us := [.ref a]) (vs := [.ref a]) F hr hb hx I2 (.cons rfl .nil) rz q2
theorem we_methK {C : Addr} {o : Expr} {kws : List Keyword} {ks : List Str} {g : {α : Type} → List α → List α → List α} {pl : Sem Bool} {Q : D → MM → Prop} (c : MetK X.prog X.w X.K X.mg X.base k C m ks g R) (hr : Room j X.A) (hk : k ≤ j)
    (h : WE X o Γ M fun x M1 => InsOf M1 C m x ∧ WK X kws Γ M1 fun ds M2 => R (g [x] ds) M2 Q)
    (hall : (backToKw pos (keywordEach kws X.env)).all (·.1.isSome) = true := by rfl) (hks : (backToKw pos (keywordEach kws X.env)).filterMap (·.1) = ks := by rfl)
    (hpl : ((backTo pos (starEach [] X.env)).any (·.1) || (backToKw pos (keywordEach kws X.env)).any (·.1.isNone)) = false := by rfl)
    (ht : eval (.Call (.Attribute o m apos) [] kws pos) X.env = (do
      let ov ← eval o X.env
      standAt apos.atName
      let (f, first) ← holding [ov] (getMethod ov m pl)
      callWith pos f first (backTo pos (starEach [] X.env)) (backToKw pos (keywordEach kws X.env))) := by rfl) :
    WE X (.Call (.Attribute o m apos) [] kws pos) Γ M Q := ⟨fun F σ H ho hc W hR => by
  obtain ⟨f, fd, ps, hcl, hm, G, b⟩ := c.ex
  refine ⟨_, pe_methK0 (pl := pl) pe_wp hcl hm G (hr.mono hk) ⟨b.to, b.relV⟩ (L2.pass0 (X := X)) pk_wp hall hks hpl ht, h.run F σ H ho hc _ fun F1 H1 M1 v x e1 c1 d1 ⟨hi, h1⟩ => ?_⟩
  obtain ⟨a, dx, fs, rfl, ha, hl⟩ := hi.at c1 d1
  refine ⟨a, dx, fs, rfl, ha, hl, h1.run F1 σ H1 (ho.mono e1) c1 _ fun F2 H2 M2 vs ds e2 c2 d2 q => ?_⟩
  exact ⟨F2, g [x] ds, M2, Q, c2, b.relD (.cons (d1.mono e2) .nil) d2, q, fun F3 H3 M3 v d e3 c3 d3 q => hR F3 H3 M3 v d ((e1.trans e2).trans e3) c3 d3 q⟩⟩
end

/-! ### defs as they stand in the text -/
structure DefAt (K : PySem.W.Frag) (mg : Str → Option Value) (x : Str) (st : Stmt) (ps : List Str) : Prop where
  ex : ∃ (f : Addr) (fd : FuncData), Fun K x x st f fd ∧ mg x = some (.ref f) ∧ Binds K fd ps []
theorem DefAt.cal {P : Program} {w : World} {K : PySem.W.Frag} {mg : Str → Option Value} {base : Heap} {x : Str} {st : Stmt} {N ps : List Str} {k : Nat} {R : RD} (d : DefAt K mg x st ps) (S : FnScope N ps (defScope st)) (len : ∀ ds M Q, R ds M Q → ds.length = ps.length)
    (hbody : ∀ (f : Addr) (cdv : Value) (A : Around) (outer : List Env) (s : Shared) (H : Hp) (E : XK), Room k (A.deeper (PyProof.Rows.envOfC x (defScope st) s.heap.objs.size f cdv)) → ∀ (ds : List D) (M : MM) (Q : D → MM → Prop), R ds M Q →
      WS (cxOf CX0 P w K mg base N x (defScope st) f cdv A outer s H E).nox (defBody st) (startD N ds) M { nx := fun _ M' => Q .non M', rt := Q }) : Cal P w K mg base (k + 1) x R := by
  obtain ⟨f, fd, F, hm, b⟩ := d.ex
  exact ⟨f, fd, ps, fn_ok F S len (hbody f), hm, F.kp, b⟩
structure MetAt (K : PySem.W.Frag) (C : Addr) (m qual : Str) (st : Stmt) (ps : List Str) : Prop where
  ex : ∃ (f : Addr) (fd : FuncData), Cls K C ∧ Meth K C m f ∧ Fun K m qual st f fd ∧ Binds K fd ps []
theorem MetAt.met {P : Program} {w : World} {K : PySem.W.Frag} {mg : Str → Option Value} {base : Heap} {C : Addr} {m qual : Str} {st : Stmt} {N ps : List Str} {k : Nat} {R : RD} (d : MetAt K C m qual st ps) (S : FnScope N ps (defScope st)) (len : ∀ ds M Q, R ds M Q → ds.length = ps.length)
    (hbody : ∀ (f : Addr) (cdv : Value) (A : Around) (outer : List Env) (s : Shared) (H : Hp) (E : XK), Room k (A.deeper (PyProof.Rows.envOfC qual (defScope st) s.heap.objs.size f cdv)) → ∀ (ds : List D) (M : MM) (Q : D → MM → Prop), R ds M Q →
      WS (cxOf CX0 P w K mg base N qual (defScope st) f cdv A outer s H E).nox (defBody st) (startD N ds) M { nx := fun _ M' => Q .non M', rt := Q }) : Met P w K mg base (k + 1) C m R := by
  obtain ⟨f, fd, hc, hm, F, b⟩ := d.ex
  exact ⟨f, fd, ps, hc, hm, fn_ok F S len (hbody f), b⟩
structure PrpAt (K : PySem.W.Frag) (C : Addr) (m qual : Str) (st : Stmt) (ps : List Str) : Prop where
  ex : ∃ (p g : Addr) (fd : FuncData), Cls K C ∧ PropOf K C m p g ∧ Fun K m qual st g fd ∧ Binds K fd ps []
theorem PrpAt.prp {P : Program} {w : World} {K : PySem.W.Frag} {mg : Str → Option Value} {base : Heap} {C : Addr} {m qual : Str} {st : Stmt} {N ps : List Str} {k : Nat} {R : RD} (d : PrpAt K C m qual st ps) (S : FnScope N ps (defScope st)) (len : ∀ ds M Q, R ds M Q → ds.length = ps.length)
    (hbody : ∀ (f : Addr) (cdv : Value) (A : Around) (outer : List Env) (s : Shared) (H : Hp) (E : XK), Room k (A.deeper (PyProof.Rows.envOfC qual (defScope st) s.heap.objs.size f cdv)) → ∀ (ds : List D) (M : MM) (Q : D → MM → Prop), R ds M Q →
      WS (cxOf CX0 P w K mg base N qual (defScope st) f cdv A outer s H E).nox (defBody st) (startD N ds) M { nx := fun _ M' => Q .non M', rt := Q }) : Prp P w K mg base (k + 1) C m R := by
  obtain ⟨p, g, fd, hc, hm, F, b⟩ := d.ex
  exact ⟨p, g, fd, ps, hc, hm, fn_ok F S len (hbody g), b⟩
structure MakAt (K : PySem.W.Frag) (mg : Str → Option Value) (x : Str) (C : Addr) (qual : Str) (st : Stmt) (ps : List Str) : Prop where
  ex : ∃ (f : Addr) (fd : FuncData), Mk K C f ∧ Fun K "__init__" qual st f fd ∧ mg x = some (.ref C) ∧ Binds K fd ps []
theorem MakAt.mak {P : Program} {w : World} {K : PySem.W.Frag} {mg : Str → Option Value} {base : Heap} {x : Str} {C : Addr} {qual : Str} {st : Stmt} {N ps : List Str} {k : Nat} {R : RD} (d : MakAt K mg x C qual st ps) (S : FnScope N ps (defScope st)) (len : ∀ ds M Q, R ds M Q → ds.length = ps.length)
    (hbody : ∀ (f : Addr) (cdv : Value) (A : Around) (outer : List Env) (s : Shared) (H : Hp) (E : XK), Room k (A.deeper (PyProof.Rows.envOfC qual (defScope st) s.heap.objs.size f cdv)) → ∀ (ds : List D) (M : MM) (Q : D → MM → Prop), R ds M Q →
      WS (cxOf CX0 P w K mg base N qual (defScope st) f cdv A outer s H E).nox (defBody st) (startD N ds) M { nx := fun _ M' => Q .non M', rt := Q }) : Mak P w K mg base (k + 1) x C R := by
  obtain ⟨f, fd, hc, F, hm, b⟩ := d.ex
  exact ⟨f, fd, ps, hc, fn_ok F S len (hbody f), hm, b⟩
/-- the built-ins that the module does not bind anew -/
structure Blt (mg : Str → Option Value) : Prop where
  len : mg "len" = none
  max : mg "max" = none
  min : mg "min" = none
  abs : mg "abs" = none
  int : mg "int" = none
  str : mg "str" = none
  tuple : mg "tuple" = none
  list : mg "list" = none
  divmod : mg "divmod" = none
  range : mg "range" = none
  type : mg "type" = none
  enumerate : mg "enumerate" = none
  zip : mg "zip" = none
  isinstance : mg "isinstance" = none
  sum : mg "sum" = none
  all : mg "all" = none
  any : mg "any" = none
  bool : mg "bool" = none
  repr : mg "repr" = none
end DL

set_option Elab.async false
set_option linter.all false
set_option autoImplicit false
set_option maxRecDepth 100000
set_option maxHeartbeats 2000000
namespace T52
open PySem L2 DL
def top (i : Nat) : Stmt := PySem.Challenge.pw_drawnrings_k52_whole_rails_move_as_far_a.main.body.getD i (.Pass ⟨0, 0, 0, 0⟩)
theorem sc__wall : FnScope ["k"] ["k"] (defScope (top 0)) := ⟨rfl, rfl, rfl, by decide +kernel, rfl, by decide +kernel, by decide +kernel⟩
theorem sc_InvalidCloth_init : FnScope ["self", "given"] ["self", "given"] (defScope (inClass (top 3) 0)) := ⟨rfl, rfl, rfl, by decide +kernel, rfl, by decide +kernel, by decide +kernel⟩
theorem sc_InvalidMove_init : FnScope ["self", "given"] ["self", "given"] (defScope (inClass (top 4) 0)) := ⟨rfl, rfl, rfl, by decide +kernel, rfl, by decide +kernel, by decide +kernel⟩
theorem sc_InvalidNumber_init : FnScope ["self", "given"] ["self", "given"] (defScope (inClass (top 5) 0)) := ⟨rfl, rfl, rfl, by decide +kernel, rfl, by decide +kernel, by decide +kernel⟩
theorem sc_InvalidPlace_init : FnScope ["self", "given"] ["self", "given"] (defScope (inClass (top 6) 0)) := ⟨rfl, rfl, rfl, by decide +kernel, rfl, by decide +kernel, by decide +kernel⟩
theorem sc_InvalidStanding_init : FnScope ["self", "index"] ["self", "index"] (defScope (inClass (top 7) 0)) := ⟨rfl, rfl, rfl, by decide +kernel, rfl, by decide +kernel, by decide +kernel⟩
theorem sc_TooFew_init : FnScope ["self", "given"] ["self", "given"] (defScope (inClass (top 9) 0)) := ⟨rfl, rfl, rfl, by decide +kernel, rfl, by decide +kernel, by decide +kernel⟩
theorem sc_is_integer : FnScope ["value"] ["value"] (defScope (top 11)) := ⟨rfl, rfl, rfl, by decide +kernel, rfl, by decide +kernel, by decide +kernel⟩
theorem sc_is_index : FnScope ["value", "many"] ["value", "many"] (defScope (top 12)) := ⟨rfl, rfl, rfl, by decide +kernel, rfl, by decide +kernel, by decide +kernel⟩
theorem sc_is_filled_tuple : FnScope ["value"] ["value"] (defScope (top 13)) := ⟨rfl, rfl, rfl, by decide +kernel, rfl, by decide +kernel, by decide +kernel⟩
theorem sc_wrong_place : FnScope ["cloth", "places", "index", "place", "fits"] ["cloth", "places"] (defScope (top 15)) := ⟨rfl, rfl, rfl, by decide +kernel, rfl, by decide +kernel, by decide +kernel⟩
theorem sc_clamped : FnScope ["place", "low", "high"] ["place", "low", "high"] (defScope (top 16)) := ⟨rfl, rfl, rfl, by decide +kernel, rfl, by decide +kernel, by decide +kernel⟩
theorem sc_reached : FnScope ["cloth", "index", "place"] ["cloth", "index", "place"] (defScope (top 17)) := ⟨rfl, rfl, rfl, by decide +kernel, rfl, by decide +kernel, by decide +kernel⟩
theorem sc_drawn : FnScope ["cloth", "places", "index", "place", "near", "far", "goal", "left", "k", "right"] ["cloth", "places", "index", "place"] (defScope (top 18)) := ⟨rfl, rfl, rfl, by decide +kernel, rfl, by decide +kernel, by decide +kernel⟩
theorem sc_carried : FnScope ["cloth", "places", "way", "ends", "end", "place"] ["cloth", "places", "way"] (defScope (top 19)) := ⟨rfl, rfl, rfl, by decide +kernel, rfl, by decide +kernel, by decide +kernel⟩
theorem sc_taken_off : FnScope ["places", "side"] ["places", "side"] (defScope (top 20)) := ⟨rfl, rfl, rfl, by decide +kernel, rfl, by decide +kernel, by decide +kernel⟩
theorem sc_hooked_on : FnScope ["places", "side"] ["places", "side"] (defScope (top 21)) := ⟨rfl, rfl, rfl, by decide +kernel, rfl, by decide +kernel, by decide +kernel⟩
theorem sc_moved : FnScope ["cloth", "places", "move", "kind", "side", "ring", "place"] ["cloth", "places", "move"] (defScope (top 22)) := ⟨rfl, rfl, rfl, by decide +kernel, rfl, by decide +kernel, by decide +kernel⟩
theorem sc_written : FnScope ["word", "digits", "number"] ["word"] (defScope (top 28)) := ⟨rfl, rfl, rfl, by decide +kernel, rfl, by decide +kernel, by decide +kernel⟩
theorem sc_is_row_place : FnScope ["value"] ["value"] (defScope (top 29)) := ⟨rfl, rfl, rfl, by decide +kernel, rfl, by decide +kernel, by decide +kernel⟩
theorem sc_is_cloth : FnScope ["value", "number"] ["value"] (defScope (top 30)) := ⟨rfl, rfl, rfl, by decide +kernel, rfl, by decide +kernel, by decide +kernel⟩
theorem sc_read_move : FnScope ["row", "words"] ["row"] (defScope (top 31)) := ⟨rfl, rfl, rfl, by decide +kernel, rfl, by decide +kernel, by decide +kernel⟩
theorem sc_read_drawing : FnScope ["words", "ring"] ["words"] (defScope (top 32)) := ⟨rfl, rfl, rfl, by decide +kernel, rfl, by decide +kernel, by decide +kernel⟩
theorem sc_read_off : FnScope ["words"] ["words"] (defScope (top 33)) := ⟨rfl, rfl, rfl, by decide +kernel, rfl, by decide +kernel, by decide +kernel⟩
theorem sc_placed_move : FnScope ["words", "kind", "side", "ring", "place"] ["words", "kind", "side", "ring"] (defScope (top 34)) := ⟨rfl, rfl, rfl, by decide +kernel, rfl, by decide +kernel, by decide +kernel⟩
theorem sc_rings_needed : FnScope ["move", "kind", "_", "ring"] ["move"] (defScope (top 35)) := ⟨rfl, rfl, rfl, by decide +kernel, rfl, by decide +kernel, by decide +kernel⟩
theorem sc_check_cloth : FnScope ["value"] ["value"] (defScope (top 37)) := ⟨rfl, rfl, rfl, by decide +kernel, rfl, by decide +kernel, by decide +kernel⟩
theorem sc_check_standing : FnScope ["cloth", "places", "index"] ["cloth", "places"] (defScope (top 38)) := ⟨rfl, rfl, rfl, by decide +kernel, rfl, by decide +kernel, by decide +kernel⟩
theorem sc_is_standing : FnScope ["cloth", "places"] ["cloth", "places"] (defScope (top 39)) := ⟨rfl, rfl, rfl, by decide +kernel, rfl, by decide +kernel, by decide +kernel⟩
theorem sc_Rail_init : FnScope ["self", "cloth", "places"] ["self", "cloth", "places"] (defScope (inClass (top 40) 0)) := ⟨rfl, rfl, rfl, by decide +kernel, rfl, by decide +kernel, by decide +kernel⟩
theorem sc_Rail_cloth : FnScope ["self"] ["self"] (defScope (inClass (top 40) 1)) := ⟨rfl, rfl, rfl, by decide +kernel, rfl, by decide +kernel, by decide +kernel⟩
theorem sc_Rail_places : FnScope ["self"] ["self"] (defScope (inClass (top 40) 2)) := ⟨rfl, rfl, rfl, by decide +kernel, rfl, by decide +kernel, by decide +kernel⟩
theorem sc_Rail_changes : FnScope ["self"] ["self"] (defScope (inClass (top 40) 3)) := ⟨rfl, rfl, rfl, by decide +kernel, rfl, by decide +kernel, by decide +kernel⟩
theorem sc_Rail_move : FnScope ["self", "move", "told"] ["self", "move"] (defScope (inClass (top 40) 4)) := ⟨rfl, rfl, rfl, by decide +kernel, rfl, by decide +kernel, by decide +kernel⟩
theorem sc_Rail_draw : FnScope ["self", "index", "place"] ["self", "index", "place"] (defScope (inClass (top 40) 5)) := ⟨rfl, rfl, rfl, by decide +kernel, rfl, by decide +kernel, by decide +kernel⟩
theorem sc_Rail_undo : FnScope ["self"] ["self"] (defScope (inClass (top 40) 6)) := ⟨rfl, rfl, rfl, by decide +kernel, rfl, by decide +kernel, by decide +kernel⟩
theorem sc_Rail_follow : FnScope ["self", "script"] ["self", "script"] (defScope (inClass (top 40) 7)) := ⟨rfl, rfl, rfl, by decide +kernel, rfl, by decide +kernel, by decide +kernel⟩
theorem sc_Rail_do : FnScope ["self", "move", "cloth", "places"] ["self", "move"] (defScope (inClass (top 40) 8)) := ⟨rfl, rfl, rfl, by decide +kernel, rfl, by decide +kernel, by decide +kernel⟩
theorem sc_Rail_become : FnScope ["self", "cloth", "places"] ["self", "cloth", "places"] (defScope (inClass (top 40) 9)) := ⟨rfl, rfl, rfl, by decide +kernel, rfl, by decide +kernel, by decide +kernel⟩
theorem sc_Rail_len : FnScope ["self"] ["self"] (defScope (inClass (top 40) 10)) := ⟨rfl, rfl, rfl, by decide +kernel, rfl, by decide +kernel, by decide +kernel⟩
theorem sc_Rail_eq : FnScope ["self", "other"] ["self", "other"] (defScope (inClass (top 40) 11)) := ⟨rfl, rfl, rfl, by decide +kernel, rfl, by decide +kernel, by decide +kernel⟩
theorem sc__law_can : FnScope ["cells", "turn", "cell", "stirred", "part"] ["cells", "turn"] (defScope (top 42)) := ⟨rfl, rfl, rfl, by decide +kernel, rfl, by decide +kernel, by decide +kernel⟩
theorem sc__law_pour : FnScope ["can", "top", "digit"] ["can", "top"] (defScope (top 43)) := ⟨rfl, rfl, rfl, by decide +kernel, rfl, by decide +kernel, by decide +kernel⟩
theorem sc__law_one : FnScope ["can", "things"] ["can", "things"] (defScope (top 44)) := ⟨rfl, rfl, rfl, by decide +kernel, rfl, by decide +kernel, by decide +kernel⟩
theorem sc__law_spot : FnScope ["can"] ["can"] (defScope (top 45)) := ⟨rfl, rfl, rfl, by decide +kernel, rfl, by decide +kernel, by decide +kernel⟩
theorem sc__law_goods : FnScope ["can", "near", "far"] ["can"] (defScope (top 46)) := ⟨rfl, rfl, rfl, by decide +kernel, rfl, by decide +kernel, by decide +kernel⟩
theorem sc__law_standing : FnScope ["can", "goods", "many", "first", "spots", "k", "gap"] ["can", "goods", "many"] (defScope (top 47)) := ⟨rfl, rfl, rfl, by decide +kernel, rfl, by decide +kernel, by decide +kernel⟩
theorem sc__law_nearest : FnScope ["goods", "spots", "at", "goal", "found", "k"] ["goods", "spots", "at", "goal"] (defScope (top 48)) := ⟨rfl, rfl, rfl, by decide +kernel, rfl, by decide +kernel, by decide +kernel⟩
theorem sc__law_named_right : FnScope ["goods", "spots", "at", "spot", "due", "lines", "told"] ["goods", "spots", "at", "spot", "due"] (defScope (top 49)) := ⟨rfl, rfl, rfl, by decide +kernel, rfl, by decide +kernel, by decide +kernel⟩
theorem sc__law_right : FnScope ["can", "goods", "spots", "rail", "turn", "before", "at", "spot", "goal", "due", "other_at"] ["can"] (defScope (top 50)) := ⟨rfl, rfl, rfl, by decide +kernel, rfl, by decide +kernel, by decide +kernel⟩
theorem sc_law : FnScope ["cells", "turn"] ["cells"] (defScope (top 51)) := ⟨rfl, rfl, rfl, by decide +kernel, rfl, by decide +kernel, by decide +kernel⟩
end T52

set_option Elab.async false
set_option linter.all false
set_option autoImplicit false
set_option maxRecDepth 100000
set_option maxHeartbeats 4000000
namespace T52
open PySem L2 DL

/-! ### small helps -/
theorem dec_and_l {p q : Prop} [Decidable p] [Decidable q] (h : decide p = true) : decide q = decide (p ∧ q) := by
  have h' := of_decide_eq_true h
  by_cases hq : q <;> simp [h', hq]
theorem dec_and_f {p q : Prop} [Decidable p] [Decidable q] (h : decide p = false) : false = decide (p ∧ q) := by
  have h' := of_decide_eq_false h
  simp [h']
theorem atI_ints' {ns : List Int} {i : Nat} {n z : Int} (hz : z = (i : Int)) (h : ns[i]? = some n) : atI (ns.map D.int) z = some (.int n) := by
  rw [hz]; exact atI_ints h
theorem getD_some {ns : List Int} {i : Nat} (h : i < ns.length) : ns[i]? = some (ns.getD i 0) := by
  rw [List.getD_eq_getElem?_getD, List.getElem?_eq_getElem h]
  rfl
theorem sz100 {n : Nat} (h : n ≤ 100000) : n ≤ sizeLine := Nat.le_trans h (by decide)
theorem szlt {n : Nat} (h : n < 100000) : n < sizeLine := Nat.lt_of_lt_of_le h (by decide)

/-! ### data -/
def clD (g G : Int) : Option Int → D
  | none => .tup [.int g, .int G]
  | some e => .tup [.int g, .int G, .int e]
theorem cl_ix0 {g G : Int} {o : Option Int} {M : MM} {Q : D → MM → Prop} (h : Q (.int g) M) : IxQ (clD g G o) (.int 0) M Q := by
  cases o <;> exact ⟨_, rfl, h⟩
theorem cl_ix1 {g G : Int} {o : Option Int} {M : MM} {Q : D → MM → Prop} (h : Q (.int G) M) : IxQ (clD g G o) (.int 1) M Q := by
  cases o <;> exact ⟨_, rfl, h⟩
structure ClOk (g G : Int) (o : Option Int) : Prop where
  g1 : 1 ≤ g
  gG : g < G
  G9 : G ≤ 9
def reach (g : Int) (o : Option Int) (i p : Int) : Int := match o with
  | none => p
  | some e => max p (e + i * g)
def dLeft (g G : Int) (ns : List Int) (i : Nat) (goal : Int) (k : Nat) : Int := max (goal - ((i : Int) - k) * G) (min (ns.getD k 0) (goal - ((i : Int) - k) * g))
def dRight (g G : Int) (ns : List Int) (i : Nat) (goal : Int) (k : Nat) : Int := max (goal + ((k : Int) + 1) * g) (min (ns.getD (i + 1 + k) 0) (goal + ((k : Int) + 1) * G))
/-- the standing behind a drawing of the ring i to its goal -/
def drawL (g G : Int) (ns : List Int) (i : Nat) (goal : Int) : List Int :=
  (List.range i).map (dLeft g G ns i goal) ++ goal :: (List.range (ns.length - (i + 1))).map (dRight g G ns i goal)

section
variable {P : Program} {w : World} {K : PySem.W.Frag} {mg : Str → Option Value} {base : Heap}

/-! ### kinds -/
def RisInt : RD := fun ds M Q => ∃ d t, ds = [d] ∧ tyD d = some t ∧ Q (.bl (decide (t = "int"))) M
theorem c_is_integer (B : Blt mg) (d : DefAt K mg "is_integer" (top 11) ["value"]) : Cal P w K mg base 1 "is_integer" RisInt := by
  refine d.cal sc_is_integer (fun ds M Q ⟨d, t, e, _⟩ => by rw [e]; rfl) (fun f cdv A outer s H E hr ds M Q ⟨d, t, e, ht, q⟩ => ?_)
  subst e
  exact ws_ret (we_typeIs B.type B.int (by decide +kernel) (we_var 0 rfl ⟨t, ht, q⟩))
def RisIndex : RD := fun ds M Q => ∃ i n : Int, ds = [.int i, .int n] ∧ Q (.bl (decide (0 ≤ i ∧ i < n))) M
theorem c_is_index (d : DefAt K mg "is_index" (top 12) ["value", "many"]) (c : Cal P w K mg base 1 "is_integer" RisInt) : Cal P w K mg base 2 "is_index" RisIndex := by
  refine d.cal sc_is_index (fun ds M Q ⟨i, n, e, _⟩ => by rw [e]; rfl) (fun f cdv A outer s H E hr ds M Q ⟨i, n, e, q⟩ => ?_)
  subst e
  refine ws_ret (we_and (we_call c hr (by decide) (wa_cons (we_var 0 rfl (wa_nil ⟨_, _, rfl, rfl, _, rfl, fun _ => we_one ?_, fun h => absurd h (by decide)⟩)))))
  refine we_chain .le .lt (we_int (we_var 0 rfl ⟨_, rfl, fun h => we_var 1 rfl ?_, fun h => ?_⟩))
  · show Q (.bl (decide (i < n))) M
    rw [dec_and_l h]; exact q
  · show Q (.bl false) M
    rw [dec_and_f (q := i < n) h]; exact q
def RisFilled : RD := fun ds M Q => ∃ xs, ds = [.tup xs] ∧ Q (.bl (decide ((0 : Int) < (xs.length : Int)))) M
theorem c_is_filled (B : Blt mg) (d : DefAt K mg "is_filled_tuple" (top 13) ["value"]) : Cal P w K mg base 1 "is_filled_tuple" RisFilled := by
  refine d.cal sc_is_filled_tuple (fun ds M Q ⟨d, e, _⟩ => by rw [e]; rfl) (fun f cdv A outer s H E hr ds M Q ⟨xs, e, q⟩ => ?_)
  subst e
  exact ws_ret (we_and (we_typeIs (T := "tuple") B.type B.tuple (by decide +kernel) (we_var 0 rfl ⟨_, rfl, _, rfl, fun _ => we_one (we_gt (we_len B.len (we_var 0 rfl (we_int q)))), fun h => absurd h (by decide)⟩)))

/-! ### hanging -/
def Rclamped : RD := fun ds M Q => ∃ p l h : Int, ds = [.int p, .int l, .int h] ∧ Q (.int (max l (min p h))) M
theorem c_clamped (B : Blt mg) (d : DefAt K mg "clamped" (top 16) ["place", "low", "high"]) : Cal P w K mg base 1 "clamped" Rclamped := by
  refine d.cal sc_clamped (fun ds M Q ⟨p, l, h, e, _⟩ => by rw [e]; rfl) (fun f cdv A outer s H E hr ds M Q ⟨p, l, h, e, q⟩ => ?_)
  subst e
  exact ws_ret (we_max B.max (we_var 1 rfl (we_min B.min (we_var 0 rfl (we_var 2 rfl q)))))
def Rreached : RD := fun ds M Q => ∃ (g G : Int) (o : Option Int) (i p : Int), ds = [clD g G o, .int i, .int p] ∧ (-(2 ^ 64) < i ∧ i < 2 ^ 64) ∧ Q (.int (reach g o i p)) M
theorem c_reached (B : Blt mg) (d : DefAt K mg "reached" (top 17) ["cloth", "index", "place"]) : Cal P w K mg base 1 "reached" Rreached := by
  refine d.cal sc_reached (fun ds M Q ⟨g, G, o, i, p, e, _⟩ => by rw [e]; rfl) (fun f cdv A outer s H E hr ds M Q ⟨g, G, o, i, p, e, hb, q⟩ => ?_)
  subst e
  cases o with
  | none => exact ws_if (wt_eq hr.units (we_len B.len (we_var 0 rfl (we_int ⟨fun _ => ws_ret (we_var 2 rfl q), fun h => by simp at h⟩))))
  | some e =>
    refine ws_if (wt_eq hr.units (we_len B.len (we_var 0 rfl (we_int ⟨fun h => by simp at h, fun _ => ?_⟩))))
    refine ws_nil (ws_ret (we_max B.max (we_var 2 rfl (we_add (we_ix (we_var 0 rfl (we_int ⟨_, rfl, ?_⟩)))))))
    exact we_mul (we_var 1 rfl (we_ix (we_var 0 rfl (we_int ⟨_, rfl, .inl hb, q⟩))))
def Rdrawn : RD := fun ds M Q => ∃ (g G : Int) (o : Option Int) (ns : List Int) (i : Nat) (p : Int), ds = [clD g G o, tI ns, .int (i : Int), .int p] ∧ i < ns.length ∧ ns.length ≤ 1000 ∧ Q (tI (drawL g G ns i (reach g o i p))) M
theorem c_drawn (B : Blt mg) (d : DefAt K mg "drawn" (top 18) ["cloth", "places", "index", "place"]) (cr : Cal P w K mg base 1 "reached" Rreached) (cc : Cal P w K mg base 1 "clamped" Rclamped) : Cal P w K mg base 2 "drawn" Rdrawn := by
  refine d.cal sc_drawn (fun ds M Q ⟨g, G, o, ns, i, p, e, _⟩ => by rw [e]; rfl) (fun f cdv A outer s H E hr ds M Q ⟨g, G, o, ns, i, p, e, hi, hn, q⟩ => ?_)
  subst e
  -- near, far = cloth[0], cloth[1]
  refine ws_asg (we_tup (wa_cons (we_ix (we_var 0 rfl (we_int (cl_ix0 (wa_cons (we_ix (we_var 0 rfl (we_int (cl_ix1 (wa_nil ⟨by show 2 ≤ sizeLine; decide, ?_⟩))))))))))))
  refine wg_tup (wgs_cons (wg_name 4 sc_drawn.nd (wgs_cons (wg_name 5 sc_drawn.nd (wgs_nil ?_)))))
  -- goal = reached(cloth, index, place)
  refine ws_asg (we_call cr hr (by decide) (wa_cons (we_var 0 rfl (wa_cons (we_var 2 rfl (wa_cons (we_var 3 rfl (wa_nil ⟨g, G, o, _, _, rfl, ⟨by omega, by omega⟩, ?_⟩))))))))
  refine wg_name 6 sc_drawn.nd ?_
  generalize reach g o i p = goal at q ⊢
  -- left
  refine ws_setLc 7 8 sc_drawn.nd (fun _ _ _ _ _ => pg_name sc_drawn.nd rfl (Or.inl rfl)) (wi_range1 B.range (we_var 2 rfl ⟨_, rfl, ⟨by omega, by omega⟩, ?_⟩))
  intro a ha
  refine ⟨fun n acc M' => M' = M ∧ acc = (List.range n).map fun k => .int (dLeft g G ns i goal k), ⟨rfl, rfl⟩, fun _ _ _ _ _ _ => trivial, ?_, ?_⟩
  · rintro k acc M' hk hm ⟨rfl, rfl⟩ _ _ _ _ _
    refine wts_nil ⟨fun _ _ _ _ _ _ => ?_, fun h => absurd h (by decide)⟩
    have hk' : k < i := by omega
    refine we_call cc hr (by decide) (wa_cons (we_ix (we_var 1 rfl (we_var 8 rfl ⟨_, atI_ints' (Int.zero_add _) (getD_some (by omega)), ?_⟩))))
    refine wa_cons (we_sub (we_var 6 rfl (we_mul (we_sub (we_var 2 rfl (we_var 8 rfl (we_var 5 rfl ⟨.inl ⟨by omega, by omega⟩, ?_⟩)))))))
    refine wa_cons (we_sub (we_var 6 rfl (we_mul (we_sub (we_var 2 rfl (we_var 8 rfl (we_var 4 rfl ⟨.inl ⟨by omega, by omega⟩, wa_nil ⟨_, _, _, rfl, ?_⟩⟩)))))))
    refine ⟨by rw [List.length_map, List.length_range]; exact szlt (by omega), M', rfl, hm, rfl, ?_⟩
    rw [List.range_succ, List.map_append]
    simp only [List.map_cons, List.map_nil, dLeft, Int.zero_add]
  rintro accL M' hm ⟨rfl, rfl⟩
  have e0 : ((i : Int).toNat) = i := by omega
  rw [e0]
  -- right
  refine ws_setLc 9 8 sc_drawn.nd (fun _ _ _ _ _ => pg_name sc_drawn.nd rfl (Or.inl rfl)) (wi_range2 B.range (we_add (we_var 2 rfl (we_int (we_len B.len (we_var 1 rfl ⟨_, _, rfl, rfl, ⟨by omega, by omega, by omega, by simp; omega⟩, ?_⟩))))))
  have e1 : ((((List.map D.int ns).length : Nat) : Int) - ((i : Int) + 1)).toNat = ns.length - (i + 1) := by rw [List.length_map]; omega
  rw [e1]
  intro a2 ha2
  refine ⟨fun n acc M2 => M2 = M' ∧ acc = (List.range n).map fun k => .int (dRight g G ns i goal k), ⟨rfl, rfl⟩, fun _ _ _ _ _ _ => trivial, ?_, ?_⟩
  · rintro k acc M2 hk hm2 ⟨rfl, rfl⟩ _ _ _ _ _
    refine wts_nil ⟨fun _ _ _ _ _ _ => ?_, fun h => absurd h (by decide)⟩
    refine we_call cc hr (by decide) (wa_cons (we_ix (we_var 1 rfl (we_var 8 rfl ⟨_, atI_ints' (i := i + 1 + k) (by omega) (getD_some (by omega)), ?_⟩))))
    refine wa_cons (we_add (we_var 6 rfl (we_mul (we_sub (we_var 8 rfl (we_var 2 rfl (we_var 4 rfl ⟨.inl ⟨by omega, by omega⟩, ?_⟩)))))))
    refine wa_cons (we_add (we_var 6 rfl (we_mul (we_sub (we_var 8 rfl (we_var 2 rfl (we_var 5 rfl ⟨.inl ⟨by omega, by omega⟩, wa_nil ⟨_, _, _, rfl, ?_⟩⟩)))))))
    refine ⟨by rw [List.length_map, List.length_range]; exact szlt (by omega), M2, rfl, hm2, rfl, ?_⟩
    have e2 : ((i : Int) + 1 + (k : Int)) - (i : Int) = (k : Int) + 1 := by omega
    rw [List.range_succ, List.map_append, e2]
    simp only [List.map_cons, List.map_nil, dRight]
  rintro accR M2 hm2 ⟨rfl, rfl⟩
  -- return (*left, goal, *right)
  refine ws_ret (we_tup (wa_star (we_var 7 rfl ⟨_, .inr rfl, wa_cons (we_var 6 rfl (wa_star (we_var 9 rfl ⟨_, .inr rfl, wa_nil ⟨?_, ?_⟩⟩)))⟩)))
  · refine sz100 ?_
    simp; omega
  · have e3 : ((List.range i).map fun k => D.int (dLeft g G ns i goal k)) ++ D.int goal :: (((List.range (ns.length - (i + 1))).map fun k => D.int (dRight g G ns i goal k)) ++ []) = (drawL g G ns i goal).map D.int := by
      simp [drawL, Function.comp_def]
    rw [e3]; exact q
end
end T52

set_option Elab.async false
set_option linter.all false
set_option autoImplicit false
set_option maxRecDepth 100000
set_option maxHeartbeats 4000000
namespace T52
open PySem L2 DL

/-! ### numbers as words -/
abbrev num (n : Int) : Str := Str.ofString (toString n)
def wordOk (n : Int) : Bool :=
  decide ((Txt.removeprefix (num n) "-").length ≤ 2) && Txt.isdecimal (Txt.removeprefix (num n) "-") && (PySem.intText? (num n) == some n) && decide ((num n).length ≤ 640)
theorem words_ok : (List.range 199).all (fun k => wordOk ((k : Int) - 99)) = true := by decide +kernel
theorem word_ok {n : Int} (h1 : -99 ≤ n) (h2 : n ≤ 99) : (Txt.removeprefix (num n) "-").length ≤ 2 ∧ Txt.isdecimal (Txt.removeprefix (num n) "-") = true ∧ PySem.intText? (num n) = some n ∧ (num n).length ≤ 640 := by
  have h := List.all_eq_true.mp words_ok (n + 99).toNat (List.mem_range.mpr (by omega))
  have e : (((n + 99).toNat : Nat) : Int) - 99 = n := by omega
  rw [e] at h
  unfold wordOk at h
  simp only [Bool.and_eq_true, decide_eq_true_eq, beq_iff_eq] at h
  exact ⟨h.1.1.1, h.1.1.2, h.1.2, h.2⟩
theorem two_signs : (num 99).length = 2 := by decide +kernel
theorem small_log {n : Int} (h1 : -99 ≤ n) (h2 : n ≤ 99) : n.natAbs.log2 < 1920 := by
  have : n.natAbs ≤ 99 := by omega
  have h3 : n.natAbs < 2 ^ 7 := by omega
  by_cases h0 : n.natAbs = 0
  · rw [h0]; decide
  · have := (Nat.log2_lt h0).mpr h3
    omega
/-! ### words joined by blanks and cut again -/
abbrev cod (x : Str) : List Nat := x.cps.toList
theorem blank_is : (" " : Str) = SX.S [32] := by decide +kernel
theorem split_words {parts : List (List Nat)} (h0 : parts ≠ []) (h : ∀ p ∈ parts, (32 : Nat) ∉ p) : Txt.split (SX.S (TL.joinL [32] parts)) " " = parts.map SX.S := by
  rw [blank_is, SX.split_S (by decide) (by decide), SX.spl_join h0 h]
theorem S_cod (x : Str) : SX.S (cod x) = x := SX.S_tl x
def noBlank (x : Str) : Bool := !(cod x).contains 32
theorem noBlank_of {x : Str} (h : noBlank x = true) : (32 : Nat) ∉ cod x := by
  unfold noBlank at h
  simpa using h
theorem nums_blank : (List.range 199).all (fun k => noBlank (num ((k : Int) - 99)) && decide ((num ((k : Int) - 99)).length ≤ 3)) = true := by decide +kernel
theorem num_blank {n : Int} (h1 : -99 ≤ n) (h2 : n ≤ 99) : noBlank (num n) = true ∧ (num n).length ≤ 3 := by
  have h := List.all_eq_true.mp nums_blank (n + 99).toNat (List.mem_range.mpr (by omega))
  have e : (((n + 99).toNat : Nat) : Int) - 99 = n := by omega
  rw [e] at h
  simpa using h
theorem app_cod (x y : Str) : x ++ y = SX.S (cod x ++ cod y) := by
  conv => lhs; rw [← S_cod x, ← S_cod y]
  exact SX.S_cat _ _
/-- four words -/
theorem split4 {a b c d : Str} (ha : noBlank a = true) (hb : noBlank b = true) (hc : noBlank c = true) (hd : noBlank d = true) :
    Txt.split (a ++ ((" " : Str) ++ (b ++ ((" " : Str) ++ (c ++ ((" " : Str) ++ d)))))) " " = [a, b, c, d] := by
  have e : a ++ ((" " : Str) ++ (b ++ ((" " : Str) ++ (c ++ ((" " : Str) ++ d))))) = SX.S (TL.joinL [32] [cod a, cod b, cod c, cod d]) := by
    rw [blank_is]
    conv => lhs; rw [← S_cod a, ← S_cod b, ← S_cod c, ← S_cod d]
    simp only [SX.S_cat]
    rfl
  rw [e, split_words (by simp) (by
    intro p hp
    simp only [List.mem_cons, List.not_mem_nil, or_false] at hp
    rcases hp with rfl | rfl | rfl | rfl
    · exact noBlank_of ha
    · exact noBlank_of hb
    · exact noBlank_of hc
    · exact noBlank_of hd)]
  simp only [List.map_cons, List.map_nil, S_cod]
/-- the row of a drawing, as it is glued -/
def drawRow (side : Str) (j p : Int) : Str := side ++ (" " : Str) ++ num j ++ (" to " : Str) ++ num p
theorem to_is : (" to " : Str) = (" " : Str) ++ (("to" : Str) ++ (" " : Str)) := by decide +kernel
theorem app_assoc (x y z : Str) : x ++ y ++ z = x ++ (y ++ z) := by
  rw [← S_cod x, ← S_cod y, ← S_cod z]
  simp only [SX.S_cat, List.append_assoc]
theorem drawRow_split {side : Str} {j p : Int} (hs : noBlank side = true) (h1 : -99 ≤ j) (h2 : j ≤ 99) (h3 : -99 ≤ p) (h4 : p ≤ 99) : Txt.split (drawRow side j p) " " = [side, num j, "to", num p] := by
  unfold drawRow
  rw [to_is]
  simp only [app_assoc]
  exact split4 hs (num_blank h1 h2).1 (by decide +kernel) (num_blank h3 h4).1
theorem app_len (x y : Str) : (x ++ y).length = x.length + y.length := by
  rw [← S_cod x, ← S_cod y, SX.S_cat]
  simp [SX.S_len]
theorem drawRow_len {side : Str} {j p : Int} (hs : side.length ≤ 10) (h1 : -99 ≤ j) (h2 : j ≤ 99) (h3 : -99 ≤ p) (h4 : p ≤ 99) : (drawRow side j p).length ≤ 100 := by
  have a := (num_blank h1 h2).2
  have b := (num_blank h3 h4).2
  have c : (" " : Str).length = 1 := by decide +kernel
  have d : (" to " : Str).length = 4 := by decide +kernel
  unfold drawRow
  simp only [app_len]
  omega

section
variable {P : Program} {w : World} {K : PySem.W.Frag} {mg : Str → Option Value} {base : Heap}
/-- the module's constants -/
structure Cst (K : PySem.W.Frag) (mg : Str → Option Value) : Prop where
  cloth : ∃ t, mg "MOST_CLOTH" = some (.int 9 t)
  named : ∃ t, mg "MOST_NAMED" = some (.int 5 t)
  place : ∃ t, mg "MOST_PLACE" = some (.int 99 t)
  sides : ∃ a, mg "SIDES" = some (.ref a) ∧ ∀ F, SqT K F a [.str "left", .str "right"]
/-! ### rows -/
def Rwritten : RD := fun ds M Q => ∃ n : Int, -99 ≤ n ∧ n ≤ 99 ∧ ds = [.str (num n)] ∧ Q (.int n) M
theorem c_written (B : Blt mg) (C : Cst K mg) (d : DefAt K mg "written" (top 28) ["word"]) : Cal P w K mg base 1 "written" Rwritten := by
  refine d.cal sc_written (fun ds M Q ⟨n, _, _, e, _⟩ => by rw [e]; rfl) (fun f cdv A outer s H E hr ds M Q ⟨n, h1, h2, e, q⟩ => ?_)
  subst e
  obtain ⟨w1, w2, w3, w4⟩ := word_ok h1 h2
  obtain ⟨t, ht⟩ := C.place
  refine ws_asg (we_removeprefix (we_var 0 rfl ⟨_, rfl, we_str ⟨_, rfl, sz100 (by omega), ?_⟩⟩))
  refine wg_name 1 sc_written.nd ?_
  refine ws_if (wt_ww (ww_or (wt_gt (we_len B.len (we_var 1 rfl ⟨sz100 (by omega), we_len B.len (we_strc B.str (we_globI ht ⟨_, rfl, by decide +kernel, ⟨by decide +kernel, ?_⟩⟩))⟩)))))
  refine ⟨_, rfl, fun h => ?_, fun _ => ww_or1 (wt_not (wt_val (we_isdecimal (we_var 1 rfl ⟨_, rfl, _, rfl, ?_⟩))))⟩
  · rw [two_signs] at h
    have h := of_decide_eq_true h
    omega
  · rw [w2]
    refine ⟨fun h => absurd h (by decide), fun _ => ws_nil ?_⟩
    refine ws_asg (we_intc B.int (we_var 0 rfl ⟨n, w3, w4, wg_name 2 sc_written.nd ?_⟩))
    refine ws_if (wt_ne hr.units (we_strc B.str (we_var 2 rfl ⟨_, rfl, small_log h1 h2, we_var 0 rfl ⟨fun h => ?_, fun _ => ws_nil (ws_ret (we_var 2 rfl q))⟩⟩)))
    exact absurd h (by rw [decide_eq_true (show (Str.ofString (toString n) : Str) = num n from rfl)]; decide)
def RrowPlace : RD := fun ds M Q => ∃ n : Int, ds = [.int n] ∧ Q (.bl (decide (-99 ≤ n ∧ n ≤ 99))) M
theorem c_is_row_place (B : Blt mg) (C : Cst K mg) (d : DefAt K mg "is_row_place" (top 29) ["value"]) (c : Cal P w K mg base 1 "is_integer" RisInt) : Cal P w K mg base 2 "is_row_place" RrowPlace := by
  refine d.cal sc_is_row_place (fun ds M Q ⟨n, e, _⟩ => by rw [e]; rfl) (fun f cdv A outer s H E hr ds M Q ⟨n, e, q⟩ => ?_)
  subst e
  obtain ⟨t, ht⟩ := C.place
  refine ws_ret (we_and (we_call c hr (by decide) (wa_cons (we_var 0 rfl (wa_nil ⟨_, _, rfl, rfl, _, rfl, fun _ => we_one ?_, fun h => absurd h (by decide)⟩)))))
  refine we_chain .le .le (we_neg (we_globI ht ⟨_, rfl, we_var 0 rfl ⟨_, rfl, fun h => we_globI ht ?_, fun h => ?_⟩⟩))
  · show Q (.bl (decide (n ≤ 99))) M
    rw [dec_and_l h]; exact q
  · show Q (.bl false) M
    rw [dec_and_f (q := n ≤ 99) h]; exact q
def Rplaced : RD := fun ds M Q => ∃ (n : Int) (k s r : D), -99 ≤ n ∧ n ≤ 99 ∧ ds = [.lst [.str (num n)], k, s, r] ∧ Q (.tup [k, s, r, .int n]) M
theorem c_placed (B : Blt mg) (d : DefAt K mg "placed_move" (top 34) ["words", "kind", "side", "ring"]) (cw : Cal P w K mg base 1 "written" Rwritten) (cp : Cal P w K mg base 2 "is_row_place" RrowPlace) : Cal P w K mg base 3 "placed_move" Rplaced := by
  refine d.cal sc_placed_move (fun ds M Q ⟨n, k, s, r, _, _, e, _⟩ => by rw [e]; rfl) (fun f cdv A outer s H E hr ds M Q ⟨n, dk, dsd, dr, h1, h2, e, q⟩ => ?_)
  subst e
  refine ws_if (wt_ne hr.units (we_len B.len (we_var 0 rfl (we_int ⟨fun h => by simp at h, fun _ => ws_nil ?_⟩))))
  refine ws_asg (we_call cw hr (by decide) (wa_cons (we_ix (we_var 0 rfl (we_int ⟨_, rfl, wa_nil ⟨n, h1, h2, rfl, wg_name 4 sc_placed_move.nd ?_⟩⟩)))))
  refine ws_if (wt_not (wt_val (we_call cp hr (by decide) (wa_cons (we_var 4 rfl (wa_nil ⟨n, rfl, _, rfl, ?_⟩))))))
  rw [decide_eq_true (show -99 ≤ n ∧ n ≤ 99 from ⟨h1, h2⟩)]
  refine ⟨fun h => absurd h (by decide), fun _ => ws_nil (ws_ret (we_tup ?_))⟩
  exact wa_cons (we_var 1 rfl (wa_cons (we_var 2 rfl (wa_cons (we_var 3 rfl (wa_cons (we_var 4 rfl (wa_nil ⟨by show 4 ≤ sizeLine; decide, q⟩))))))))
def RreadDraw : RD := fun ds M Q => ∃ (sd : Str) (j n : Int), 1 ≤ j ∧ j ≤ 5 ∧ -99 ≤ n ∧ n ≤ 99 ∧ ds = [.lst [.str sd, .str (num j), .str "to", .str (num n)]] ∧ Q (.tup [.str "draw", .str sd, .int j, .int n]) M
theorem c_read_drawing (B : Blt mg) (C : Cst K mg) (d : DefAt K mg "read_drawing" (top 32) ["words"]) (cw : Cal P w K mg base 1 "written" Rwritten) (cp : Cal P w K mg base 3 "placed_move" Rplaced) : Cal P w K mg base 4 "read_drawing" RreadDraw := by
  refine d.cal sc_read_drawing (fun ds M Q ⟨sd, j, n, _, _, _, _, e, _⟩ => by rw [e]; rfl) (fun f cdv A outer s H E hr ds M Q ⟨sd, j, n, h1, h2, h3, h4, e, q⟩ => ?_)
  subst e
  obtain ⟨t, ht⟩ := C.named
  refine ws_if (wt_ww (ww_or (wt_ne hr.units (we_len B.len (we_var 0 rfl (we_int ⟨fun h => by simp at h, fun _ => ww_or1 ?_⟩))))))
  refine wt_ne hr.units (we_ix (we_var 0 rfl (we_int ⟨_, rfl, we_str ⟨fun h => by simp at h, fun _ => ws_nil ?_⟩⟩)))
  refine ws_asg (we_call cw hr (by decide) (wa_cons (we_ix (we_var 0 rfl (we_int ⟨_, rfl, wa_nil ⟨j, by omega, by omega, rfl, wg_name 1 sc_read_drawing.nd ?_⟩⟩)))))
  refine ws_if (wt_ww (ww_or (wt_isN (we_var 1 rfl ⟨fun h => absurd h Bool.false_ne_true, fun _ => ww_or1 (wt_not ?_)⟩))))
  refine wt_chain .le .le (we_int (we_var 1 rfl ⟨_, rfl, fun _ => we_globI ht ⟨_, rfl, ?_⟩, fun h => ?_⟩))
  · rw [decide_eq_true h2]
    refine ⟨fun h => absurd h (by decide), fun _ => ws_nil (ws_ret ?_)⟩
    refine we_call cp hr (by decide) (wa_cons (we_slice (we_var 0 rfl (wo_some (we_int ⟨3, rfl, wo_none ?_⟩)))))
    exact wa_cons (we_str (wa_cons (we_ix (we_var 0 rfl (we_int ⟨_, rfl, wa_cons (we_var 1 rfl (wa_nil ⟨n, _, _, _, h3, h4, rfl, q⟩))⟩)))))
  · exact absurd (of_decide_eq_false h) (by omega)
def RreadMove : RD := fun ds M Q => ∃ (sd row : Str) (j n : Int), (sd = "left" ∨ sd = "right") ∧ 1 ≤ j ∧ j ≤ 5 ∧ -99 ≤ n ∧ n ≤ 99 ∧ ds = [.str row] ∧ row.length ≤ 100 ∧ Txt.split row " " = [sd, num j, "to", num n] ∧ Q (.tup [.str "draw", .str sd, .int j, .int n]) M
theorem c_read_move (B : Blt mg) (C : Cst K mg) (d : DefAt K mg "read_move" (top 31) ["row"]) (cd : Cal P w K mg base 4 "read_drawing" RreadDraw) : Cal P w K mg base 5 "read_move" RreadMove := by
  refine d.cal sc_read_move (fun ds M Q ⟨sd, row, j, n, _, _, _, _, _, e, _⟩ => by rw [e]; rfl) (fun f cdv A outer s H E hr ds M Q ⟨sd, row, j, n, h0, h1, h2, h3, h4, e, hl, hs, q⟩ => ?_)
  subst e
  obtain ⟨a, ha, hS⟩ := C.sides
  refine ws_if (wt_typeNot (T := "str") B.type B.str (by decide +kernel) (we_var 0 rfl ⟨_, rfl, fun h => absurd h (by decide), fun _ => ws_nil ?_⟩))
  refine ws_asg (we_split (we_var 0 rfl ⟨_, rfl, we_str ⟨_, rfl, by decide +kernel, by rw [sizeLine_eq]; omega, ?_⟩⟩))
  rw [hs]
  refine wg_name 1 sc_read_move.nd ?_
  refine ws_if (wt_in (Room.u65 hr) (we_ix (we_var 1 rfl (we_int ⟨_, rfl, we_glob (v := .ref a) (d := .tup [.str "left", .str "right"]) ha rfl (fun F => .tup (hS F) (.cons (.str _) (.cons (.str _) .nil))) ?_⟩))))
  have hin : ([PyData.str "left", PyData.str "right"].any fun z => PyData.eqv z (.str sd)) = true := by
    rcases h0 with rfl | rfl <;> decide +kernel
  refine ⟨.str sd, [.str "left", .str "right"], rfl, rfl, by rcases h0 with rfl | rfl <;> decide +kernel, by decide +kernel, ?_⟩
  rw [hin]
  refine ⟨fun _ => ws_ret (we_call cd hr (by decide) (wa_cons (we_var 1 rfl (wa_nil ⟨sd, j, n, h1, h2, h3, h4, rfl, q⟩)))), fun h => absurd h (by decide)⟩
def Rneeded : RD := fun ds M Q => ∃ (sd : Str) (j n : Int), ds = [.tup [.str "draw", .str sd, .int j, .int n]] ∧ Q (.int j) M
theorem c_needed (d : DefAt K mg "rings_needed" (top 35) ["move"]) : Cal P w K mg base 1 "rings_needed" Rneeded := by
  refine d.cal sc_rings_needed (fun ds M Q ⟨sd, j, n, e, _⟩ => by rw [e]; rfl) (fun f cdv A outer s H E hr ds M Q ⟨sd, j, n, e, q⟩ => ?_)
  subst e
  refine ws_asg (we_var 0 rfl (wg_tup (wgs_cons (wg_name 1 sc_rings_needed.nd (wgs_cons (wg_name 2 sc_rings_needed.nd (wgs_cons (wg_name 3 sc_rings_needed.nd (wgs_cons (wg_name 2 sc_rings_needed.nd (wgs_nil ?_))))))))))) 
  refine ws_if (wt_eq hr.units (we_var 1 rfl (we_str ⟨fun _ => ws_ret (we_var 3 rfl q), fun h => by simp at h⟩)))
/-! ### what a drawing's move does -/
def moveIx (sd : Str) (j : Int) (n : Nat) : Nat := if sd = "left" then (j - 1).toNat else ((n : Int) - j).toNat
def Rmoved : RD := fun ds M Q => ∃ (g G : Int) (o : Option Int) (ns : List Int) (sd : Str) (j p : Int), (sd = "left" ∨ sd = "right") ∧ 1 ≤ j ∧ j ≤ (ns.length : Int) ∧ ns.length ≤ 1000 ∧ ds = [clD g G o, tI ns, .tup [.str "draw", .str sd, .int j, .int p]] ∧
  Q (.tup [clD g G o, tI (drawL g G ns (moveIx sd j ns.length) (reach g o (moveIx sd j ns.length) p))]) M
theorem c_moved (B : Blt mg) (d : DefAt K mg "moved" (top 22) ["cloth", "places", "move"]) (cd : Cal P w K mg base 2 "drawn" Rdrawn) : Cal P w K mg base 3 "moved" Rmoved := by
  refine d.cal sc_moved (fun ds M Q ⟨g, G, o, ns, sd, j, p, _, _, _, _, e, _⟩ => by rw [e]; rfl) (fun f cdv A outer s H E hr ds M Q ⟨g, G, o, ns, sd, j, p, h0, h1, h2, h3, e, q⟩ => ?_)
  subst e
  refine ws_asg (we_var 2 rfl (wg_tup (wgs_cons (wg_name 3 sc_moved.nd (wgs_cons (wg_name 4 sc_moved.nd (wgs_cons (wg_name 5 sc_moved.nd (wgs_cons (wg_name 6 sc_moved.nd (wgs_nil ?_)))))))))))
  refine ws_if (wt_eq hr.units (we_var 3 rfl (we_str ⟨fun h => absurd h (by decide +kernel), fun _ => ws_nil ?_⟩)))
  refine ws_if (wt_eq hr.units (we_var 3 rfl (we_str ⟨fun h => absurd h (by decide +kernel), fun _ => ws_nil ?_⟩)))
  refine ws_if (wt_eq hr.units (we_var 3 rfl (we_str ⟨fun h => absurd h (by decide +kernel), fun _ => ws_nil ?_⟩)))
  refine ws_if (wt_eq hr.units (we_var 4 rfl (we_str ⟨fun h => ?_, fun h => ?_⟩)))
  · have hs := of_decide_eq_true h
    have hm : moveIx sd j ns.length = (j - 1).toNat := if_pos hs
    have hi : j - 1 = (((j - 1).toNat : Nat) : Int) := by omega
    refine ws_ret (we_tup (wa_cons (we_var 0 rfl (wa_cons (we_call cd hr (by decide) (wa_cons (we_var 0 rfl (wa_cons (we_var 1 rfl (wa_cons (we_sub (we_var 5 rfl (we_int (wa_cons (we_var 6 rfl (wa_nil ?_))))))))))))))))
    refine ⟨g, G, o, ns, (j - 1).toNat, p, by rw [← hi], by omega, h3, wa_nil ⟨by show 2 ≤ sizeLine; decide, ?_⟩⟩
    rw [hm] at q
    exact q
  · have hs := of_decide_eq_false h
    have hm : moveIx sd j ns.length = ((ns.length : Int) - j).toNat := if_neg hs
    have hi : (ns.length : Int) - j = ((((ns.length : Int) - j).toNat : Nat) : Int) := by omega
    refine ws_nil (ws_ret (we_tup (wa_cons (we_var 0 rfl (wa_cons (we_call cd hr (by decide) (wa_cons (we_var 0 rfl (wa_cons (we_var 1 rfl (wa_cons (we_sub (we_len B.len (we_var 1 rfl (we_var 5 rfl (wa_cons (we_var 6 rfl (wa_nil ?_))))))))))))))))))
    refine ⟨g, G, o, ns, ((ns.length : Int) - j).toNat, p, by rw [← hi, List.length_map], by omega, h3, wa_nil ⟨by show 2 ≤ sizeLine; decide, ?_⟩⟩
    rw [hm] at q
    exact q
end
end T52

set_option Elab.async false
set_option linter.all false
set_option autoImplicit false
set_option maxRecDepth 100000
set_option maxHeartbeats 4000000
namespace T52
open PySem L2 DL

/-- a standing -/
structure Stand (g G : Int) (o : Option Int) (ns : List Int) : Prop where
  ne : 0 < ns.length
  first : ∀ e, o = some e → e ≤ ns.getD 0 0
  gaps : ∀ i : Nat, i + 1 < ns.length → g ≤ ns.getD (i + 1) 0 - ns.getD i 0 ∧ ns.getD (i + 1) 0 - ns.getD i 0 ≤ G
theorem dAt_ints {ns : List Int} {i : Nat} (h : i < ns.length) : dAt (ns.map D.int) i = .int (ns.getD i 0) := dAt_of (by rw [List.getElem?_map, getD_some h]; rfl)
theorem mupd_comm {M : MM} {a b : Addr} {x y : MO} (h : a ≠ b) : mupd (mupd M a x) b y = mupd (mupd M b y) a x := by
  funext c
  unfold mupd
  by_cases h1 : c = a
  · subst h1
    rw [if_neg h, if_pos rfl, if_pos rfl]
  · by_cases h2 : c = b
    · rw [if_pos h2, if_neg h1, if_pos h2]
    · rw [if_neg h2, if_neg h1, if_neg h1, if_neg h2]
abbrev rn : List Str := ["_cloth", "_places", "_past"]

section
variable {P : Program} {w : World} {K : PySem.W.Frag} {mg : Str → Option Value} {base : Heap}
def Rwrong : RD := fun ds M Q => ∃ (g G : Int) (o : Option Int) (ns : List Int), Stand g G o ns ∧ ns.length ≤ 1000 ∧ ds = [clD g G o, tI ns] ∧ Q .non M
theorem c_wrong_place (B : Blt mg) (d : DefAt K mg "wrong_place" (top 15) ["cloth", "places"]) (ci : Cal P w K mg base 1 "is_integer" RisInt) : Cal P w K mg base 2 "wrong_place" Rwrong := by
  refine d.cal sc_wrong_place (fun ds M Q ⟨g, G, o, ns, _, _, e, _⟩ => by rw [e]; rfl) (fun f cdv A outer s H E hr ds M Q ⟨g, G, o, ns, St, hn, e, q⟩ => ?_)
  subst e
  refine ws_for (wi_enumT B.enumerate (we_var 1 rfl ⟨_, rfl, ?_⟩))
  refine ⟨fun n Γ' M' => M' = M ∧ ∃ x y z, Γ' = [some (clD g G o), some (tI ns), x, y, z], ⟨rfl, _, _, _, rfl⟩, fun _ _ _ _ _ => trivial, ?_, ?_⟩
  · rintro i Γ' M' hi ⟨rfl, x, y, z, rfl⟩
    rw [List.length_map] at hi
    show WG _ _ (.tup [.int (i : Nat), dAt (ns.map D.int) i]) _ _ _
    rw [dAt_ints hi]
    refine wg_tup (wgs_cons (wg_name 2 sc_wrong_place.nd (wgs_cons (wg_name 3 sc_wrong_place.nd (wgs_nil ?_)))))
    refine ws_if (wt_not (wt_val (we_call ci hr (by decide) (wa_cons (we_var 3 rfl (wa_nil ⟨_, _, rfl, rfl, _, rfl, fun h => absurd h (by decide), fun _ => ws_nil ?_⟩))))))
    refine ws_if (wt_eq hr.units (we_var 2 rfl (we_int ⟨fun h => ?_, fun h => ?_⟩)))
    · have h0 : i = 0 := by have := of_decide_eq_true h; omega
      subst h0
      refine ws_asg (we_or (we_eq hr.units (we_len B.len (we_var 0 rfl ?_))))
      cases o with
      | none =>
        refine we_int ⟨_, rfl, fun _ => wg_name 4 sc_wrong_place.nd (ws_nil ?_), fun h => by simp at h⟩
        refine ws_if (wt_not (wt_val (we_var 4 rfl ⟨true, rfl, fun h => absurd h (by decide), fun _ => ws_nil (ws_nil ?_)⟩)))
        exact ⟨rfl, _, _, _, rfl⟩
      | some e =>
        refine we_int ⟨_, rfl, fun h => by simp at h, fun _ => we_one (we_ge (we_var 3 rfl (we_ix (we_var 0 rfl (we_int ⟨_, rfl, wg_name 4 sc_wrong_place.nd (ws_nil ?_)⟩)))))⟩
        dsimp only
        rw [decide_eq_true (St.first e rfl)]
        refine ws_if (wt_not (wt_val (we_var 4 rfl ⟨true, rfl, fun h => absurd h (by decide), fun _ => ws_nil (ws_nil ?_)⟩)))
        exact ⟨rfl, _, _, _, rfl⟩
    · have h0 : i ≠ 0 := by have := of_decide_eq_false h; omega
      obtain ⟨j, rfl⟩ : ∃ j, i = j + 1 := ⟨i - 1, by omega⟩
      obtain ⟨g1, g2⟩ := St.gaps j hi
      refine ws_asg (we_chain .le .le (we_ix (we_var 0 rfl (we_int (cl_ix0 (we_sub (we_var 3 rfl (we_ix (we_var 1 rfl (we_sub (we_var 2 rfl (we_int ⟨_, atI_ints' (i := j) (by omega) (getD_some (by omega)), ?_⟩))))))))))))
      refine ⟨_, rfl, fun _ => we_ix (we_var 0 rfl (we_int (cl_ix1 (wg_name 4 sc_wrong_place.nd (ws_nil ?_))))), fun h => absurd (of_decide_eq_false h) (fun z => z g1)⟩
      dsimp only
      rw [decide_eq_true g2]
      refine ws_if (wt_not (wt_val (we_var 4 rfl ⟨true, rfl, fun h => absurd h (by decide), fun _ => ws_nil (ws_nil ?_)⟩)))
      exact ⟨rfl, _, _, _, rfl⟩
  · rintro Γ' M' ⟨rfl, x, y, z, rfl⟩
    exact ws_ret (we_non q)
/-- a cloth that may be passed -/
structure ClIn (g G : Int) (o : Option Int) : Prop where
  ok : ClOk g G o
  e1 : ∀ e, o = some e → -99 ≤ e ∧ e ≤ 99
def RisCloth : RD := fun ds M Q => ∃ (g G : Int) (o : Option Int), ClIn g G o ∧ ds = [clD g G o] ∧ Q (.bl true) M
theorem cl_tup (g G : Int) (o : Option Int) : ∃ ns : List Int, clD g G o = tI ns ∧ (ns.length = 2 ∨ ns.length = 3) := by
  cases o with
  | none => exact ⟨[g, G], rfl, .inl rfl⟩
  | some e => exact ⟨[g, G, e], rfl, .inr rfl⟩
theorem c_is_cloth (B : Blt mg) (C : Cst K mg) (d : DefAt K mg "is_cloth" (top 30) ["value"]) (ci : Cal P w K mg base 1 "is_integer" RisInt) (cp : Cal P w K mg base 2 "is_row_place" RrowPlace) : Cal P w K mg base 3 "is_cloth" RisCloth := by
  refine d.cal sc_is_cloth (fun ds M Q ⟨g, G, o, _, e, _⟩ => by rw [e]; rfl) (fun f cdv A outer s H E hr ds M Q ⟨g, G, o, hc, e, q⟩ => ?_)
  subst e
  obtain ⟨t, ht⟩ := C.cloth
  obtain ⟨ns, hns, hl⟩ := cl_tup g G o
  have hg1 := hc.ok.g1
  have hgG := hc.ok.gG
  have hG9 := hc.ok.G9
  -- type(value) is not tuple or len(value) not in (2, 3)
  refine ws_if (wt_ww (ww_or (wt_typeNot (T := "tuple") B.type B.tuple (by decide +kernel) (we_var 0 rfl ⟨"tuple", by rw [hns], fun h => absurd h (by decide), fun _ => ww_or1 ?_⟩))))
  refine wt_nin (Room.u65 hr) (we_len B.len (we_var 0 rfl ?_))
  rw [hns]
  refine we_tup (wa_cons (we_int (wa_cons (we_int (wa_nil ⟨by show 2 ≤ sizeLine; decide, ?_⟩)))))
  refine ⟨.int _, [.int 2, .int 3], rfl, rfl, rfl, by decide +kernel, ?_⟩
  have hin : ([PyData.int 2, PyData.int 3].any fun z => PyData.eqv z (.int (((ns.map D.int).length : Nat) : Int))) = true := by
    rw [List.length_map]
    rcases hl with h | h <;> rw [h] <;> decide
  rw [hin]
  refine ⟨fun h => absurd h (by decide), fun _ => ws_nil ?_⟩
  -- all([is_integer(number) for number in value])
  refine ws_if (wt_not (wt_val (we_all B.all (we_lc 1 sc_is_cloth.nd (fun _ _ _ _ _ => pg_name sc_is_cloth.nd rfl (Or.inl rfl)) (wi_tup (we_var 0 rfl ⟨_, rfl, ?_⟩))))))
  intro a ha
  refine ⟨fun n acc M' => M' = M ∧ acc = (List.replicate n true).map .bl, ⟨rfl, rfl⟩, fun _ _ _ _ _ _ => trivial, ?_, ?_⟩
  · rintro k acc M' hk hm ⟨rfl, rfl⟩ _ _ _ _ _
    rw [List.length_map] at hk
    refine wts_nil ⟨fun _ _ _ _ _ _ => ?_, fun h => absurd h (by decide)⟩
    rw [dAt_ints hk]
    refine we_call ci hr (by decide) (wa_cons (we_var 1 rfl (wa_nil ⟨_, _, rfl, rfl, ?_⟩)))
    refine ⟨by rw [List.length_map, List.length_replicate]; exact szlt (by omega), M', rfl, hm, rfl, ?_⟩
    rw [List.replicate_succ', List.map_append]
    rfl
  rintro acc M' hm ⟨rfl, rfl⟩
  refine ⟨_, rfl, _, rfl, ?_⟩
  have hall : (List.replicate (ns.map D.int).length true).all id = true := by simp
  rw [hall]
  refine ⟨fun h => absurd h (by decide), fun _ => ws_nil ?_⟩
  -- not 1 <= value[0] < value[1] <= MOST_CLOTH
  rw [← hns]
  refine ws_if (wt_not (wt_chain3 .le .lt .le (we_int (we_ix (we_var 0 rfl (we_int (cl_ix0 ⟨_, _, rfl, rfl, fun _ => we_ix (we_var 0 rfl (we_int (cl_ix1 ⟨_, rfl, fun _ => we_globI ht ⟨_, rfl, ?_⟩, fun h => absurd (of_decide_eq_false h) (fun z => z hgG)⟩))), fun h => absurd (of_decide_eq_false h) (fun z => z hg1)⟩)))))))
  rw [decide_eq_true hG9]
  refine ⟨fun h => absurd h (by decide), fun _ => ws_nil ?_⟩
  -- len(value) == 2 or is_row_place(value[2])
  cases o with
  | none => exact ws_ret (we_or (we_eq hr.units (we_len B.len (we_var 0 rfl (we_int ⟨_, rfl, fun _ => q, fun h => by simp at h⟩)))))
  | some e =>
    refine ws_ret (we_or (we_eq hr.units (we_len B.len (we_var 0 rfl (we_int ⟨_, rfl, fun h => by simp at h, fun _ => we_one (we_call cp hr (by decide) (wa_cons (we_ix (we_var 0 rfl (we_int ⟨_, rfl, wa_nil ⟨e, rfl, ?_⟩⟩)))))⟩)))))
    rw [decide_eq_true (hc.e1 e rfl)]
    exact q
def RcheckCloth : RD := fun ds M Q => ∃ (g G : Int) (o : Option Int), ClIn g G o ∧ ds = [clD g G o] ∧ Q .non M
theorem c_check_cloth (d : DefAt K mg "check_cloth" (top 37) ["value"]) (c : Cal P w K mg base 3 "is_cloth" RisCloth) : Cal P w K mg base 4 "check_cloth" RcheckCloth := by
  refine d.cal sc_check_cloth (fun ds M Q ⟨g, G, o, _, e, _⟩ => by rw [e]; rfl) (fun f cdv A outer s H E hr ds M Q ⟨g, G, o, hc, e, q⟩ => ?_)
  subst e
  exact ws_if (wt_not (wt_val (we_call c hr (by decide) (wa_cons (we_var 0 rfl (wa_nil ⟨g, G, o, hc, rfl, _, rfl, fun h => absurd h (by decide), fun _ => ws_nil (ws_nil q)⟩))))))
theorem c_check_standing (B : Blt mg) (d : DefAt K mg "check_standing" (top 38) ["cloth", "places"]) (cf : Cal P w K mg base 1 "is_filled_tuple" RisFilled) (cw : Cal P w K mg base 2 "wrong_place" Rwrong) : Cal P w K mg base 3 "check_standing" Rwrong := by
  refine d.cal sc_check_standing (fun ds M Q ⟨g, G, o, ns, _, _, e, _⟩ => by rw [e]; rfl) (fun f cdv A outer s H E hr ds M Q ⟨g, G, o, ns, St, hn, e, q⟩ => ?_)
  subst e
  have hp : ((0 : Int) < (((ns.map D.int).length : Nat) : Int)) := by rw [List.length_map]; have := St.ne; omega
  refine ws_if (wt_not (wt_val (we_call cf hr (by decide) (wa_cons (we_var 1 rfl (wa_nil ⟨_, rfl, _, rfl, ?_⟩))))))
  rw [decide_eq_true hp]
  refine ⟨fun h => absurd h (by decide), fun _ => ws_nil ?_⟩
  refine ws_asg (we_call cw hr (by decide) (wa_cons (we_var 0 rfl (wa_cons (we_var 1 rfl (wa_nil ⟨g, G, o, ns, St, hn, rfl, wg_name 2 sc_check_standing.nd ?_⟩))))))
  exact ws_if (wt_notN (we_var 2 rfl ⟨fun h => absurd h (by decide), fun _ => ws_nil (ws_nil q)⟩))
def RisStanding : RD := fun ds M Q => ∃ (g G : Int) (o : Option Int) (ns : List Int), ClIn g G o ∧ Stand g G o ns ∧ ns.length ≤ 1000 ∧ ds = [clD g G o, tI ns] ∧ Q (.bl true) M
theorem c_is_standing (B : Blt mg) (d : DefAt K mg "is_standing" (top 39) ["cloth", "places"]) (cc : Cal P w K mg base 4 "check_cloth" RcheckCloth) (cf : Cal P w K mg base 1 "is_filled_tuple" RisFilled) (cw : Cal P w K mg base 2 "wrong_place" Rwrong) : Cal P w K mg base 5 "is_standing" RisStanding := by
  refine d.cal sc_is_standing (fun ds M Q ⟨g, G, o, ns, _, _, _, e, _⟩ => by rw [e]; rfl) (fun f cdv A outer s H E hr ds M Q ⟨g, G, o, ns, hc, St, hn, e, q⟩ => ?_)
  subst e
  have hp : ((0 : Int) < (((ns.map D.int).length : Nat) : Int)) := by rw [List.length_map]; have := St.ne; omega
  refine ws_expr (we_call cc hr (by decide) (wa_cons (we_var 0 rfl (wa_nil ⟨g, G, o, hc, rfl, ?_⟩))))
  refine ws_ret (we_and (we_call cf hr (by decide) (wa_cons (we_var 1 rfl (wa_nil ⟨_, rfl, _, rfl, fun _ => we_one (we_isN ?_), fun h => absurd (of_decide_eq_false h) (fun z => z hp)⟩)))))
  exact we_call cw hr (by decide) (wa_cons (we_var 0 rfl (wa_cons (we_var 1 rfl (wa_nil ⟨g, G, o, ns, St, hn, rfl, q⟩)))))

/-! ### rails -/
structure RC (K : PySem.W.Frag) (C : Addr) : Prop where
  cls : Cls K C
  nC : NoAttr K C "_cloth"
  nP : NoAttr K C "_places"
  nH : NoAttr K C "_past"
/-- a rail at r, its past at p -/
structure RailAt (M : MM) (C r p : Addr) (c pl : D) (past : List D) : Prop where
  ins : M r = some (.ins C rn [c, pl, .raw p])
  lst : M p = some (.lst past)
  ne : r ≠ p
theorem gC {c pl : D} {p : Addr} : getN "_cloth" rn [c, pl, .raw p] = some c := by rfl
theorem gP {c pl : D} {p : Addr} : getN "_places" rn [c, pl, .raw p] = some pl := by rfl
theorem gH {c pl : D} {p : Addr} : getN "_past" rn [c, pl, .raw p] = some (.raw p) := by rfl
theorem pC {c pl c' : D} {p : Addr} : putN "_cloth" c' rn [c, pl, .raw p] = [c', pl, .raw p] := by rfl
theorem pP {c pl c' : D} {p : Addr} : putN "_places" c' rn [c, pl, .raw p] = [c, c', .raw p] := by rfl
variable {C : Addr}
/-- what _become leaves -/
def become (M : MM) (C r p : Addr) (c pl : D) (past : List D) (c' pl' : D) : MM := mupd (mupd M p (.lst (past ++ [.tup [c, pl]]))) r (.ins C rn [c', pl', .raw p])
theorem RailAt.become {M : MM} {r p : Addr} {c pl c' pl' : D} {past : List D} (R : RailAt M C r p c pl past) : RailAt (become M C r p c pl past c' pl') C r p c' pl' (past ++ [.tup [c, pl]]) :=
  ⟨mupd_same, by unfold T52.become; rw [mupd_ne (Ne.symm R.ne), mupd_same], R.ne⟩
theorem become_ne {M : MM} {r p b : Addr} {c pl c' pl' : D} {past : List D} (h1 : b ≠ r) (h2 : b ≠ p) : become M C r p c pl past c' pl' b = M b := by
  unfold become; rw [mupd_ne h1, mupd_ne h2]
def Rbecome (C : Addr) : RD := fun ds M Q => ∃ (r p : Addr) (c pl c' pl' : D) (past : List D), RailAt M C r p c pl past ∧ past.length < 100000 ∧ ds = [.raw r, c', pl'] ∧ Q pl' (become M C r p c pl past c' pl')
theorem m_become (T : RC K C) (d : MetAt K C "_become" "Rail._become" (inClass (top 40) 9) ["self", "cloth", "places"]) : Met P w K mg base 1 C "_become" (Rbecome C) := by
  refine d.met sc_Rail_become (fun ds M Q ⟨r, p, c, pl, c', pl', past, _, _, e, _⟩ => by rw [e]; rfl) (fun f cdv A outer s H E hr ds M Q ⟨r, p, c, pl, c', pl', past, R, hl, e, q⟩ => ?_)
  subst e
  refine ws_expr (we_append (we_fld T.cls T.nH (we_var 0 rfl ⟨_, _, _, .inl ⟨r, rfl, R.ins⟩, gH, p, past, rfl, R.lst, ?_⟩)))
  refine we_tup (wa_cons (we_fld T.cls T.nC (we_var 0 rfl ⟨_, _, _, .inl ⟨r, rfl, R.ins⟩, gC, wa_cons (we_fld T.cls T.nP (we_var 0 rfl ⟨_, _, _, .inl ⟨r, rfl, R.ins⟩, gP, wa_nil ⟨by show 2 ≤ sizeLine; decide, past, R.lst, szlt hl, ?_⟩⟩))⟩)))
  have R1 : mupd M p (.lst (past ++ [.tup [c, pl]])) r = some (.ins C rn [c, pl, .raw p]) := by rw [mupd_ne R.ne]; exact R.ins
  refine ws_fld T.cls T.nC (we_var 1 rfl (we_var 0 rfl ⟨r, rn, _, rfl, R1, by decide, .inr ⟨by decide, ?_⟩⟩))
  rw [pC]
  refine ws_fld T.cls T.nP (we_var 2 rfl (we_var 0 rfl ⟨r, rn, _, rfl, mupd_same, by decide, .inr ⟨by decide, ?_⟩⟩))
  rw [pP, mupd_mupd]
  exact ws_ret (we_var 2 rfl q)
def Rdo (C : Addr) : RD := fun ds M Q => ∃ (r p : Addr) (g G : Int) (o : Option Int) (ns : List Int) (past : List D) (sd : Str) (j x : Int), RailAt M C r p (clD g G o) (tI ns) past ∧ past.length < 100000 ∧ (sd = "left" ∨ sd = "right") ∧ 1 ≤ j ∧ j ≤ (ns.length : Int) ∧ ns.length ≤ 1000 ∧ ds = [.raw r, .tup [.str "draw", .str sd, .int j, .int x]] ∧
  Q (tI (drawL g G ns (moveIx sd j ns.length) (reach g o (moveIx sd j ns.length) x))) (become M C r p (clD g G o) (tI ns) past (clD g G o) (tI (drawL g G ns (moveIx sd j ns.length) (reach g o (moveIx sd j ns.length) x))))
theorem ins_of {M : MM} {r p : Addr} {c pl : D} {past : List D} {m : Str} (R : RailAt M C r p c pl past) (h : m ∉ rn) : InsOf M C m (.raw r) := ⟨_, _, R.ins, h⟩
theorem m_do (T : RC K C) (d : MetAt K C "_do" "Rail._do" (inClass (top 40) 8) ["self", "move"]) (cm : Cal P w K mg base 3 "moved" Rmoved) (cb : Met P w K mg base 1 C "_become" (Rbecome C)) : Met P w K mg base 4 C "_do" (Rdo C) := by
  refine d.met sc_Rail_do (fun ds M Q ⟨r, p, g, G, o, ns, past, sd, j, x, _, _, _, _, _, _, e, _⟩ => by rw [e]; rfl) (fun f cdv A outer s H E hr ds M Q ⟨r, p, g, G, o, ns, past, sd, j, x, R, hl, h0, h1, h2, h3, e, q⟩ => ?_)
  subst e
  refine ws_asg (we_call cm hr (by decide) (wa_cons (we_fld T.cls T.nC (we_var 0 rfl ⟨_, _, _, .inl ⟨r, rfl, R.ins⟩, gC, wa_cons (we_fld T.cls T.nP (we_var 0 rfl ⟨_, _, _, .inl ⟨r, rfl, R.ins⟩, gP, wa_cons (we_var 1 rfl (wa_nil ?_))⟩))⟩))))
  refine ⟨g, G, o, ns, sd, j, x, h0, h1, h2, h3, rfl, wg_tup (wgs_cons (wg_name 2 sc_Rail_do.nd (wgs_cons (wg_name 3 sc_Rail_do.nd (wgs_nil ?_)))))⟩
  exact ws_ret (we_meth cb hr (by decide) (we_var 0 rfl ⟨ins_of R (by decide), wa_cons (we_var 2 rfl (wa_cons (we_var 3 rfl (wa_nil ⟨r, p, _, _, _, _, past, R, hl, rfl, q⟩))))⟩))
def Rmove (C : Addr) : RD := fun ds M Q => ∃ (r p : Addr) (g G : Int) (o : Option Int) (ns : List Int) (past : List D) (sd row : Str) (j x : Int), RailAt M C r p (clD g G o) (tI ns) past ∧ past.length < 100000 ∧ (sd = "left" ∨ sd = "right") ∧ 1 ≤ j ∧ j ≤ 5 ∧ -99 ≤ x ∧ x ≤ 99 ∧ j ≤ (ns.length : Int) ∧ ns.length ≤ 1000 ∧ row.length ≤ 100 ∧ Txt.split row " " = [sd, num j, "to", num x] ∧ ds = [.raw r, .str row] ∧
  Q (tI (drawL g G ns (moveIx sd j ns.length) (reach g o (moveIx sd j ns.length) x))) (become M C r p (clD g G o) (tI ns) past (clD g G o) (tI (drawL g G ns (moveIx sd j ns.length) (reach g o (moveIx sd j ns.length) x))))
theorem m_move (B : Blt mg) (T : RC K C) (d : MetAt K C "move" "Rail.move" (inClass (top 40) 4) ["self", "move"]) (cr : Cal P w K mg base 5 "read_move" RreadMove) (cn : Cal P w K mg base 1 "rings_needed" Rneeded) (cd : Met P w K mg base 4 C "_do" (Rdo C)) : Met P w K mg base 6 C "move" (Rmove C) := by
  refine d.met sc_Rail_move (fun ds M Q ⟨r, p, g, G, o, ns, past, sd, row, j, x, _, _, _, _, _, _, _, _, _, _, _, e, _⟩ => by rw [e]; rfl) (fun f cdv A outer s H E hr ds M Q ⟨r, p, g, G, o, ns, past, sd, row, j, x, R, hl, h0, h1, h2, h3, h4, h5, h6, h7, h8, e, q⟩ => ?_)
  subst e
  refine ws_asg (we_call cr hr (by decide) (wa_cons (we_var 1 rfl (wa_nil ⟨sd, row, j, x, h0, h1, h2, h3, h4, rfl, h7, h8, wg_name 2 sc_Rail_move.nd ?_⟩))))
  refine ws_if (wt_ww (ww_or (wt_isN (we_var 2 rfl ⟨fun h => absurd h Bool.false_ne_true, fun _ => ww_or1 (wt_eq hr.units (we_ix (we_var 2 rfl (we_int ⟨_, rfl, we_str ⟨fun h => absurd h (by decide +kernel), fun _ => ws_nil ?_⟩⟩))))⟩))))
  refine ws_if (wt_lt (we_len B.len (we_fld T.cls T.nP (we_var 0 rfl ⟨_, _, _, .inl ⟨r, rfl, R.ins⟩, gP, we_call cn hr (by decide) (wa_cons (we_var 2 rfl (wa_nil ⟨sd, j, x, rfl, _, rfl, fun h => ?_, fun _ => ws_nil ?_⟩)))⟩))))
  · have := of_decide_eq_true h
    rw [List.length_map] at this
    omega
  · exact ws_ret (we_meth cd hr (by decide) (we_var 0 rfl ⟨ins_of R (by decide), wa_cons (we_var 2 rfl (wa_nil ⟨r, p, g, G, o, ns, past, sd, j, x, R, hl, h0, h1, h5, h6, rfl, q⟩))⟩))
def Rdraw (C : Addr) : RD := fun ds M Q => ∃ (r p : Addr) (g G : Int) (o : Option Int) (ns : List Int) (past : List D) (i : Nat) (x : Int), RailAt M C r p (clD g G o) (tI ns) past ∧ past.length < 100000 ∧ i < ns.length ∧ ns.length ≤ 1000 ∧ ds = [.raw r, .int (i : Int), .int x] ∧
  Q (tI (drawL g G ns i (reach g o i x))) (become M C r p (clD g G o) (tI ns) past (clD g G o) (tI (drawL g G ns i (reach g o i x))))
theorem draw_body (B : Blt mg) (T : RC K C) (ci : Cal P w K mg base 1 "is_integer" RisInt) (cx : Cal P w K mg base 2 "is_index" RisIndex) (cd : Cal P w K mg base 2 "drawn" Rdrawn) (cb : Met P w K mg base 1 C "_become" (Rbecome C)) :
    ∀ (f : Addr) (cdv : Value) (A : Around) (outer : List Env) (s : Shared) (H : Hp) (E : XK), Room 2 (A.deeper (PyProof.Rows.envOfC "Rail.draw" (defScope (inClass (top 40) 5)) s.heap.objs.size f cdv)) → ∀ (ds : List D) (M : MM) (Q : D → MM → Prop), Rdraw C ds M Q →
      WS (cxOf CX0 P w K mg base ["self", "index", "place"] "Rail.draw" (defScope (inClass (top 40) 5)) f cdv A outer s H E).nox (defBody (inClass (top 40) 5)) (startD ["self", "index", "place"] ds) M { nx := fun _ M' => Q .non M', rt := Q } := by
  intro f cdv A outer s H E hr ds M Q ⟨r, p, g, G, o, ns, past, i, x, R, hl, h1, h2, e, q⟩
  subst e
  refine ws_if (wt_not (wt_val (we_call cx hr (by decide) (wa_cons (we_var 1 rfl (wa_cons (we_len B.len (we_fld T.cls T.nP (we_var 0 rfl ⟨_, _, _, .inl ⟨r, rfl, R.ins⟩, gP, wa_nil ⟨_, _, rfl, _, rfl, fun h => ?_, fun _ => ws_nil ?_⟩⟩)))))))))
  · rw [List.length_map] at h
    simp at h
    omega
  refine ws_if (wt_not (wt_val (we_call ci hr (by decide) (wa_cons (we_var 2 rfl (wa_nil ⟨_, _, rfl, rfl, _, rfl, fun h => absurd h (by decide), fun _ => ws_nil ?_⟩))))))
  refine ws_ret (we_meth cb hr (by decide) (we_var 0 rfl ⟨ins_of R (by decide), wa_cons (we_fld T.cls T.nC (we_var 0 rfl ⟨_, _, _, .inl ⟨r, rfl, R.ins⟩, gC, wa_cons ?_⟩))⟩))
  refine we_call cd hr (by decide) (wa_cons (we_fld T.cls T.nC (we_var 0 rfl ⟨_, _, _, .inl ⟨r, rfl, R.ins⟩, gC, wa_cons (we_fld T.cls T.nP (we_var 0 rfl ⟨_, _, _, .inl ⟨r, rfl, R.ins⟩, gP, wa_cons (we_var 1 rfl (wa_cons (we_var 2 rfl (wa_nil ?_))))⟩))⟩)))
  exact ⟨g, G, o, ns, i, x, rfl, h1, h2, wa_nil ⟨r, p, _, _, _, _, past, R, hl, rfl, q⟩⟩
/-! properties -/
def RgetC (C : Addr) : RD := fun ds M Q => ∃ (r p : Addr) (c pl : D) (past : List D), RailAt M C r p c pl past ∧ ds = [.raw r] ∧ Q c M
def RgetP (C : Addr) : RD := fun ds M Q => ∃ (r p : Addr) (c pl : D) (past : List D), RailAt M C r p c pl past ∧ ds = [.raw r] ∧ Q pl M
def RgetH (C : Addr) : RD := fun ds M Q => ∃ (r p : Addr) (c pl : D) (past : List D), RailAt M C r p c pl past ∧ ds = [.raw r] ∧ Q (.int (past.length : Nat)) M
theorem p_cloth (T : RC K C) (d : PrpAt K C "cloth" "Rail.cloth" (inClass (top 40) 1) ["self"]) : Prp P w K mg base 1 C "cloth" (RgetC C) := by
  refine d.prp sc_Rail_cloth (fun ds M Q ⟨r, p, c, pl, past, _, e, _⟩ => by rw [e]; rfl) (fun f cdv A outer s H E hr ds M Q ⟨r, p, c, pl, past, R, e, q⟩ => ?_)
  subst e
  exact ws_ret (we_fld T.cls T.nC (we_var 0 rfl ⟨_, _, _, .inl ⟨r, rfl, R.ins⟩, gC, q⟩))
theorem p_places (T : RC K C) (d : PrpAt K C "places" "Rail.places" (inClass (top 40) 2) ["self"]) : Prp P w K mg base 1 C "places" (RgetP C) := by
  refine d.prp sc_Rail_places (fun ds M Q ⟨r, p, c, pl, past, _, e, _⟩ => by rw [e]; rfl) (fun f cdv A outer s H E hr ds M Q ⟨r, p, c, pl, past, R, e, q⟩ => ?_)
  subst e
  exact ws_ret (we_fld T.cls T.nP (we_var 0 rfl ⟨_, _, _, .inl ⟨r, rfl, R.ins⟩, gP, q⟩))
theorem p_changes (B : Blt mg) (T : RC K C) (d : PrpAt K C "changes" "Rail.changes" (inClass (top 40) 3) ["self"]) : Prp P w K mg base 1 C "changes" (RgetH C) := by
  refine d.prp sc_Rail_changes (fun ds M Q ⟨r, p, c, pl, past, _, e, _⟩ => by rw [e]; rfl) (fun f cdv A outer s H E hr ds M Q ⟨r, p, c, pl, past, R, e, q⟩ => ?_)
  subst e
  exact ws_ret (we_len B.len (we_fld T.cls T.nH (we_var 0 rfl ⟨_, _, _, .inl ⟨r, rfl, R.ins⟩, gH, past, R.lst, q⟩)))
def Rinit (C : Addr) : RD := fun ds M Q => ∃ (r : Addr) (g G : Int) (o : Option Int) (ns : List Int), ClIn g G o ∧ Stand g G o ns ∧ ns.length ≤ 1000 ∧ M r = some (.ins C [] []) ∧ ds = [.raw r, clD g G o, tI ns] ∧
  ∀ p, p ≠ r → M p = none → Q .non (mupd (mupd M p (.lst [])) r (.ins C rn [clD g G o, tI ns, .raw p]))
theorem k_rail (T : RC K C) (d : MakAt K mg "Rail" C "Rail.__init__" (inClass (top 40) 0) ["self", "cloth", "places"]) (cc : Cal P w K mg base 4 "check_cloth" RcheckCloth) (cs : Cal P w K mg base 3 "check_standing" Rwrong) : Mak P w K mg base 5 "Rail" C (Rinit C) := by
  refine d.mak sc_Rail_init (fun ds M Q ⟨r, g, G, o, ns, _, _, _, _, e, _⟩ => by rw [e]; rfl) (fun f cdv A outer s H E hr ds M Q ⟨r, g, G, o, ns, hc, St, hn, hM, e, q⟩ => ?_)
  subst e
  refine ws_expr (we_call cc hr (by decide) (wa_cons (we_var 1 rfl (wa_nil ⟨g, G, o, hc, rfl, ?_⟩))))
  refine ws_expr (we_call cs hr (by decide) (wa_cons (we_var 1 rfl (wa_cons (we_var 2 rfl (wa_nil ⟨g, G, o, ns, St, hn, rfl, ?_⟩))))))
  refine ws_fld T.cls T.nC (we_var 1 rfl (we_var 0 rfl ⟨r, [], [], rfl, hM, by decide, .inl ⟨by decide, ?_⟩⟩))
  refine ws_fld T.cls T.nP (we_var 2 rfl (we_var 0 rfl ⟨r, _, _, rfl, mupd_same, by decide, .inl ⟨by decide, ?_⟩⟩))
  rw [mupd_mupd]
  refine ws_fld T.cls T.nH (we_lstM (wa_nil ⟨by show 0 ≤ sizeLine; decide, fun p hp => we_var 0 rfl ?_⟩))
  have hpr : p ≠ r := fun z => by subst z; rw [mupd_same] at hp; cases hp
  have hMp : M p = none := by rw [mupd_ne hpr] at hp; exact hp
  refine ⟨r, _, _, rfl, by rw [mupd_ne (Ne.symm hpr)]; exact mupd_same, by decide, .inl ⟨by decide, ws_nil ?_⟩⟩
  rw [mupd_comm (Ne.symm hpr), mupd_mupd]
  exact q p hpr hMp
end
end T52

set_option Elab.async false
set_option linter.all false
set_option autoImplicit false
set_option maxRecDepth 100000
set_option maxHeartbeats 4000000
/-! the mathematics of drawings -/
namespace T52
open PySem L2 DL

def tab (n : Nat) (f : Nat → Int) : List Int := (List.range n).map f
theorem tab_len (n : Nat) (f : Nat → Int) : (tab n f).length = n := by simp [tab]
theorem tab_getD {n : Nat} {f : Nat → Int} {k : Nat} (h : k < n) : (tab n f).getD k 0 = f k := by
  rw [List.getD_eq_getElem?_getD]
  simp [tab, h]
theorem tab_get {n : Nat} {f : Nat → Int} {k : Nat} (h : k < n) : (tab n f)[k]? = some (f k) := by simp [tab, h]
theorem tab_ext {n : Nat} {f g : Nat → Int} (h : ∀ k, k < n → f k = g k) : tab n f = tab n g := by
  unfold tab
  exact List.map_congr_left fun k hk => h k (List.mem_range.mp hk)
theorem tab_set {n : Nat} {f : Nat → Int} {k : Nat} {v : Int} : (tab n f).set k v = tab n fun j => if j = k then v else f j := by
  apply List.ext_getElem?
  intro j
  by_cases hj : j < n
  · by_cases hk : j = k
    · subst hk
      rw [List.getElem?_set_self (by rw [tab_len]; exact hj), tab_get hj, if_pos rfl]
    · rw [List.getElem?_set_ne (Ne.symm hk), tab_get hj, tab_get hj, if_neg hk]
  · rw [List.getElem?_eq_none (by rw [List.length_set, tab_len]; omega), List.getElem?_eq_none (by rw [tab_len]; omega)]
theorem of_tab (ns : List Int) : ns = tab ns.length fun k => ns.getD k 0 := by
  apply List.ext_getElem?
  intro j
  by_cases hj : j < ns.length
  · rw [tab_get hj, getD_some hj]
  · rw [List.getElem?_eq_none (by omega), List.getElem?_eq_none (by rw [tab_len]; omega)]
/-- where the ring k is behind the drawing of the ring i to its goal -/
def dv (g G : Int) (ns : List Int) (i : Nat) (goal : Int) (k : Nat) : Int :=
  if k < i then dLeft g G ns i goal k else if k = i then goal else dRight g G ns i goal (k - (i + 1))
theorem drawL_tab {g G : Int} {ns : List Int} {i : Nat} {goal : Int} (hi : i < ns.length) : drawL g G ns i goal = tab ns.length (dv g G ns i goal) := by
  apply List.ext_getElem?
  intro j
  unfold drawL
  by_cases hj : j < ns.length
  · rw [tab_get hj]
    unfold dv
    by_cases h1 : j < i
    · rw [List.getElem?_append_left (by simpa using h1), if_pos h1]
      simp [h1]
    · rw [List.getElem?_append_right (by simpa using Nat.le_of_not_lt h1), if_neg h1, List.length_map, List.length_range]
      by_cases h2 : j = i
      · subst h2
        simp
      · rw [if_neg h2]
        obtain ⟨m, rfl⟩ : ∃ m, j = i + 1 + m := ⟨j - (i + 1), by omega⟩
        have e1 : i + 1 + m - i = m + 1 := by omega
        have e2 : i + 1 + m - (i + 1) = m := by omega
        rw [e1, e2, List.getElem?_cons_succ]
        have hm : m < ns.length - (i + 1) := by omega
        simp [hm]
  · rw [List.getElem?_eq_none (by simp; omega), List.getElem?_eq_none (by rw [tab_len]; omega)]
theorem drawL_len {g G : Int} {ns : List Int} {i : Nat} {goal : Int} (hi : i < ns.length) : (drawL g G ns i goal).length = ns.length := by rw [drawL_tab hi, tab_len]
theorem mul_le {m g G : Int} (hm : 0 ≤ m) (h : g ≤ G) : m * g ≤ m * G := Int.mul_le_mul_of_nonneg_left h hm
section
variable {g G : Int} {o : Option Int} {ns : List Int} {i : Nat} {goal : Int}
/-- a ring to the right by its left neighbour -/
theorem dv_up (hg : g ≤ G) (hgap : ∀ k : Nat, k + 1 < ns.length → g ≤ ns.getD (k + 1) 0 - ns.getD k 0 ∧ ns.getD (k + 1) 0 - ns.getD k 0 ≤ G) {k : Nat} (hk : i ≤ k) (hn : k + 1 < ns.length) :
    min (max (ns.getD (k + 1) 0) (dv g G ns i goal k + g)) (dv g G ns i goal k + G) = dv g G ns i goal (k + 1) := by
  obtain ⟨g1, g2⟩ := hgap k hn
  have e2 : dv g G ns i goal (k + 1) = dRight g G ns i goal (k - i) := by
    unfold dv
    rw [if_neg (by omega), if_neg (by omega)]
    congr 1
    omega
  rw [e2]
  by_cases h : k = i
  · subst h
    have e1 : dv g G ns k goal k = goal := by unfold dv; rw [if_neg (by omega), if_pos rfl]
    rw [e1]
    unfold dRight
    have z : k - k = 0 := by omega
    rw [z]
    simp only [Nat.add_zero]
    have a1 : ((0 : Nat) : Int) + 1 = 1 := by omega
    rw [a1, Int.one_mul, Int.one_mul]
    omega
  · obtain ⟨m, rfl⟩ : ∃ m, k = i + 1 + m := ⟨k - (i + 1), by omega⟩
    have e1 : dv g G ns i goal (i + 1 + m) = dRight g G ns i goal m := by
      unfold dv
      rw [if_neg (by omega), if_neg (by omega)]
      congr 1
      omega
    rw [e1]
    unfold dRight
    have z : i + 1 + m - i = m + 1 := by omega
    rw [z]
    have a1 : (((m + 1 : Nat) : Int) + 1) * g = ((m : Int) + 1) * g + g := by
      have : (((m + 1 : Nat) : Int) + 1) = ((m : Int) + 1) + 1 := by omega
      rw [this, Int.add_mul ((m : Int) + 1) 1 g, Int.one_mul]
    have a2 : (((m + 1 : Nat) : Int) + 1) * G = ((m : Int) + 1) * G + G := by
      have : (((m + 1 : Nat) : Int) + 1) = ((m : Int) + 1) + 1 := by omega
      rw [this, Int.add_mul ((m : Int) + 1) 1 G, Int.one_mul]
    rw [a1, a2]
    have a3 := mul_le (m := (m : Int) + 1) (by omega) hg
    have a4 : i + 1 + (m + 1) = i + 1 + m + 1 := by omega
    rw [a4]
    generalize ((m : Int) + 1) * g = A at *
    generalize ((m : Int) + 1) * G = B at *
    omega
/-- a ring to the left by its right neighbour -/
theorem dv_down (hg : g ≤ G) (hgap : ∀ k : Nat, k + 1 < ns.length → g ≤ ns.getD (k + 1) 0 - ns.getD k 0 ∧ ns.getD (k + 1) 0 - ns.getD k 0 ≤ G) {k : Nat} (hk : k < i) (hn : i < ns.length) :
    min (max (ns.getD k 0) (dv g G ns i goal (k + 1) - G)) (dv g G ns i goal (k + 1) - g) = dv g G ns i goal k := by
  obtain ⟨g1, g2⟩ := hgap k (by omega)
  have e2 : dv g G ns i goal k = dLeft g G ns i goal k := by unfold dv; rw [if_pos hk]
  rw [e2]
  by_cases h : k + 1 = i
  · subst h
    have e1 : dv g G ns (k + 1) goal (k + 1) = goal := by unfold dv; rw [if_neg (by omega), if_pos rfl]
    rw [e1]
    unfold dLeft
    have a1 : (((k + 1 : Nat) : Int) - (k : Int)) = 1 := by omega
    rw [a1, Int.one_mul, Int.one_mul]
    omega
  · have e1 : dv g G ns i goal (k + 1) = dLeft g G ns i goal (k + 1) := by unfold dv; rw [if_pos (by omega)]
    rw [e1]
    unfold dLeft
    have e3 : ((i : Int) - (k : Int)) = ((i : Int) - ((k + 1 : Nat) : Int)) + 1 := by omega
    rw [e3, Int.add_mul _ 1 g, Int.add_mul _ 1 G, Int.one_mul, Int.one_mul]
    have a3 := mul_le (m := (i : Int) - ((k + 1 : Nat) : Int)) (by omega) hg
    generalize ((i : Int) - ((k + 1 : Nat) : Int)) * g = A at *
    generalize ((i : Int) - ((k + 1 : Nat) : Int)) * G = B at *
    omega
theorem dv_at : dv g G ns i goal i = goal := by unfold dv; rw [if_neg (by omega), if_pos rfl]
/-- two neighbours behind a drawing -/
theorem dv_gap (hg : g ≤ G) (hgap : ∀ k : Nat, k + 1 < ns.length → g ≤ ns.getD (k + 1) 0 - ns.getD k 0 ∧ ns.getD (k + 1) 0 - ns.getD k 0 ≤ G) (hi : i < ns.length) {k : Nat} (hn : k + 1 < ns.length) :
    g ≤ dv g G ns i goal (k + 1) - dv g G ns i goal k ∧ dv g G ns i goal (k + 1) - dv g G ns i goal k ≤ G := by
  by_cases h : i ≤ k
  · have := dv_up (goal := goal) hg hgap h hn
    omega
  · have := dv_down (goal := goal) hg hgap (k := k) (by omega) hi
    omega
theorem draw_stand (hg : g ≤ G) (St : Stand g G o ns) (hi : i < ns.length) (hgo : ∀ e, o = some e → e + i * g ≤ goal) : Stand g G o (drawL g G ns i goal) := by
  rw [drawL_tab hi]
  refine ⟨by rw [tab_len]; exact St.ne, fun e he => ?_, fun k hk => ?_⟩
  · rw [tab_getD St.ne]
    have h0 := St.first e he
    have h1 := hgo e he
    by_cases h : 0 < i
    · unfold dv
      rw [if_pos h]
      unfold dLeft
      have a : ((i : Int) - ((0 : Nat) : Int)) * g = (i : Int) * g := by simp
      rw [a]
      generalize ((i : Int) - ((0 : Nat) : Int)) * G = B
      omega
    · have : i = 0 := by omega
      subst this
      rw [dv_at]
      simpa using h1
  · rw [tab_len] at hk
    rw [tab_getD hk, tab_getD (by omega)]
    exact dv_gap hg St.gaps hi hk
/-- the same drawing once more -/
theorem draw_twice (hg : g ≤ G) (hi : i < ns.length) : drawL g G (drawL g G ns i goal) i goal = drawL g G ns i goal := by
  have hl := drawL_len (g := g) (G := G) (goal := goal) hi
  rw [drawL_tab (ns := drawL g G ns i goal) (by rw [hl]; exact hi), hl, drawL_tab hi]
  refine tab_ext fun k hk => ?_
  have hget : (tab ns.length (dv g G ns i goal)).getD k 0 = dv g G ns i goal k := tab_getD hk
  by_cases h1 : k < i
  · have e : dv g G ns i goal k = dLeft g G ns i goal k := by unfold dv; rw [if_pos h1]
    have e2 : dv g G (tab ns.length (dv g G ns i goal)) i goal k = dLeft g G (tab ns.length (dv g G ns i goal)) i goal k := by unfold dv; rw [if_pos h1]
    rw [e2, e]
    unfold dLeft
    rw [hget, e]
    unfold dLeft
    have a3 := mul_le (m := (i : Int) - (k : Int)) (by omega) hg
    generalize ((i : Int) - (k : Int)) * g = A at *
    generalize ((i : Int) - (k : Int)) * G = B at *
    omega
  · by_cases h2 : k = i
    · subst h2
      rw [dv_at, dv_at]
    · obtain ⟨m, rfl⟩ : ∃ m, k = i + 1 + m := ⟨k - (i + 1), by omega⟩
      have e : ∀ ns, dv g G ns i goal (i + 1 + m) = dRight g G ns i goal m := fun ns => by
        unfold dv
        rw [if_neg (by omega), if_neg (by omega)]
        congr 1
        omega
      rw [e, e]
      unfold dRight
      rw [hget, e]
      unfold dRight
      have a3 := mul_le (m := (m : Int) + 1) (by omega) hg
      generalize ((m : Int) + 1) * g = A at *
      generalize ((m : Int) + 1) * G = B at *
      omega
/-- how far two rings of a standing are apart -/
theorem stand_far (St : Stand g G o ns) : ∀ (m k : Nat), k + m < ns.length → (m : Int) * g ≤ ns.getD (k + m) 0 - ns.getD k 0 ∧ ns.getD (k + m) 0 - ns.getD k 0 ≤ (m : Int) * G
  | 0, k, _ => by simp
  | m + 1, k, h => by
    obtain ⟨i1, i2⟩ := stand_far St m k (by omega)
    obtain ⟨g1, g2⟩ := St.gaps (k + m) (by omega)
    have e1 : ((m + 1 : Nat) : Int) * g = (m : Int) * g + g := by
      have : ((m + 1 : Nat) : Int) = (m : Int) + 1 := by omega
      rw [this, Int.add_mul, Int.one_mul]
    have e2 : ((m + 1 : Nat) : Int) * G = (m : Int) * G + G := by
      have : ((m + 1 : Nat) : Int) = (m : Int) + 1 := by omega
      rw [this, Int.add_mul, Int.one_mul]
    rw [e1, e2, show k + (m + 1) = k + m + 1 by omega]
    generalize (m : Int) * g = A at *
    generalize (m : Int) * G = B at *
    omega
/-- a ring that is drawn to where it is -/
theorem draw_stays (St : Stand g G o ns) (hi : i < ns.length) : drawL g G ns i (ns.getD i 0) = ns := by
  rw [drawL_tab hi]
  conv => rhs; rw [of_tab ns]
  refine tab_ext fun k hk => ?_
  by_cases h1 : k < i
  · obtain ⟨a, b⟩ := stand_far St (i - k) k (by omega)
    have e : k + (i - k) = i := by omega
    rw [e] at a b
    have e2 : ((i - k : Nat) : Int) = (i : Int) - (k : Int) := by omega
    rw [e2] at a b
    unfold dv
    rw [if_pos h1]
    unfold dLeft
    generalize ((i : Int) - (k : Int)) * g = A at *
    generalize ((i : Int) - (k : Int)) * G = B at *
    omega
  · by_cases h2 : k = i
    · subst h2
      rw [dv_at]
    · obtain ⟨m, rfl⟩ : ∃ m, k = i + 1 + m := ⟨k - (i + 1), by omega⟩
      obtain ⟨a, b⟩ := stand_far St (m + 1) i (by omega)
      have e : i + (m + 1) = i + 1 + m := by omega
      rw [e] at a b
      have e2 : ((m + 1 : Nat) : Int) = (m : Int) + 1 := by omega
      rw [e2] at a b
      unfold dv
      rw [if_neg (by omega), if_neg (by omega)]
      have e3 : i + 1 + m - (i + 1) = m := by omega
      rw [e3]
      unfold dRight
      generalize ((m : Int) + 1) * g = A at *
      generalize ((m : Int) + 1) * G = B at *
      omega
theorem reach_stays (St : Stand g G o ns) (hi : i < ns.length) : reach g o i (ns.getD i 0) = ns.getD i 0 := by
  cases o with
  | none => rfl
  | some e =>
    obtain ⟨a, _⟩ := stand_far St i 0 (by omega)
    have h0 := St.first e rfl
    rw [Nat.zero_add] at a
    show max (ns.getD i 0) (e + (i : Int) * g) = _
    generalize (i : Int) * g = A at *
    omega
theorem reach_ge {p : Int} : ∀ e, o = some e → e + i * g ≤ reach g o i p := by
  intro e he
  subst he
  show e + (i : Int) * g ≤ max p (e + (i : Int) * g)
  omega
/-- a ring more at the right end -/
theorem stand_more (St : Stand g G o ns) {gap : Int} (h1 : g ≤ gap) (h2 : gap ≤ G) : Stand g G o (ns ++ [ns.getD (ns.length - 1) 0 + gap]) := by
  have gl : ∀ k, k < ns.length → (ns ++ [ns.getD (ns.length - 1) 0 + gap]).getD k 0 = ns.getD k 0 := fun k hk => by
    rw [List.getD_eq_getElem?_getD, List.getElem?_append_left hk, List.getD_eq_getElem?_getD]
  have gr : (ns ++ [ns.getD (ns.length - 1) 0 + gap]).getD ns.length 0 = ns.getD (ns.length - 1) 0 + gap := by
    rw [List.getD_eq_getElem?_getD, List.getElem?_append_right (Nat.le_refl _)]
    simp
  refine ⟨by simp, fun e he => by rw [gl 0 St.ne]; exact St.first e he, fun k hk => ?_⟩
  rw [List.length_append, List.length_singleton] at hk
  by_cases h : k + 1 < ns.length
  · rw [gl _ h, gl _ (by omega)]
    exact St.gaps k h
  · have e : k + 1 = ns.length := by omega
    rw [e, gr, gl k (by omega)]
    have e2 : ns.length - 1 = k := by omega
    rw [e2]
    omega
end
theorem atI_lastD {ns : List Int} (h : 0 < ns.length) : atI (ns.map D.int) (-1) = some (.int (ns.getD (ns.length - 1) 0)) := by
  have e : ns = ns.dropLast ++ [ns.getD (ns.length - 1) 0] := by
    have hne : ns ≠ [] := by intro z; rw [z] at h; exact absurd h (by decide)
    have h1 := (List.dropLast_concat_getLast hne).symm
    have h2 : ns.getLast hne = ns.getD (ns.length - 1) 0 := by
      rw [List.getLast_eq_getElem, List.getD_eq_getElem?_getD, List.getElem?_eq_getElem (by omega)]
      rfl
    rw [← h2]
    exact h1
  have e2 : ns.map D.int = ns.dropLast.map D.int ++ [.int (ns.getD (ns.length - 1) 0)] := by
    conv => lhs; rw [e]
    rw [List.map_append]
    rfl
  rw [e2]
  exact atI_last _ _
end T52

set_option Elab.async false
set_option linter.all false
set_option autoImplicit false
set_option maxRecDepth 100000
set_option maxHeartbeats 4000000
namespace T52
open PySem L2 DL

/-! ### the can -/
def Grow (M M' : MM) : Prop := ∀ x m, M x = some m → M' x = some m
def CanAt (M : MM) (c : Addr) : Prop := ∃ a b : Int, M c = some (.lst [.int a, .int b]) ∧ 0 ≤ b ∧ b < 2147483423
structure Ext (M : MM) (c : Addr) (M' : MM) : Prop where
  can : CanAt M' c
  up : ∀ x m, x ≠ c → M x = some m → M' x = some m
section
variable {M M1 M2 : MM} {a c : Addr} {o : MO}
theorem Grow.refl : Grow M M := fun _ _ h => h
theorem Grow.trans (h : Grow M M1) (k : Grow M1 M2) : Grow M M2 := fun x m e => k x m (h x m e)
theorem Grow.new (h : M a = none) : Grow M (mupd M a o) := fun x m e => by
  rw [mupd_ne (fun z => by subst z; rw [h] at e; cases e)]
  exact e
/-- behind a new one nothing else is touched by its changes -/
theorem Grow.upd (h : Grow M M1) (ha : M a = none) : Grow M (mupd M1 a o) := fun x m e => by
  rw [mupd_ne (fun z => by subst z; rw [ha] at e; cases e)]
  exact h x m e
theorem Ext.refl (h : CanAt M c) : Ext M c M := ⟨h, fun _ _ _ e => e⟩
theorem Ext.trans (h : Ext M c M1) (k : Ext M1 c M2) : Ext M c M2 := ⟨k.can, fun x m n e => k.up x m n (h.up x m n e)⟩
theorem CanAt.grow (h : CanAt M c) (k : Grow M M1) : CanAt M1 c := by
  obtain ⟨a, b, e, h1⟩ := h
  exact ⟨a, b, k _ _ e, h1⟩
theorem Ext.grow (h : Ext M c M1) (k : Grow M1 M2) : Ext M c M2 := ⟨h.can.grow k, fun x m n e => k _ _ (h.up x m n e)⟩
theorem Ext.upd (h : Ext M c M1) (ha : M a = none) (hc : a ≠ c) : Ext M c (mupd M1 a o) := ⟨by
  obtain ⟨x, y, e, z⟩ := h.can
  exact ⟨x, y, by rw [mupd_ne (Ne.symm hc)]; exact e, z⟩, fun x m n e => by
  rw [mupd_ne (fun z => by subst z; rw [ha] at e; cases e)]
  exact h.up x m n e⟩
theorem CanAt.ne (h : CanAt M c) (ha : M a = none) : a ≠ c := fun z => by
  subst z
  obtain ⟨_, _, e, _⟩ := h
  rw [ha] at e
  cases e
end
section
variable {P : Program} {w : World} {K : PySem.W.Frag} {mg : Str → Option Value} {base : Heap}
def Rcan : RD := fun ds M Q => ∃ (cs : List Int) (t : Nat), ds = [.frz (cs.map .int), .int (t : Int)] ∧ t < 1000 ∧ cs.length ≤ 1000 ∧ ∀ c M', M c = none → Ext M c M' → Q (.raw c) M'
theorem cut_ints (cs : List Int) (lo hi : Option Int) : ∃ ms : List Int, cutD (cs.map D.int) lo hi = ms.map .int ∧ ms.length ≤ cs.length := by
  unfold cutD
  refine ⟨_, by rw [← List.map_drop, ← List.map_take], ?_⟩
  simp
  omega
theorem mod_in (x : Int) : 0 ≤ x % 2147483423 ∧ x % 2147483423 < 2147483423 := ⟨Int.emod_nonneg _ (by decide), Int.emod_lt_of_pos _ (by decide)⟩
theorem c_can (B : Blt mg) (d : DefAt K mg "_law_can" (top 42) ["cells", "turn"]) : Cal P w K mg base 1 "_law_can" Rcan := by
  refine d.cal sc__law_can (fun ds M Q ⟨cs, t, e, _⟩ => by rw [e]; rfl) (fun f cdv A outer s H E hr ds M Q ⟨cs, t, e, ht, hcs, q⟩ => ?_)
  subst e
  refine ws_asg (WE.imp (Q := fun d M' => ∃ z : Int, d = .int z ∧ M' = M) (we_if (wt_lt (we_var 1 rfl (we_len B.len (we_var 0 rfl ⟨_, rfl, fun h => ?_, fun _ => ?_⟩))))) ?_)
  · have h := of_decide_eq_true h
    rw [List.length_map] at h
    exact we_ix (we_var 0 rfl (we_var 1 rfl ⟨_, atI_ints (getD_some (i := t) (by omega)), _, rfl, rfl⟩))
  · exact we_mul (we_int (we_add (we_var 1 rfl (we_int ⟨.inl ⟨by decide, by decide⟩, _, rfl, rfl⟩))))
  rintro d M' ⟨cell, rfl, rfl⟩
  refine wg_name 2 sc__law_can.nd ?_
  refine ws_asg (we_add (we_int (we_mul (we_int (we_var 1 rfl ⟨.inl ⟨by decide, by decide⟩, ?_⟩)))))
  refine wg_name 3 sc__law_can.nd ?_
  obtain ⟨ms, hms, hl⟩ := cut_ints cs none (some 4)
  refine ws_for (wi_list (we_add (we_slice (we_var 0 rfl (wo_none (wo_some (we_int ⟨4, rfl, we_lst (wa_cons (we_var 2 rfl (wa_nil ⟨by show 1 ≤ sizeLine; decide, ?_⟩)))⟩)))))))
  rw [hms]
  refine ⟨by rw [List.length_map]; exact sz100 (by simp; omega), _, .inl rfl, ?_⟩
  have e1 : ms.map D.int ++ [D.int cell] = (ms ++ [cell]).map D.int := by simp
  rw [e1]
  generalize ms ++ [cell] = ls
  refine ⟨fun n Γ' M2 => M2 = M' ∧ ∃ (b : Int) (x : Option D), 0 ≤ b ∧ b < 2147483423 ∧ Γ' = [some (.frz (cs.map .int)), some (.int (t : Int)), some (.int cell), some (.int b), x], ⟨rfl, _, _, ?_, ?_, rfl⟩, fun _ _ _ _ _ => trivial, ?_, ?_⟩
  · omega
  · omega
  · rintro i Γ' M2 hi ⟨rfl, b, x, h0, h1, rfl⟩
    rw [List.length_map] at hi
    rw [dAt_ints hi]
    refine wg_name 4 sc__law_can.nd ?_
    refine ws_asg (we_mod (we_intc B.int (we_add (we_add (we_mul (we_var 3 rfl (we_int ⟨.inr ⟨by decide, by decide⟩, we_mod (we_intc B.int (we_var 4 rfl (we_int ⟨show (0 : Int) < 2147483423 by decide, we_int (we_int ⟨show (0 : Int) < 2147483423 by decide, ?_⟩)⟩)))⟩)))))))
    refine wg_name 3 sc__law_can.nd (ws_nil ⟨rfl, _, _, (mod_in _).1, (mod_in _).2, rfl⟩)
  · rintro Γ' M2 ⟨rfl, b, x, h0, h1, rfl⟩
    refine ws_ret (we_lstM (wa_cons (WE.imp (Q := fun d M' => ∃ z : Int, d = .int z ∧ M' = M2) (we_if (wt_ww (ww_or (wt_lt (we_var 2 rfl (we_int ⟨_, rfl, fun _ => ⟨fun _ => ?_, fun h => absurd h (by decide)⟩, fun _ => ww_or1 ?_⟩)))))) ?_)))
    · exact we_abs B.abs (we_var 2 rfl ⟨_, rfl, _, rfl, rfl⟩)
    · refine wt_ge (we_var 2 rfl (we_pow (we_int (we_int ⟨⟨by decide, by decide, by decide⟩, _, rfl, fun _ => ?_, fun _ => ?_⟩))))
      · exact we_abs B.abs (we_var 2 rfl ⟨_, rfl, _, rfl, rfl⟩)
      · exact we_int ⟨_, rfl, rfl⟩
    · rintro d M' ⟨z, rfl, rfl⟩
      refine wa_cons (we_var 3 rfl (wa_nil ⟨by show 2 ≤ sizeLine; decide, fun c hc => ?_⟩))
      exact q c _ hc ⟨⟨_, _, mupd_same, h0, h1⟩, fun x m n e => by rw [mupd_ne n]; exact e⟩
def Rpour : RD := fun ds M Q => ∃ (c : Addr) (t : Int), CanAt M c ∧ 0 < t ∧ t < 1073741824 ∧ ds = [.raw c, .int t] ∧ ∀ k M', 0 ≤ k → k < t → Ext M c M' → Q (.int k) M'
theorem c_pour (B : Blt mg) (d : DefAt K mg "_law_pour" (top 43) ["can", "top"]) : Cal P w K mg base 1 "_law_pour" Rpour := by
  refine d.cal sc__law_pour (fun ds M Q ⟨c, t, _, _, _, e, _⟩ => by rw [e]; rfl) (fun f cdv A outer s H E hr ds M Q ⟨c, t, ⟨a, b, hM, h0, h1⟩, t0, t1, e, q⟩ => ?_)
  subst e
  refine ws_if (wt_gt (we_ix (we_var 0 rfl (we_int ⟨_, _, hM, rfl, we_int ⟨_, rfl, fun _ => ?_, fun _ => ws_nil ?_⟩⟩))))
  · refine ws_asg (we_divmod B.divmod (we_ix (we_var 0 rfl (we_int ⟨_, _, hM, rfl, we_var 1 rfl ⟨_, _, rfl, rfl, t0, t1, ?_⟩⟩))))
    refine wg_tup (wgs_cons (wg_sub (we_var 0 rfl (we_int ⟨_, _, _, 0, rfl, rfl, hM, rfl, wgs_cons (wg_name 2 sc__law_pour.nd (wgs_nil ?_))⟩))))
    refine ws_ret (we_var 2 rfl (q _ _ (Int.emod_nonneg _ (by omega)) (Int.emod_lt_of_pos _ t0) ⟨⟨_, _, mupd_same, h0, h1⟩, fun x m n e => by rw [mupd_ne n]; exact e⟩))
  · refine ws_asg (we_mod (we_intc B.int (we_add (we_mul (we_ix (we_var 0 rfl (we_int ⟨_, _, hM, rfl, we_int ⟨.inr ⟨by decide, by decide⟩, we_int (we_int ⟨show (0 : Int) < 2147483423 by decide, ?_⟩)⟩⟩)))))))
    refine wg_sub (we_var 0 rfl (we_int ⟨_, _, _, 1, rfl, rfl, hM, rfl, ?_⟩))
    refine ws_ret (we_mod (we_intc B.int (we_fdiv (we_ix (we_var 0 rfl (we_int ⟨_, _, mupd_same, rfl, we_int ⟨⟨by decide, by decide⟩, we_var 1 rfl ⟨t0, ?_⟩⟩⟩))))))
    exact q _ _ (Int.emod_nonneg _ (by omega)) (Int.emod_lt_of_pos _ t0) ⟨⟨_, _, mupd_same, (mod_in _).1, (mod_in _).2⟩, fun x m n e => by rw [mupd_ne n]; exact e⟩
def Rone : RD := fun ds M Q => ∃ (c : Addr) (ths : List D), CanAt M c ∧ 0 < ths.length ∧ ths.length < 1000 ∧ ds = [.raw c, .lst ths] ∧ ∀ d M', d ∈ ths → Ext M c M' → Q d M'
theorem c_one (B : Blt mg) (d : DefAt K mg "_law_one" (top 44) ["can", "things"]) (cp : Cal P w K mg base 1 "_law_pour" Rpour) : Cal P w K mg base 2 "_law_one" Rone := by
  refine d.cal sc__law_one (fun ds M Q ⟨c, t, _, _, _, e, _⟩ => by rw [e]; rfl) (fun f cdv A outer s H E hr ds M Q ⟨c, ths, hM, h0, h1, e, q⟩ => ?_)
  subst e
  refine ws_ret (we_ix (we_var 1 rfl (we_call cp hr (by decide) (wa_cons (we_var 0 rfl (wa_cons (we_len B.len (we_var 1 rfl (wa_nil ⟨c, _, hM, by omega, by omega, rfl, fun k M' k0 k1 ex => ?_⟩)))))))))
  obtain ⟨j, rfl⟩ : ∃ j : Nat, k = (j : Int) := ⟨k.toNat, by omega⟩
  have hj : j < ths.length := by omega
  exact ⟨_, atI_nat (List.getElem?_eq_getElem hj), q _ _ (List.getElem_mem hj) ex⟩
def Rspot : RD := fun ds M Q => ∃ c : Addr, CanAt M c ∧ ds = [.raw c] ∧ ∀ s M', -99 ≤ s → s ≤ 99 → Ext M c M' → Q (.int s) M'
theorem c_spot (d : DefAt K mg "_law_spot" (top 45) ["can"]) (cp : Cal P w K mg base 1 "_law_pour" Rpour) (co : Cal P w K mg base 2 "_law_one" Rone) : Cal P w K mg base 3 "_law_spot" Rspot := by
  refine d.cal sc__law_spot (fun ds M Q ⟨c, _, e, _⟩ => by rw [e]; rfl) (fun f cdv A outer s H E hr ds M Q ⟨c, hM, e, q⟩ => ?_)
  subst e
  refine ws_ret (we_call co hr (by decide) (wa_cons (we_var 0 rfl (wa_cons (we_lst (wa_cons (we_int (wa_cons (we_int (wa_cons (we_int (wa_cons (we_neg (we_int ⟨_, rfl, wa_cons (we_int (wa_cons (we_neg (we_int ⟨_, rfl, wa_cons (we_int (wa_cons (we_neg (we_int ⟨_, rfl, ?_⟩))))⟩))))⟩))))))))))))))
  refine wa_cons (we_sub (we_call cp hr (by decide) (wa_cons (we_var 0 rfl (wa_cons (we_int (wa_nil ⟨c, _, hM, by decide, by decide, rfl, fun k1 M1 a0 a1 x1 => we_int ?_⟩)))))))
  refine wa_cons (we_sub (we_call cp hr (by decide) (wa_cons (we_var 0 rfl (wa_cons (we_int (wa_nil ⟨c, _, x1.can, by decide, by decide, rfl, fun k2 M2 b0 b1 x2 => we_int ?_⟩)))))))
  refine wa_nil ⟨by show 10 ≤ sizeLine; decide, wa_nil ⟨c, _, x2.can, by show 0 < 10; decide, by show 10 < 1000; decide, rfl, fun d M' hd x3 => ?_⟩⟩
  have x := (x1.trans x2).trans x3
  simp only [List.mem_cons, List.not_mem_nil, or_false] at hd
  rcases hd with rfl | rfl | rfl | rfl | rfl | rfl | rfl | rfl | rfl | rfl <;> exact q _ _ (by omega) (by omega) x
def Rgoods : RD := fun ds M Q => ∃ c : Addr, CanAt M c ∧ ds = [.raw c] ∧ ∀ g G o M', ClIn g G o → Ext M c M' → Q (clD g G o) M'
theorem c_goods (d : DefAt K mg "_law_goods" (top 46) ["can"]) (cp : Cal P w K mg base 1 "_law_pour" Rpour) (co : Cal P w K mg base 2 "_law_one" Rone) (cs : Cal P w K mg base 3 "_law_spot" Rspot) : Cal P w K mg base 4 "_law_goods" Rgoods := by
  refine d.cal sc__law_goods (fun ds M Q ⟨c, _, e, _⟩ => by rw [e]; rfl) (fun f cdv A outer s H E hr ds M Q ⟨c, hM, e, q⟩ => ?_)
  subst e
  refine ws_asg (WE.imp (Q := fun d M' => ∃ g : Int, d = .int g ∧ 1 ≤ g ∧ g ≤ 8 ∧ Ext M c M') (we_call co hr (by decide) (wa_cons (we_var 0 rfl (wa_cons (we_lst (wa_cons (we_int (wa_cons (we_int (wa_cons (we_int (wa_cons (we_int ?_))))))))))))) ?_)
  · refine wa_cons (we_add (we_int (we_call cp hr (by decide) (wa_cons (we_var 0 rfl (wa_cons (we_int (wa_nil ⟨c, _, hM, by decide, by decide, rfl, fun k1 M1 a0 a1 x1 => ?_⟩))))))))
    refine wa_nil ⟨by show 5 ≤ sizeLine; decide, wa_nil ⟨c, _, x1.can, by show 0 < 5; decide, by show 5 < 1000; decide, rfl, fun d M' hd x3 => ?_⟩⟩
    have x := x1.trans x3
    simp only [List.mem_cons, List.not_mem_nil, or_false] at hd
    rcases hd with rfl | rfl | rfl | rfl | rfl <;> exact ⟨_, rfl, by omega, by omega, x⟩
  rintro d M1 ⟨g, rfl, g1, g8, x1⟩
  refine wg_name 1 sc__law_goods.nd ?_
  refine ws_asg (we_add (we_add (we_var 1 rfl (we_int (we_call cp hr (by decide) (wa_cons (we_var 0 rfl (wa_cons (we_sub (we_int (we_var 1 rfl (wa_nil ⟨c, _, x1.can, by omega, by omega, rfl, fun k1 M2 a0 a1 x2 => ?_⟩))))))))))))
  refine wg_name 2 sc__law_goods.nd ?_
  refine ws_ret (we_if (wt_gt (we_call cp hr (by decide) (wa_cons (we_var 0 rfl (wa_cons (we_int (wa_nil ⟨c, _, x2.can, by decide, by decide, rfl, fun k2 M3 b0 b1 x3 => we_int ⟨_, rfl, fun _ => ?_, fun _ => ?_⟩⟩))))))))
  · refine we_tup (wa_cons (we_var 1 rfl (wa_cons (we_var 2 rfl (wa_nil ⟨by show 2 ≤ sizeLine; decide, ?_⟩)))))
    exact q g (g + 1 + k1) none _ ⟨⟨by omega, by omega, by omega⟩, fun e h => by cases h⟩ ((x1.trans x2).trans x3)
  · refine we_tup (wa_cons (we_var 1 rfl (wa_cons (we_var 2 rfl (wa_cons (we_call cs hr (by decide) (wa_cons (we_var 0 rfl (wa_nil ⟨c, x3.can, rfl, fun e M4 e0 e1 x4 => wa_nil ⟨by show 3 ≤ sizeLine; decide, ?_⟩⟩)))))))))
    exact q g (g + 1 + k1) (some e) _ ⟨⟨by omega, by omega, by omega⟩, fun e' h => by cases h; exact ⟨e0, e1⟩⟩ (((x1.trans x2).trans x3).trans x4)
def Rstanding : RD := fun ds M Q => ∃ (c : Addr) (g G : Int) (o : Option Int) (many : Nat), CanAt M c ∧ ClIn g G o ∧ 0 < many ∧ many ≤ 1000 ∧ ds = [.raw c, clD g G o, .int (many : Int)] ∧
  ∀ s ns M', s ≠ c → M s = none → M' s = some (.lst (ns.map .int)) → Stand g G o ns → ns.length = many → Ext M c M' → Q (.raw s) M'
theorem c_standing (B : Blt mg) (d : DefAt K mg "_law_standing" (top 47) ["can", "goods", "many"]) (cp : Cal P w K mg base 1 "_law_pour" Rpour) (co : Cal P w K mg base 2 "_law_one" Rone) : Cal P w K mg base 3 "_law_standing" Rstanding := by
  refine d.cal sc__law_standing (fun ds M Q ⟨c, g, G, o, m, _, _, _, _, e, _⟩ => by rw [e]; rfl) (fun f cdv A outer s H E hr ds M Q ⟨c, g, G, o, many, hM, hc, m0, m1, e, q⟩ => ?_)
  subst e
  have hgG := hc.ok.gG
  have hg1 := hc.ok.g1
  have hG9 := hc.ok.G9
  refine ws_asg (WE.imp (Q := fun d M' => ∃ z : Int, d = .int z ∧ Ext M c M') (we_call co hr (by decide) (wa_cons (we_var 0 rfl (wa_cons (we_lst (wa_cons (we_int (wa_cons (we_int ?_))))))))) ?_)
  · refine wa_cons (we_sub (we_call cp hr (by decide) (wa_cons (we_var 0 rfl (wa_cons (we_int (wa_nil ⟨c, _, hM, by decide, by decide, rfl, fun k1 M1 a0 a1 x1 => we_int ?_⟩)))))))
    refine wa_cons (we_call cp hr (by decide) (wa_cons (we_var 0 rfl (wa_cons (we_int (wa_nil ⟨c, _, x1.can, by decide, by decide, rfl, fun k2 M2 b0 b1 x2 => ?_⟩))))))
    refine wa_nil ⟨by show 4 ≤ sizeLine; decide, wa_nil ⟨c, _, x2.can, by show 0 < 4; decide, by show 4 < 1000; decide, rfl, fun d M' hd x3 => ?_⟩⟩
    have x := (x1.trans x2).trans x3
    simp only [List.mem_cons, List.not_mem_nil, or_false] at hd
    rcases hd with rfl | rfl | rfl | rfl <;> exact ⟨_, rfl, x⟩
  rintro d M1 ⟨first, rfl, x1⟩
  refine wg_name 3 sc__law_standing.nd ?_
  refine ws_asg (we_lstM (wa_cons (WE.imp (Q := fun d M' => ∃ z : Int, d = .int z ∧ (∀ e, o = some e → e ≤ z) ∧ M' = M1) (we_if (wt_eq hr.units (we_len B.len (we_var 1 rfl ?_)))) ?_)))
  · cases o with
    | none => exact we_int ⟨fun _ => we_var 3 rfl ⟨first, rfl, (fun e h => by cases h), rfl⟩, fun h => by simp at h⟩
    | some e => exact we_int ⟨fun h => by simp at h, fun _ => we_add (we_ix (we_var 1 rfl (we_int ⟨_, rfl, we_abs B.abs (we_var 3 rfl ⟨_, rfl, _, rfl, (fun e' h => by cases h; omega), rfl⟩)⟩)))⟩
  rintro d M2 ⟨z, rfl, hz, rfl⟩
  refine wa_nil ⟨by show 1 ≤ sizeLine; decide, fun a ha => wg_name 4 sc__law_standing.nd ?_⟩
  have hac : a ≠ c := x1.can.ne ha
  have hMa : M a = none := by
    cases e : M a with
    | none => rfl
    | some m => rw [x1.up a m hac e] at ha; cases ha
  refine ws_for (wi_range1 B.range (we_sub (we_var 2 rfl (we_int ⟨_, rfl, ⟨by omega, by omega⟩, ?_⟩))))
  refine ⟨fun n Γ' M' => ∃ (ns : List Int) (x y : Option D), Γ' = [some (.raw c), some (clD g G o), some (.int (many : Int)), some (.int first), some (.raw a), x, y] ∧ Ext M c M' ∧ M' a = some (.lst (ns.map .int)) ∧ Stand g G o ns ∧ ns.length = n + 1, ⟨[z], _, _, rfl, x1.upd hMa hac, mupd_same, ⟨by simp, hz, fun i hi => by simp at hi⟩, rfl⟩, fun _ _ _ _ _ => trivial, ?_, ?_⟩
  · rintro i Γ' M' hi ⟨ns, x, y, rfl, xe, hl, St, hn⟩
    refine wg_name 5 sc__law_standing.nd ?_
    refine ws_asg (WE.imp (Q := fun d M2 => ∃ p : Int, d = .int p ∧ g ≤ p ∧ p ≤ G ∧ Ext M' c M2) (we_call co hr (by decide) (wa_cons (we_var 0 rfl (wa_cons (we_lst (wa_cons (we_ix (we_var 1 rfl (we_int (cl_ix0 (wa_cons (we_ix (we_var 1 rfl (we_int (cl_ix1 ?_))))))))))))))) ?_)
    · refine wa_cons (we_add (we_ix (we_var 1 rfl (we_int (cl_ix0 (we_call cp hr (by decide) (wa_cons (we_var 0 rfl (wa_cons (we_add (we_sub (we_ix (we_var 1 rfl (we_int (cl_ix1 (we_ix (we_var 1 rfl (we_int (cl_ix0 (we_int (wa_nil ⟨c, _, xe.can, by omega, by omega, rfl, fun k1 M1 a0 a1 x1 => ?_⟩)))))))))))))))))))))
      refine wa_nil ⟨by show 3 ≤ sizeLine; decide, wa_nil ⟨c, _, x1.can, by show 0 < 3; decide, by show 3 < 1000; decide, rfl, fun d M' hd x3 => ?_⟩⟩
      have x := x1.trans x3
      simp only [List.mem_cons, List.not_mem_nil, or_false] at hd
      rcases hd with rfl | rfl | rfl <;> exact ⟨_, rfl, by omega, by omega, x⟩
    rintro d M2 ⟨p, rfl, p1, p2, x2⟩
    refine wg_name 6 sc__law_standing.nd ?_
    have hl2 := x2.up a _ hac hl
    refine ws_expr (we_append (we_var 4 rfl ⟨a, _, rfl, hl2, we_add (we_ix (we_var 4 rfl (we_neg (we_int ⟨_, rfl, _, _, hl2, atI_lastD St.ne, we_var 6 rfl ⟨_, hl2, ?_, ws_nil ?_⟩⟩))))⟩))
    · rw [List.length_map]; exact szlt (by omega)
    · refine ⟨ns ++ [ns.getD (ns.length - 1) 0 + p], _, _, rfl, (xe.trans x2).upd hMa hac, ?_, stand_more St p1 p2, by simp; omega⟩
      rw [mupd_same, List.map_append]
      rfl
  · rintro Γ' M' ⟨ns, x, y, rfl, xe, hl, St, hn⟩
    exact ws_ret (we_var 4 rfl (q a ns _ hac hMa hl St (by omega) xe))
/-! nearest -/
def fU (g G : Int) (ns : List Int) (i : Nat) (goal : Int) (t k : Nat) : Int := if i ≤ k ∧ k < i + 1 + t then dv g G ns i goal k else ns.getD k 0
def fD (g G : Int) (ns : List Int) (i : Nat) (goal : Int) (t k : Nat) : Int := if i ≤ k + t then dv g G ns i goal k else ns.getD k 0
theorem set_ints {ns : List Int} {j : Nat} {x : Int} : (ns.map D.int).set j (.int x) = (ns.set j x).map D.int := by rw [List.map_set]
theorem tab_at {n : Nat} {f : Nat → Int} {k : Nat} {z : Int} (hz : z = (k : Int)) (h : k < n) : atI ((tab n f).map D.int) z = some (.int (f k)) := atI_ints' hz (tab_get h)
theorem ix_at {n k : Nat} {z : Int} (hz : z = (k : Int)) (h : k < n) : ixN n z = some k := by
  subst hz
  unfold ixN
  have h0 : (0 : Int) ≤ (k : Int) := by omega
  have h1 : (k : Int) < (n : Int) := by omega
  rw [if_pos h0, if_pos h1, Int.toNat_natCast]
def Rnearest : RD := fun ds M Q => ∃ (g G : Int) (o : Option Int) (ns : List Int) (i : Nat) (goal : Int), ClIn g G o ∧ Stand g G o ns ∧ i < ns.length ∧ ns.length ≤ 1000 ∧ ds = [clD g G o, tI ns, .int (i : Int), .int goal] ∧ ∀ M', Grow M M' → Q (tI (drawL g G ns i goal)) M'
theorem c_nearest (B : Blt mg) (d : DefAt K mg "_law_nearest" (top 48) ["goods", "spots", "at", "goal"]) : Cal P w K mg base 1 "_law_nearest" Rnearest := by
  refine d.cal sc__law_nearest (fun ds M Q ⟨g, G, o, ns, i, goal, _, _, _, _, e, _⟩ => by rw [e]; rfl) (fun f cdv A outer s H E hr ds M Q ⟨g, G, o, ns, i, goal, hc, St, hi, hn, e, q⟩ => ?_)
  subst e
  have hgG : g ≤ G := Int.le_of_lt hc.ok.gG
  refine ws_asg (we_lstc B.list (we_var 1 rfl (fun a ha => wg_name 4 sc__law_nearest.nd ?_)))
  refine ws_asg (we_var 3 rfl (wg_sub (we_var 4 rfl (we_var 2 rfl ⟨a, _, _, i, rfl, rfl, mupd_same, ix_at rfl (by rw [List.length_map]; exact hi), ?_⟩))))
  rw [mupd_mupd, set_ints]
  have e0 : ns.set i goal = tab ns.length (fU g G ns i goal 0) := by
    conv => lhs; rw [of_tab ns, tab_set]
    refine tab_ext fun k hk => ?_
    unfold fU
    by_cases h : k = i
    · subst h
      rw [if_pos rfl, if_pos ⟨Nat.le_refl _, by omega⟩, dv_at]
    · rw [if_neg h, if_neg (by omega)]
  rw [e0]
  refine ws_for (wi_range2 B.range (we_add (we_var 2 rfl (we_int (we_len B.len (we_var 1 rfl ⟨_, _, rfl, rfl, ⟨by omega, by omega, by omega, by simp; omega⟩, ?_⟩))))))
  have e1 : ((((List.map D.int ns).length : Nat) : Int) - ((i : Int) + 1)).toNat = ns.length - (i + 1) := by rw [List.length_map]; omega
  rw [e1]
  refine ⟨fun t Γ' M' => ∃ y : Option D, M' = mupd M a (.lst ((tab ns.length (fU g G ns i goal t)).map .int)) ∧ Γ' = [some (clD g G o), some (tI ns), some (.int (i : Int)), some (.int goal), some (.raw a), y], ⟨_, rfl, rfl⟩, fun _ _ _ _ _ => trivial, ?_, ?_⟩
  · rintro t Γ' M' ht ⟨y, rfl, rfl⟩
    have hk : i + t + 1 < ns.length := by omega
    refine wg_name 5 sc__law_nearest.nd ?_
    refine ws_asg (we_min B.min (we_max B.max (we_ix (we_var 1 rfl (we_var 5 rfl ⟨_, atI_ints' (i := i + t + 1) (by omega) (getD_some hk), ?_⟩)))))
    refine we_add (we_ix (we_var 4 rfl (we_sub (we_var 5 rfl (we_int ⟨_, _, mupd_same, tab_at (k := i + t) (by omega) (by omega), we_ix (we_var 0 rfl (we_int (cl_ix0 ?_)))⟩)))))
    refine we_add (we_ix (we_var 4 rfl (we_sub (we_var 5 rfl (we_int ⟨_, _, mupd_same, tab_at (k := i + t) (by omega) (by omega), we_ix (we_var 0 rfl (we_int (cl_ix1 ?_)))⟩)))))
    have e2 : fU g G ns i goal t (i + t) = dv g G ns i goal (i + t) := by unfold fU; rw [if_pos (by omega)]
    refine wg_sub (we_var 4 rfl (we_var 5 rfl ⟨a, _, _, i + t + 1, rfl, rfl, mupd_same, ix_at (by omega) (by rw [List.length_map, tab_len]; exact hk), ws_nil ⟨_, ?_, rfl⟩⟩))
    rw [mupd_mupd, set_ints, tab_set]
    congr 3
    refine tab_ext fun k hk2 => ?_
    unfold fU
    by_cases h : k = i + t + 1
    · subst h
      rw [if_pos rfl, if_pos (by omega)]
      rw [if_pos (by omega)]
      exact dv_up hgG St.gaps (by omega) hk
    · rw [if_neg h]
      by_cases h2 : i ≤ k ∧ k < i + 1 + t
      · rw [if_pos h2, if_pos (by omega)]
      · rw [if_neg h2, if_neg (by omega)]
  rintro Γ' M' ⟨y, rfl, rfl⟩
  have e3 : tab ns.length (fU g G ns i goal (ns.length - (i + 1))) = tab ns.length (fD g G ns i goal 0) := by
    refine tab_ext fun k hk => ?_
    unfold fU fD
    by_cases h : i ≤ k
    · rw [if_pos (by omega), if_pos (by omega)]
    · rw [if_neg (by omega), if_neg (by omega)]
  rw [e3]
  refine ws_for (wi_range3 B.range (wa_cons (we_sub (we_var 2 rfl (we_int (wa_cons (we_neg (we_int ⟨_, rfl, wa_cons (we_neg (we_int ⟨_, rfl, wa_nil ⟨_, _, _, _, rfl, RgC.neg (by omega) (by omega) (by omega) (by omega), ?_⟩⟩))⟩))))))))
  have e4 : ((i : Int) - 1 - -1).toNat = i := by omega
  rw [e4]
  refine ⟨fun t Γ' M' => ∃ y : Option D, M' = mupd M a (.lst ((tab ns.length (fD g G ns i goal t)).map .int)) ∧ Γ' = [some (clD g G o), some (tI ns), some (.int (i : Int)), some (.int goal), some (.raw a), y], ⟨_, rfl, rfl⟩, fun _ _ _ _ _ => trivial, ?_, ?_⟩
  · rintro t Γ' M' ht ⟨y, rfl, rfl⟩
    obtain ⟨k, hk⟩ : ∃ k, k = i - 1 - t := ⟨_, rfl⟩
    refine wg_name 5 sc__law_nearest.nd ?_
    refine ws_asg (we_min B.min (we_max B.max (we_ix (we_var 1 rfl (we_var 5 rfl ⟨_, atI_ints' (i := k) (by omega) (getD_some (by omega)), ?_⟩)))))
    refine we_sub (we_ix (we_var 4 rfl (we_add (we_var 5 rfl (we_int ⟨_, _, mupd_same, tab_at (k := k + 1) (by omega) (by omega), we_ix (we_var 0 rfl (we_int (cl_ix1 ?_)))⟩)))))
    refine we_sub (we_ix (we_var 4 rfl (we_add (we_var 5 rfl (we_int ⟨_, _, mupd_same, tab_at (k := k + 1) (by omega) (by omega), we_ix (we_var 0 rfl (we_int (cl_ix0 ?_)))⟩)))))
    have e2 : fD g G ns i goal t (k + 1) = dv g G ns i goal (k + 1) := by unfold fD; rw [if_pos (by omega)]
    refine wg_sub (we_var 4 rfl (we_var 5 rfl ⟨a, _, _, k, rfl, rfl, mupd_same, ix_at (by omega) (by rw [List.length_map, tab_len]; omega), ws_nil ⟨_, ?_, rfl⟩⟩))
    rw [mupd_mupd, set_ints, tab_set]
    congr 3
    refine tab_ext fun j hj => ?_
    unfold fD
    by_cases h : j = k
    · subst h
      rw [if_pos rfl, if_pos (by omega)]
      rw [if_pos (by omega)]
      exact dv_down hgG St.gaps (by omega) hi
    · rw [if_neg h]
      by_cases h2 : i ≤ j + t
      · rw [if_pos h2, if_pos (by omega)]
      · rw [if_neg h2, if_neg (by omega)]
  rintro Γ' M' ⟨y, rfl, rfl⟩
  have e5 : tab ns.length (fD g G ns i goal i) = drawL g G ns i goal := by
    rw [drawL_tab hi]
    refine tab_ext fun k hk => ?_
    unfold fD
    rw [if_pos (by omega)]
  refine ws_ret (we_tupc B.tuple (we_var 4 rfl ⟨_, mupd_same, ?_⟩))
  rw [e5]
  exact q _ (Grow.new ha)
end
end T52

set_option Elab.async false
set_option linter.all false
set_option autoImplicit false
set_option maxRecDepth 100000
set_option maxHeartbeats 4000000
namespace T52
open PySem L2 DL

theorem ws_ifI {X : Cx} {Γ : DL.G} {M : MM} {Φ : Fi} {pos : Pos} {rest a b : List Stmt} {c : Expr} (I : DL.G → MM → Prop) (h : WT X c Γ M fun t M1 => (t = true → WS X a Γ M1 { Φ with nx := I }) ∧ (t = false → WS X b Γ M1 { Φ with nx := I })) (hr : ∀ Γ' M', I Γ' M' → WS X rest Γ' M' Φ) : WS X (.If c a b pos :: rest) Γ M Φ :=
  ws_if (h.imp fun t M1 ⟨h1, h2⟩ => ⟨fun e => (h1 e).imp (fun Γ' M' i => hr Γ' M' i) (fun _ _ x => x) (fun _ _ x => x) (fun _ _ x => x), fun e => (h2 e).imp (fun Γ' M' i => hr Γ' M' i) (fun _ _ x => x) (fun _ _ x => x) (fun _ _ x => x)⟩)
theorem left_is : ("left " : Str) = "left" ++ (" " : Str) := by decide +kernel
theorem right_is : ("right " : Str) = "right" ++ (" " : Str) := by decide +kernel
theorem left_row {j x : Int} : ("left " : Str) ++ num j ++ (" to " : Str) ++ num x = drawRow "left" j x := by unfold drawRow; rw [left_is]
theorem right_row {j x : Int} : ("right " : Str) ++ num j ++ (" to " : Str) ++ num x = drawRow "right" j x := by unfold drawRow; rw [right_is]
/-- a row of a drawing of the ring i to x -/
def RowOf (n i : Nat) (x : Int) (row : Str) : Prop := ∃ (sd : Str) (j : Int), (sd = "left" ∨ sd = "right") ∧ 1 ≤ j ∧ j ≤ 5 ∧ j ≤ (n : Int) ∧ moveIx sd j n = i ∧ row = drawRow sd j x
theorem gRails {M : MM} {r p : Addr} {o1 o2 o3 : MO} (hr : M r = none) (hp : M p = none) : Grow M (mupd (mupd (mupd M r o1) p o2) r o3) := ((Grow.refl.upd hr).upd hp).upd hr
theorem gBecome {M M' : MM} {C r p : Addr} {c pl c' pl' : D} {past : List D} (h : Grow M M') (hr : M r = none) (hp : M p = none) : Grow M (become M' C r p c pl past c' pl') := (h.upd hp).upd hr
theorem rail_new {M : MM} {C r p : Addr} {c pl : D} {o1 : MO} (hpr : p ≠ r) : RailAt (mupd (mupd (mupd M r o1) p (.lst [])) r (.ins C rn [c, pl, .raw p])) C r p c pl [] :=
  ⟨mupd_same, by rw [mupd_ne hpr, mupd_same], Ne.symm hpr⟩
section
variable {P : Program} {w : World} {K : PySem.W.Frag} {mg : Str → Option Value} {base : Heap} {C : Addr}
def Rnamed : RD := fun ds M Q => ∃ (g G : Int) (o : Option Int) (ns : List Int) (i : Nat) (x : Int), ClIn g G o ∧ Stand g G o ns ∧ i < ns.length ∧ ns.length ≤ 1000 ∧ ds = [clD g G o, tI ns, .int (i : Int), .int x, tI (drawL g G ns i (reach g o i x))] ∧ ∀ M', Grow M M' → Q (.bl true) M'
theorem c_named (B : Blt mg) (d : DefAt K mg "_law_named_right" (top 49) ["goods", "spots", "at", "spot", "due"]) (ck : Mak P w K mg base 5 "Rail" C (Rinit C)) (cm : Met P w K mg base 6 C "move" (Rmove C)) : Cal P w K mg base 7 "_law_named_right" Rnamed := by
  refine d.cal sc__law_named_right (fun ds M Q ⟨g, G, o, ns, i, x, _, _, _, _, e, _⟩ => by rw [e]; rfl) (fun f cdv A outer s H E hr ds M Q ⟨g, G, o, ns, i, x, hc, St, hi, hn, e, q⟩ => ?_)
  subst e
  refine ws_if (wt_gt (we_abs B.abs (we_var 3 rfl ⟨_, rfl, we_int ⟨_, rfl, fun _ => ws_ret (we_bl (q _ Grow.refl)), fun hx => ws_nil ?_⟩⟩)))
  have hx := of_decide_eq_false hx
  have x1 : -99 ≤ x := by omega
  have x2 : x ≤ 99 := by omega
  refine ws_asg (we_lstM (wa_nil ⟨by show 0 ≤ sizeLine; decide, fun a ha => wg_name 5 sc__law_named_right.nd ?_⟩))
  generalize hdue : drawL g G ns i (reach g o i x) = due
  -- what stands behind each of the two tests
  obtain ⟨I, hI⟩ : ∃ I : DL.G → MM → Prop, I = fun Γ' M' => ∃ rows : List Str, Γ' = [some (clD g G o), some (tI ns), some (.int (i : Int)), some (.int x), some (tI due), some (.raw a), none] ∧ M' = mupd M a (.lst (rows.map .str)) ∧ (∀ r, r ∈ rows → RowOf ns.length i x r) ∧ rows.length ≤ 2 := ⟨_, rfl⟩
  obtain ⟨J, hJ⟩ : ∃ J : DL.G → MM → Prop, J = fun Γ' M' => ∃ rows : List Str, Γ' = [some (clD g G o), some (tI ns), some (.int (i : Int)), some (.int x), some (tI due), some (.raw a), none] ∧ M' = mupd M a (.lst (rows.map .str)) ∧ (∀ r, r ∈ rows → RowOf ns.length i x r) ∧ rows.length ≤ 1 := ⟨_, rfl⟩
  refine ws_ifI J (wt_lt (we_var 2 rfl (we_int ⟨_, rfl, fun h5 => ?_, fun _ => ws_nil ?_⟩))) ?_
  · have h5 := of_decide_eq_true h5
    have n1 := num_blank (n := (i : Int) + 1) (by omega) (by omega)
    have n2 := num_blank x1 x2
    have l0 : ("left " : Str).length = 5 := by decide +kernel
    have l1 : (" to " : Str).length = 4 := by decide +kernel
    refine ws_expr (we_append (we_var 5 rfl ⟨a, _, rfl, mupd_same, we_add (we_add (we_add (we_str (we_strc B.str (we_add (we_var 2 rfl (we_int ⟨_, rfl, small_log (by omega) (by omega), ⟨sz100 ?_, we_str ⟨sz100 ?_, we_strc B.str (we_var 3 rfl ⟨_, rfl, small_log x1 x2, ⟨sz100 ?_, _, mupd_same, by show 0 < sizeLine; decide, ws_nil ?_⟩⟩)⟩⟩⟩)))))))⟩))
    · show ("left " : Str).length + (num ((i : Int) + 1)).length ≤ 100000
      omega
    · show (("left " : Str) ++ num ((i : Int) + 1)).length + (" to " : Str).length ≤ 100000
      rw [app_len]
      omega
    · show (("left " : Str) ++ num ((i : Int) + 1) ++ (" to " : Str)).length + (num x).length ≤ 100000
      rw [app_len, app_len]
      omega
    · subst hJ
      refine ⟨[drawRow "left" ((i : Int) + 1) x], rfl, ?_, ?_, Nat.le_refl _⟩
      · rw [mupd_mupd, ← left_row]
        rfl
      · intro r hr'
        rw [List.mem_singleton] at hr'
        refine ⟨"left", (i : Int) + 1, .inl rfl, by omega, by omega, by omega, ?_, hr'⟩
        unfold moveIx
        rw [if_pos rfl]
        omega
  · subst hJ
    exact ⟨[], rfl, rfl, fun r h => absurd h List.not_mem_nil, by decide⟩
  intro Γ1 M1 h1
  subst hJ
  obtain ⟨rows, rfl, rfl, hrows, hlen⟩ := h1
  refine ws_ifI I (wt_lt (we_sub (we_len B.len (we_var 1 rfl (we_var 2 rfl (we_int ⟨_, rfl, fun h6 => ?_, fun _ => ws_nil ?_⟩)))))) ?_
  · have h6 := of_decide_eq_true h6
    rw [List.length_map] at h6
    have n1 := num_blank (n := (ns.length : Int) - (i : Int)) (by omega) (by omega)
    have n2 := num_blank x1 x2
    have l0 : ("right " : Str).length = 6 := by decide +kernel
    have l1 : (" to " : Str).length = 4 := by decide +kernel
    have e6 : (((ns.map D.int).length : Nat) : Int) - (i : Int) = (ns.length : Int) - (i : Int) := by rw [List.length_map]
    refine ws_expr (we_append (we_var 5 rfl ⟨a, _, rfl, mupd_same, we_add (we_add (we_add (we_str (we_strc B.str (we_sub (we_len B.len (we_var 1 rfl (we_var 2 rfl ⟨_, rfl, small_log (by rw [e6]; omega) (by rw [e6]; omega), ⟨sz100 ?_, we_str ⟨sz100 ?_, we_strc B.str (we_var 3 rfl ⟨_, rfl, small_log x1 x2, ⟨sz100 ?_, _, mupd_same, by rw [List.length_map]; exact szlt (by omega), ws_nil ?_⟩⟩)⟩⟩⟩))))))))⟩))
    · rw [e6]
      show ("right " : Str).length + (num ((ns.length : Int) - (i : Int))).length ≤ 100000
      omega
    · rw [e6]
      show (("right " : Str) ++ num ((ns.length : Int) - (i : Int))).length + (" to " : Str).length ≤ 100000
      rw [app_len]
      omega
    · rw [e6]
      show (("right " : Str) ++ num ((ns.length : Int) - (i : Int)) ++ (" to " : Str)).length + (num x).length ≤ 100000
      rw [app_len, app_len]
      omega
    · subst hI
      refine ⟨rows ++ [drawRow "right" ((ns.length : Int) - (i : Int)) x], rfl, ?_, ?_, by simp; omega⟩
      · rw [mupd_mupd, ← right_row, List.map_append, e6]
        rfl
      · intro r hr'
        rw [List.mem_append, List.mem_singleton] at hr'
        rcases hr' with hr' | hr'
        · exact hrows r hr'
        · refine ⟨"right", (ns.length : Int) - (i : Int), .inr rfl, by omega, by omega, by omega, ?_, hr'⟩
          unfold moveIx
          rw [if_neg (by decide +kernel)]
          omega
  · subst hI
    exact ⟨rows, rfl, rfl, hrows, by omega⟩
  intro Γ2 M2 h2
  subst hI
  obtain ⟨rows, rfl, rfl, hrows, hlen⟩ := h2
  refine ws_for (wi_raw (we_var 5 rfl ⟨a, _, rfl, mupd_same, ?_⟩))
  refine ⟨fun n Γ' M' => Grow M M' ∧ M' a = some (.lst (rows.map .str)) ∧ ∃ y : Option D, Γ' = [some (clD g G o), some (tI ns), some (.int (i : Int)), some (.int x), some (tI due), some (.raw a), y], ⟨Grow.new ha, mupd_same, _, rfl⟩, fun _ _ _ _ h => h.2.1, ?_, ?_⟩
  · rintro k Γ' M' hk ⟨gM, hMa, y, rfl⟩
    rw [List.length_map] at hk
    obtain ⟨sd, j, h0, j1, j5, jn, hmi, hrow⟩ := hrows rows[k] (List.getElem_mem hk)
    have hdat : dAt (rows.map D.str) k = .str (drawRow sd j x) := dAt_of (by rw [List.getElem?_map, List.getElem?_eq_getElem hk, hrow]; rfl)
    rw [hdat]
    refine wg_name 6 sc__law_named_right.nd ?_
    refine ws_if (wt_ne hr.units (we_meth cm hr (by decide) (we_make ck hr (by decide) (wa_cons (we_var 0 rfl (wa_cons (we_tupc B.tuple (we_var 1 rfl (wa_nil (fun r hr' => ?_))))))))))
    refine ⟨r, g, G, o, ns, hc, St, hn, mupd_same, rfl, fun p hpr hp => ⟨rfl, ins_of (rail_new hpr) (by decide), ?_⟩⟩
    have hMp : M' p = none := by rw [mupd_ne hpr] at hp; exact hp
    have hsp : Txt.split (drawRow sd j x) " " = [sd, num j, "to", num x] := drawRow_split (by rcases h0 with rfl | rfl <;> decide +kernel) (by omega) (by omega) x1 x2
    have hle : (drawRow sd j x).length ≤ 100 := drawRow_len (by rcases h0 with rfl | rfl <;> decide +kernel) (by omega) (by omega) x1 x2
    refine wa_cons (we_var 6 rfl (wa_nil ⟨r, p, g, G, o, ns, [], sd, _, j, x, rail_new hpr, by show 0 < 100000; decide, h0, j1, j5, x1, x2, jn, hn, hle, hsp, rfl, we_var 4 rfl (eqQ_ints ?_)⟩))
    rw [hmi, hdue]
    dsimp only
    rw [decide_eq_true (rfl : due = due)]
    refine ⟨fun h => absurd h (by decide), fun _ => ws_nil (ws_nil ?_)⟩
    have gg := gBecome (C := C) (c := clD g G o) (pl := tI ns) (past := []) (c' := clD g G o) (pl' := tI due) (gRails (o1 := .ins C [] []) (o2 := .lst []) (o3 := .ins C rn [clD g G o, tI ns, .raw p]) hr' hMp) hr' hMp
    exact ⟨gM.trans gg, gg _ _ hMa, _, rfl⟩
  · rintro Γ' M' ⟨gM, hMa, y, rfl⟩
    exact ws_ret (we_bl (q _ gM))
end
end T52

set_option Elab.async false
set_option linter.all false
set_option autoImplicit false
set_option maxRecDepth 100000
set_option maxHeartbeats 4000000
namespace T52
open PySem L2 DL

theorem eqQ_int {i j : Int} {M : MM} {Q : Bool → MM → Prop} (h : Q (decide (i = j)) M) : EqQ (.int i) (.int j) M Q := h
/-- draw's keywords: place first, then index -/
def gDraw {α : Type} (us ws : List α) : List α := match us, ws with
  | [s], [a, b] => [s, b, a]
  | _, _ => []
theorem RailAt.ext {M M' : MM} {C r p c0 : Addr} {c pl : D} {past : List D} (h : RailAt M C r p c pl past) (e : Ext M c0 M') (h1 : r ≠ c0) (h2 : p ≠ c0) : RailAt M' C r p c pl past := ⟨e.up _ _ h1 h.ins, e.up _ _ h2 h.lst, h.ne⟩
theorem Ext.become {M M' : MM} {C r p c0 : Addr} {c pl c' pl' : D} {past : List D} (h : Ext M c0 M') (hr : M r = none) (hp : M p = none) (h1 : r ≠ c0) (h2 : p ≠ c0) : Ext M c0 (become M' C r p c pl past c' pl') := (h.upd hp h2).upd hr h1
section
variable {P : Program} {w : World} {K : PySem.W.Frag} {mg : Str → Option Value} {base : Heap} {C : Addr}
def Rright : RD := fun ds M Q => ∃ c : Addr, CanAt M c ∧ ds = [.raw c] ∧ ∀ M', Ext M c M' → Q (.bl true) M'
/-- how things stand at each turn -/
structure LS (C : Addr) (M M' : MM) (c s r p : Addr) (g G : Int) (o : Option Int) (n : Nat) (ms cur : List Int) (past : List D) (t : Nat) : Prop where
  ext : Ext M c M'
  spots : M' s = some (.lst (ms.map .int))
  rail : RailAt M' C r p (clD g G o) (tI cur) past
  st : Stand g G o cur
  ml : ms.length = n
  cl : cur.length = n
  pl : past.length = t
structure LF (M : MM) (c s r p : Addr) : Prop where
  zs : M s = none
  zr : M r = none
  zp : M p = none
  sc : s ≠ c
  rc : r ≠ c
  pc : p ≠ c
  sr : s ≠ r
  sp : s ≠ p
section
variable {M M' M2 : MM} {c s r p : Addr} {g G : Int} {o : Option Int} {n t : Nat} {ms cur : List Int} {past : List D}
theorem LS.by (h : LS C M M' c s r p g G o n ms cur past t) (f : LF M c s r p) (e : Ext M' c M2) : LS C M M2 c s r p g G o n ms cur past t :=
  ⟨h.ext.trans e, e.up _ _ f.sc h.spots, h.rail.ext e f.rc f.pc, h.st, h.ml, h.cl, h.pl⟩
theorem LS.grow (h : LS C M M' c s r p g G o n ms cur past t) (f : LF M c s r p) (e : Grow M' M2) : LS C M M2 c s r p g G o n ms cur past t := h.by f ((Ext.refl h.ext.can).grow e)
theorem LS.move (h : LS C M M' c s r p g G o n ms cur past t) (f : LF M c s r p) {cur' : List Int} (St : Stand g G o cur') (hl : cur'.length = n) :
    LS C M (become M' C r p (clD g G o) (tI cur) past (clD g G o) (tI cur')) c s r p g G o n ms cur' (past ++ [.tup [clD g G o, tI cur]]) (t + 1) :=
  ⟨h.ext.become f.zr f.zp f.rc f.pc, by rw [become_ne f.sr f.sp]; exact h.spots, h.rail.become, St, h.ml, hl, by rw [List.length_append, h.pl]; rfl⟩
end
theorem c_right (B : Blt mg) (T : RC K C) (d : DefAt K mg "_law_right" (top 50) ["can"]) (cp : Cal P w K mg base 1 "_law_pour" Rpour) (co : Cal P w K mg base 2 "_law_one" Rone) (cS : Cal P w K mg base 3 "_law_spot" Rspot) (cg : Cal P w K mg base 4 "_law_goods" Rgoods) (cs : Cal P w K mg base 3 "_law_standing" Rstanding)
    (cn : Cal P w K mg base 1 "_law_nearest" Rnearest) (cN : Cal P w K mg base 7 "_law_named_right" Rnamed) (ck : Mak P w K mg base 5 "Rail" C (Rinit C)) (cd : Met P w K mg base 3 C "draw" (Rdraw C)) (cK : MetK P w K mg base 3 C "draw" ["place", "index"] gDraw (Rdraw C))
    (ci : Cal P w K mg base 5 "is_standing" RisStanding) (pc : Prp P w K mg base 1 C "cloth" (RgetC C)) (pp : Prp P w K mg base 1 C "places" (RgetP C)) (ph : Prp P w K mg base 1 C "changes" (RgetH C)) : Cal P w K mg base 8 "_law_right" Rright := by
  refine d.cal sc__law_right (fun ds M Q ⟨c, _, e, _⟩ => by rw [e]; rfl) (fun f cdv A outer s H E hr ds M Q ⟨c, hM, e, q⟩ => ?_)
  subst e
  refine ws_asg (we_call cg hr (by decide) (wa_cons (we_var 0 rfl (wa_nil ⟨c, hM, rfl, fun g G o M1 hc x1 => wg_name 1 sc__law_right.nd ?_⟩))))
  refine ws_asg (we_call cs hr (by decide) (wa_cons (we_var 0 rfl (wa_cons (we_var 1 rfl (wa_cons (we_add (we_int (we_call cp hr (by decide) (wa_cons (we_var 0 rfl (wa_cons (we_int (wa_nil ⟨c, 8, x1.can, by decide, by decide, rfl, fun k M2 k0 k1 x2 => ?_⟩))))))))))))))
  obtain ⟨m, rfl⟩ : ∃ m : Nat, k = (m : Int) := ⟨k.toNat, by omega⟩
  have em : (1 : Int) + (m : Int) = ((1 + m : Nat) : Int) := by omega
  refine wa_nil ⟨c, g, G, o, 1 + m, x2.can, hc, by omega, by omega, by rw [em], fun s ms M3 hsc hs hl St hn x3 => wg_name 2 sc__law_right.nd ?_⟩
  have x13 := (x1.trans x2).trans x3
  refine ws_asg (we_make ck hr (by decide) (wa_cons (we_var 1 rfl (wa_cons (we_tupc B.tuple (we_var 2 rfl ⟨_, hl, wa_nil (fun r hrM => ?_)⟩))))))
  refine ⟨r, g, G, o, ms, hc, St, by omega, mupd_same, rfl, fun p hpr hp => ⟨rfl, wg_name 3 sc__law_right.nd ?_⟩⟩
  have none_of : ∀ {M' : MM} {x : Addr}, Ext M c M' → x ≠ c → M' x = none → M x = none := fun {M' x} e n h => by
    cases q : M x with
    | none => rfl
    | some m => rw [e.up x m n q] at h; cases h
  have hMp : M3 p = none := by rw [mupd_ne hpr] at hp; exact hp
  have F : LF M c s r p := ⟨none_of (x1.trans x2) hsc hs, none_of x13 (x3.can.ne hrM) hrM, none_of x13 (x3.can.ne hMp) hMp, hsc, x3.can.ne hrM, x3.can.ne hMp, (fun z => by subst z; rw [hl] at hrM; cases hrM), (fun z => by subst z; rw [hl] at hMp; cases hMp)⟩
  refine ws_for (wi_range1 B.range (we_int ⟨10, rfl, ⟨by decide, by decide⟩, ?_⟩))
  refine ⟨fun t Γ' M' => ∃ (cur : List Int) (past : List D) (y1 y2 y3 y4 y5 y6 y7 : Option D), LS C M M' c s r p g G o (1 + m) ms cur past (3 * t) ∧ Γ' = [some (.raw c), some (clD g G o), some (.raw s), some (.raw r), y1, y2, y3, y4, y5, y6, y7],
    ⟨ms, [], none, none, none, none, none, none, none, ⟨((x13.upd F.zr F.rc).upd F.zp F.pc).upd F.zr F.rc, ?_, rail_new hpr, St, hn, hn, rfl⟩, rfl⟩, fun _ _ _ _ _ => trivial, ?_, ?_⟩
  · rw [mupd_ne F.sr, mupd_ne F.sp, mupd_ne F.sr]
    exact hl
  · rintro t Γ' M' ht ⟨cur, past, y1, y2, y3, y4, y5, y6, y7, L, rfl⟩
    have hcl := L.cl
    have hml := L.ml
    have hpl := L.pl
    have ht10 : t < 10 := ht
    refine wg_name 4 sc__law_right.nd ?_
    refine ws_par 5 6 sc__law_right.nd (by decide) (wa_cons (we_prop pp hr (by decide) (we_var 3 rfl ⟨ins_of L.rail (by decide), r, p, _, _, past, L.rail, rfl, ?_⟩)))
    refine wa_cons (we_call cp hr (by decide) (wa_cons (we_var 0 rfl (wa_cons (we_len B.len (we_var 2 rfl ⟨_, L.spots, wa_nil ⟨c, _, L.ext.can, by rw [List.length_map]; omega, by rw [List.length_map]; omega, rfl, fun k M4 a0 a1 x4 => wa_nil ⟨_, _, rfl, ?_⟩⟩⟩))))))
    rw [List.length_map] at a1
    obtain ⟨i, rfl⟩ : ∃ i : Nat, k = (i : Int) := ⟨k.toNat, by omega⟩
    have hi : i < cur.length := by omega
    have L4 := L.by F x4
    -- spot
    refine ws_asg (WE.imp (Q := fun d M' => ∃ x : Int, d = .int x ∧ Ext M4 c M') (we_call co hr (by decide) (wa_cons (we_var 0 rfl (wa_cons (we_lst (wa_cons (we_call cS hr (by decide) (wa_cons (we_var 0 rfl (wa_nil ⟨c, L4.ext.can, rfl, fun s1 M5 _ _ x5 => ?_⟩)))))))))) ?_)
    · refine wa_cons (we_sub (we_add (we_ix (we_var 5 rfl (we_var 6 rfl ⟨_, atI_ints (getD_some hi), we_call cp hr (by decide) (wa_cons (we_var 0 rfl (wa_cons (we_int (wa_nil ⟨c, _, x5.can, by decide, by decide, rfl, fun k2 M6 _ _ x6 => we_int ?_⟩)))))⟩)))))
      refine wa_cons (we_pow (we_int (we_int ⟨⟨by decide, by decide, by decide⟩, ?_⟩)))
      refine wa_cons (we_neg (we_pow (we_int (we_int ⟨⟨by decide, by decide, by decide⟩, _, rfl, ?_⟩))))
      refine wa_nil ⟨by show 4 ≤ sizeLine; decide, wa_nil ⟨c, _, x6.can, by show 0 < 4; decide, by show 4 < 1000; decide, rfl, fun d M' hd x7 => ?_⟩⟩
      have x := (x5.trans x6).trans x7
      simp only [List.mem_cons, List.not_mem_nil, or_false] at hd
      rcases hd with rfl | rfl | rfl | rfl <;> exact ⟨_, rfl, x⟩
    rintro d M5 ⟨x, rfl, x5⟩
    have L5 := L4.by F x5
    refine wg_name 7 sc__law_right.nd ?_
    -- goal
    refine ws_asg (WE.imp (Q := fun d M' => d = .int (reach g o i x) ∧ M' = M5) (we_if (wt_eq hr.units (we_len B.len (we_var 1 rfl ?_)))) ?_)
    · cases o with
      | none => exact we_int ⟨fun _ => we_var 7 rfl ⟨rfl, rfl⟩, fun h => by simp at h⟩
      | some e => exact we_int ⟨fun h => by simp at h, fun _ => we_max B.max (we_var 7 rfl (we_add (we_ix (we_var 1 rfl (we_int ⟨_, rfl, we_mul (we_var 6 rfl (we_ix (we_var 1 rfl (we_int ⟨_, rfl, .inl ⟨by omega, by omega⟩, rfl, rfl⟩))))⟩)))))⟩
    rintro d M6 ⟨rfl, rfl⟩
    refine wg_name 8 sc__law_right.nd ?_
    refine ws_asg (we_call cn hr (by decide) (wa_cons (we_var 1 rfl (wa_cons (we_var 5 rfl (wa_cons (we_var 6 rfl (wa_cons (we_var 8 rfl (wa_nil ⟨g, G, o, cur, i, _, hc, L5.st, hi, by omega, rfl, fun M7 g7 => wg_name 9 sc__law_right.nd ?_⟩))))))))))
    have L7 := L5.grow F g7
    obtain ⟨due, hdue⟩ : ∃ due, drawL g G cur i (reach g o i x) = due := ⟨_, rfl⟩
    have hgG : g ≤ G := Int.le_of_lt hc.ok.gG
    have Sd : Stand g G o due := by rw [← hdue]; exact draw_stand hgG L7.st hi (fun e he => reach_ge e he)
    have hdl : due.length = 1 + m := by rw [← hdue, drawL_len hi, hcl]
    have htw : drawL g G due i (reach g o i x) = due := by rw [← hdue]; exact draw_twice hgG hi
    rw [hdue]
    -- drawn once
    refine ws_if (wt_ww (ww_or (wt_ne hr.units (we_meth cd hr (by decide) (we_var 3 rfl ⟨ins_of L7.rail (by decide), wa_cons (we_var 6 rfl (wa_cons (we_var 7 rfl (wa_nil ⟨r, p, g, G, o, cur, past, i, x, L7.rail, by omega, hi, by omega, rfl, we_var 9 rfl (eqQ_ints ?_)⟩))))⟩)))))
    rw [hdue]
    dsimp only
    rw [decide_eq_true (rfl : due = due)]
    have L8 := L7.move F Sd hdl
    refine ⟨fun h => absurd h (by decide), fun _ => ww_or (wt_ne hr.units (we_prop pp hr (by decide) (we_var 3 rfl ⟨ins_of L8.rail (by decide), r, p, _, _, _, L8.rail, rfl, we_var 9 rfl (eqQ_ints ?_)⟩)))⟩
    rw [decide_eq_true (rfl : due = due)]
    refine ⟨fun h => absurd h (by decide), fun _ => ww_or1 (wt_not (wt_val (we_call ci hr (by decide) (wa_cons (we_var 1 rfl (wa_cons (we_var 9 rfl (wa_nil ⟨g, G, o, due, hc, Sd, by omega, rfl, true, rfl, fun h => absurd h (by decide), fun _ => ws_nil ?_⟩))))))))⟩
    -- by name
    refine ws_if (wt_not (wt_val (we_call cN hr (by decide) (wa_cons (we_var 1 rfl (wa_cons (we_var 5 rfl (wa_cons (we_var 6 rfl (wa_cons (we_var 7 rfl (wa_cons (we_var 9 rfl (wa_nil ⟨g, G, o, cur, i, x, hc, L7.st, hi, by omega, by rw [hdue], fun M9 g9 => ⟨true, rfl, fun h => absurd h (by decide), fun _ => ws_nil ?_⟩⟩))))))))))))))
    have L9 := L8.grow F g9
    -- drawn again
    refine ws_if (wt_ne hr.units (we_methK cK hr (by decide) (we_var 3 rfl ⟨ins_of L9.rail (by decide), wk_cons (we_var 7 rfl (wk_cons (we_var 6 rfl (wk_nil ⟨r, p, g, G, o, due, _, i, x, L9.rail, by have := L9.pl; omega, by omega, by omega, rfl, we_var 9 rfl (eqQ_ints ?_)⟩))))⟩)))
    rw [htw]
    dsimp only
    rw [decide_eq_true (rfl : due = due)]
    have L10 := L9.move F Sd hdl
    refine ⟨fun h => absurd h (by decide), fun _ => ws_nil ?_⟩
    -- another ring, where it is
    refine ws_asg (we_call cp hr (by decide) (wa_cons (we_var 0 rfl (wa_cons (we_len B.len (we_var 2 rfl ⟨_, L10.spots, wa_nil ⟨c, _, L10.ext.can, by rw [List.length_map]; omega, by rw [List.length_map]; omega, rfl, fun k M11 b0 b1 x11 => wg_name 10 sc__law_right.nd ?_⟩⟩))))))
    rw [List.length_map] at b1
    obtain ⟨j, rfl⟩ : ∃ j : Nat, k = (j : Int) := ⟨k.toNat, by omega⟩
    have hj : j < due.length := by omega
    have L11 := L10.by F x11
    have hst : drawL g G due j (reach g o j (due.getD j 0)) = due := by rw [reach_stays Sd hj, draw_stays Sd hj]
    refine ws_if (wt_ww (ww_or (wt_ne hr.units (we_meth cd hr (by decide) (we_var 3 rfl ⟨ins_of L11.rail (by decide), wa_cons (we_var 10 rfl (wa_cons (we_ix (we_var 9 rfl (we_var 10 rfl ⟨_, atI_ints (getD_some hj), wa_nil ⟨r, p, g, G, o, due, _, j, _, L11.rail, by have := L11.pl; omega, hj, by omega, rfl, we_var 9 rfl (eqQ_ints ?_)⟩⟩)))))⟩)))))
    rw [hst]
    dsimp only
    rw [decide_eq_true (rfl : due = due)]
    have L12 := L11.move F Sd hdl
    refine ⟨fun h => absurd h (by decide), fun _ => ww_or1 (wt_ne hr.units (we_prop ph hr (by decide) (we_var 3 rfl ⟨ins_of L12.rail (by decide), r, p, _, _, _, L12.rail, rfl, we_mul (we_int (we_add (we_var 4 rfl (we_int ⟨.inl ⟨by decide, by decide⟩, ?_⟩))))⟩)))⟩
    have L12p := L12.pl
    refine eqQ_int ?_
    have hd : decide (((past ++ [D.tup [clD g G o, tI cur]] ++ [D.tup [clD g G o, tI due]] ++ [D.tup [clD g G o, tI due]]).length : Int) = 3 * (0 + (t : Int) + 1)) = true := decide_eq_true (by rw [L12p]; omega)
    rw [hd]
    refine ⟨fun h => absurd h (by decide), fun _ => ws_nil ?_⟩
    -- no ring before the first place
    refine ws_if (wt_ww (ww_and (wt_eq hr.units (we_len B.len (we_var 1 rfl ?_)))))
    have fin : LS C M (become M11 C r p (clD g G o) (tI due) _ (clD g G o) (tI due)) c s r p g G o (1 + m) ms due _ (3 * (t + 1)) := ⟨L12.ext, L12.spots, L12.rail, L12.st, L12.ml, L12.cl, by rw [L12p]; omega⟩
    cases o with
    | none => exact we_int ⟨fun h => by simp at h, fun _ => ⟨fun h => absurd h (by decide), fun _ => ws_nil (ws_nil ⟨due, _, _, _, _, _, _, _, _, fin, rfl⟩)⟩⟩
    | some e =>
      have h0 := Sd.first e rfl
      refine we_int ⟨fun _ => ww_and1 (wt_lt (we_ix (we_var 9 rfl (we_int ⟨_, atI_ints' (i := 0) rfl (getD_some Sd.ne), we_ix (we_var 1 rfl (we_int ⟨_, rfl, _, rfl, fun h => absurd (of_decide_eq_true h) (by omega), fun _ => ws_nil (ws_nil ⟨due, _, _, _, _, _, _, _, _, fin, rfl⟩)⟩))⟩)))), fun h => by simp at h⟩
  · rintro Γ' M' ⟨cur, past, y1, y2, y3, y4, y5, y6, y7, L, rfl⟩
    refine ws_ret (we_eq hr.units (we_prop pc hr (by decide) (we_var 3 rfl ⟨ins_of L.rail (by decide), r, p, _, _, past, L.rail, rfl, we_var 1 rfl ?_⟩)))
    obtain ⟨vs, hvs, _⟩ := cl_tup g G o
    have hq := q _ L.ext
    show EqQ (clD g G o) (clD g G o) _ _
    rw [hvs]
    refine eqQ_ints ?_
    rw [decide_eq_true (rfl : vs = vs)]
    exact hq
end
end T52

set_option Elab.async false
set_option linter.all false
set_option autoImplicit false
set_option maxRecDepth 100000
set_option maxHeartbeats 4000000
namespace T52
open PySem L2 DL

theorem mdel_back {M : MM} {a : Addr} {o : MO} (h : M a = some o) : M = mupd (mdel M a) a o := by
  funext b
  unfold mdel mupd
  by_cases e : b = a
  · rw [if_pos e, e, h]
  · rw [if_neg e]
    show M b = if b = a then none else M b
    rw [if_neg e]
theorem mdel_at {M : MM} {a : Addr} : mdel M a a = none := by unfold mdel; rw [if_pos rfl]
section
variable {P : Program} {w : World} {K : PySem.W.Frag} {mg : Str → Option Value} {base : Heap}
def Rlaw : RD := fun ds M Q => ∃ cs : List Int, ds = [.frz (cs.map .int)] ∧ cs.length ≤ 1000 ∧ ∀ M', Q (.bl true) M'
theorem law_len : ∀ (ds : List D) (M : MM) (Q : D → MM → Prop), Rlaw ds M Q → ds.length = ["cells"].length := fun ds M Q ⟨cs, e, _⟩ => by rw [e]; rfl
theorem law_body (B : Blt mg) (cc : Cal P w K mg base 1 "_law_can" Rcan) (cr : Cal P w K mg base 8 "_law_right" Rright) :
    ∀ (f : Addr) (cdv : Value) (A : Around) (outer : List Env) (s : Shared) (H : Hp) (E : XK), Room 8 (A.deeper (PyProof.Rows.envOfC "law" (defScope (top 51)) s.heap.objs.size f cdv)) → ∀ (ds : List D) (M : MM) (Q : D → MM → Prop), Rlaw ds M Q →
      WS (cxOf CX0 P w K mg base ["cells", "turn"] "law" (defScope (top 51)) f cdv A outer s H E).nox (defBody (top 51)) (startD ["cells", "turn"] ds) M { nx := fun _ M' => Q .non M', rt := Q } := by
  intro f cdv A outer s H E hr ds M Q ⟨cs, e, hl, q⟩
  subst e
  refine ws_ret (we_all B.all (we_lc 1 sc_law.nd (fun _ _ _ _ _ => pg_name sc_law.nd rfl (Or.inl rfl)) (wi_range1 B.range (we_max B.max (we_int (we_min B.min (we_len B.len (we_var 0 rfl (we_int ⟨_, rfl, ⟨by omega, by omega⟩, ?_⟩)))))))))
  generalize hn : (max (2 : Int) (min (((cs.map D.int).length : Nat) : Int) 5)).toNat = n
  have hn5 : n ≤ 5 := by omega
  intro a ha
  refine ⟨fun k acc M' => acc = (List.replicate k true).map .bl, rfl, fun _ _ _ _ _ _ => trivial, ?_, ?_⟩
  · rintro k acc M' hk hm rfl _ _ _ _ _
    refine wts_nil ⟨fun _ _ _ _ _ _ => ?_, fun h => absurd h (by decide)⟩
    dsimp only
    rw [Int.zero_add]
    refine we_call cr hr (by decide) (wa_cons (we_call cc hr (by decide) (wa_cons (we_var 0 rfl (wa_cons (we_var 1 rfl (wa_nil ⟨cs, k, rfl, by omega, hl, fun c M2 hc x => wa_nil ⟨c, x.can, rfl, fun M3 x3 => ?_⟩⟩)))))))
    have hac : a ≠ c := fun z => by subst z; rw [mupd_same] at hc; cases hc
    refine ⟨by rw [List.length_map, List.length_replicate]; exact szlt (by omega), mdel M3 a, mdel_back ((x.trans x3).up a _ hac mupd_same), mdel_at, ?_⟩
    rw [List.replicate_succ', List.map_append]
    rfl
  rintro acc M' hm rfl
  refine ⟨_, rfl, ?_⟩
  have hall : (List.replicate n true).all id = true := by simp
  rw [hall]
  exact q _
/-- what the law's caller gives -/
theorem start_law {K : PySem.W.Frag} {H : Hp} {a : Addr} {ns : List Int} (hl : ns.length ≤ 1000) (hS : SqL K H a (ns.map V.int)) : SpD K Rlaw [.ref a] H (fun v _ => v = .bl true) fun _ _ _ => False :=
  ⟨H, [.frz (ns.map .int)], fun _ => none, fun d _ => d = .bl true, ⟨Same.refl H, fun _ _ h => nomatch h⟩, .cons (.frz hS (Dns.of_ints ns)) .nil, ⟨ns, rfl, hl, fun _ => rfl⟩, fun F' H' M' v d _ _ dv e => by
    subst e
    cases dv
    rfl⟩
end
end T52

set_option Elab.async false
set_option linter.all false
set_option autoImplicit false
set_option maxRecDepth 100000
set_option maxHeartbeats 4000000
namespace T52
open PySem L2 DL

/-! ### what the top has written -/
/-- the parameters are bound by place -/
def ByPlace (x qual : Str) (st : Stmt) (ps : List Str) : Prop :=
  ∀ (kV doc pm : Value) (an : Option Addr) (cdv ct : Value) (us : List Value), us.length = ps.length → bindArgs (PySem.W.fnOf x qual (defArgs st) (defBody st) (defScope st) .none kV doc pm an cdv ct) ⟨us, []⟩ = pure (ps.zip us)
/-- at f stands the def st -/
structure Stands (K : PySem.W.Frag) (x qual : Str) (st : Stmt) (f : Addr) : Prop where
  at_ : ∃ (oc : Value) (od : Option Addr) (kV dc pm : Value) (an : Option Addr) (cd ct : Value) (sl : Array (Option Value)), K.lookup f = some ⟨oc, od, .func (PySem.W.fnOf x qual (defArgs st) (defBody st) (defScope st) .none kV dc pm an cd ct), sl⟩ ∧ PySem.W.codeIn K cd qual = true
  kp : PySem.W.keepIn K (.ref f) = true
section
variable {w : World} {K : PySem.W.Frag} {h : Heap} {mg : Str → Option Value} {C : Addr}
theorem stands_mk {x qual : Str} {st : Stmt} {f : Addr} {oc kV dc pm cd ct : Value} {od an : Option Addr} {sl : Array (Option Value)}
    (l : K.lookup f = some ⟨oc, od, .func (PySem.W.fnOf x qual (defArgs st) (defBody st) (defScope st) .none kV dc pm an cd ct), sl⟩) (c : PySem.W.codeIn K cd qual = true) (k : PySem.W.keepIn K (.ref f) = true) : Stands K x qual st f :=
  ⟨⟨oc, od, kV, dc, pm, an, cd, ct, sl, l, c⟩, k⟩
theorem Stands.fun {x qual : Str} {st : Stmt} {f : Addr} (s : Stands K x qual st f) : ∃ fd, Fun K x qual st f fd := by
  obtain ⟨oc, od, kV, dc, pm, an, cd, ct, sl, l, c⟩ := s.at_
  exact ⟨_, fun_mk l c s.kp⟩
theorem def_at {x : Str} {st : Stmt} {ps : List Str} {f : Addr} (X : K.In h) (G : h.Ns mainGlobals mg) (hb : ByPlace x x st ps) (a : PySem.W.nsIn K mainGlobals x = some (some (.ref f))) (s : Stands K x x st f) : DefAt K mg x st ps := by
  obtain ⟨fd, F⟩ := s.fun
  exact ⟨f, fd, F, PySem.W.mg_of X G a, F.binds hb⟩
theorem met_at {m qual : Str} {st : Stmt} {ps : List Str} {f : Addr} (c : Cls K C) (hb : ByPlace m qual st ps) (a : PySem.W.findIn K (.ref C) m = some (some (.ref f))) (i : PySem.W.isFn K (.ref f) = true) (s : Stands K m qual st f) : MetAt K C m qual st ps := by
  obtain ⟨fd, F⟩ := s.fun
  exact ⟨f, fd, c, ⟨a, i, s.kp⟩, F, F.binds hb⟩
theorem prp_at {m qual : Str} {st : Stmt} {ps : List Str} {p f : Addr} {rest : List Value} (c : Cls K C) (hb : ByPlace m qual st ps) (a : PySem.W.findIn K (.ref C) m = some (some (.ref p))) (g : PySem.W.specialIn K (.ref p) "__get__" = some (some (.builtin "property.__get__"))) (t : PySem.W.takesIn K (.ref p) = some true)
    (r : PySem.W.recIn K p "property" = some (.ref f :: rest)) (s : Stands K m qual st f) : PrpAt K C m qual st ps := by
  obtain ⟨fd, F⟩ := s.fun
  exact ⟨p, f, fd, c, ⟨a, g, t, rest, r⟩, F, F.binds hb⟩
theorem mak_at {x qual : Str} {st : Stmt} {ps : List Str} {f : Addr} (X : K.In h) (G : h.Ns mainGlobals mg) (hb : ByPlace "__init__" qual st ps) (n : PySem.W.nsIn K mainGlobals x = some (some (.ref C))) (m : PySem.W.makesIn K C = true) (a : PySem.W.findIn K (.ref C) "__init__" = some (some (.ref f))) (i : PySem.W.isFn K (.ref f) = true) (k : PySem.W.keepIn K (.ref C) = true)
    (s : Stands K "__init__" qual st f) : MakAt K mg x C qual st ps := by
  obtain ⟨fd, F⟩ := s.fun
  exact ⟨f, fd, ⟨m, a, i, k⟩, F, PySem.W.mg_of X G n, F.binds hb⟩
theorem cst_mk {a : Addr} {o : Obj} {n : Nat} {t1 t2 t3 t4 t5 : Tok} (X : K.In h) (G : h.Ns mainGlobals mg) (c1 : PySem.W.nsIn K mainGlobals "MOST_CLOTH" = some (some (.int 9 t1))) (c2 : PySem.W.nsIn K mainGlobals "MOST_NAMED" = some (some (.int 5 t2))) (c3 : PySem.W.nsIn K mainGlobals "MOST_PLACE" = some (some (.int 99 t3)))
    (c4 : PySem.W.nsIn K mainGlobals "SIDES" = some (some (.ref a))) (l : K.lookup a = some o) (lc : o.cls = .type "tuple") (ld : o.data = .seq #[.str "left" t4, .str "right" t5] n) : Cst K mg :=
  ⟨⟨_, PySem.W.mg_of X G c1⟩, ⟨_, PySem.W.mg_of X G c2⟩, ⟨_, PySem.W.mg_of X G c3⟩, a, PySem.W.mg_of X G c4, fun F => .inr ⟨o, _, n, l, lc, ld, by show 2 ≤ sizeLine; decide, .cons ⟨_, rfl⟩ (.cons ⟨_, rfl⟩ .nil)⟩⟩

theorem rc_mk (c : Cls K C) (n1 : PySem.W.findIn K (.ref C) "_cloth" = some none) (n2 : PySem.W.findIn K (.ref C) "_places" = some none) (n3 : PySem.W.findIn K (.ref C) "_past" = some none) : RC K C := ⟨c, n1, n2, n3⟩
theorem blt_mk (X : K.In h) (G : h.Ns mainGlobals mg) (z0 : PySem.W.nsIn K mainGlobals "len" = some none) (z1 : PySem.W.nsIn K mainGlobals "max" = some none) (z2 : PySem.W.nsIn K mainGlobals "min" = some none) (z3 : PySem.W.nsIn K mainGlobals "abs" = some none) (z4 : PySem.W.nsIn K mainGlobals "int" = some none) (z5 : PySem.W.nsIn K mainGlobals "str" = some none) (z6 : PySem.W.nsIn K mainGlobals "tuple" = some none) (z7 : PySem.W.nsIn K mainGlobals "list" = some none) (z8 : PySem.W.nsIn K mainGlobals "divmod" = some none) (z9 : PySem.W.nsIn K mainGlobals "range" = some none) (z10 : PySem.W.nsIn K mainGlobals "type" = some none) (z11 : PySem.W.nsIn K mainGlobals "enumerate" = some none) (z12 : PySem.W.nsIn K mainGlobals "zip" = some none) (z13 : PySem.W.nsIn K mainGlobals "isinstance" = some none) (z14 : PySem.W.nsIn K mainGlobals "sum" = some none) (z15 : PySem.W.nsIn K mainGlobals "all" = some none) (z16 : PySem.W.nsIn K mainGlobals "any" = some none) (z17 : PySem.W.nsIn K mainGlobals "bool" = some none) (z18 : PySem.W.nsIn K mainGlobals "repr" = some none) : Blt mg :=
  ⟨PySem.W.mg_none_of X G z0, PySem.W.mg_none_of X G z1, PySem.W.mg_none_of X G z2, PySem.W.mg_none_of X G z3, PySem.W.mg_none_of X G z4, PySem.W.mg_none_of X G z5, PySem.W.mg_none_of X G z6, PySem.W.mg_none_of X G z7, PySem.W.mg_none_of X G z8, PySem.W.mg_none_of X G z9, PySem.W.mg_none_of X G z10, PySem.W.mg_none_of X G z11, PySem.W.mg_none_of X G z12, PySem.W.mg_none_of X G z13, PySem.W.mg_none_of X G z14, PySem.W.mg_none_of X G z15, PySem.W.mg_none_of X G z16, PySem.W.mg_none_of X G z17, PySem.W.mg_none_of X G z18⟩
theorem b11 : ByPlace "is_integer" "is_integer" (top 11) ["value"] := fun _ _ _ _ _ _ us hl => match us, hl with | [_], _ => rfl
theorem b12 : ByPlace "is_index" "is_index" (top 12) ["value", "many"] := fun _ _ _ _ _ _ us hl => match us, hl with | [_, _], _ => rfl
theorem b13 : ByPlace "is_filled_tuple" "is_filled_tuple" (top 13) ["value"] := fun _ _ _ _ _ _ us hl => match us, hl with | [_], _ => rfl
theorem b15 : ByPlace "wrong_place" "wrong_place" (top 15) ["cloth", "places"] := fun _ _ _ _ _ _ us hl => match us, hl with | [_, _], _ => rfl
theorem b16 : ByPlace "clamped" "clamped" (top 16) ["place", "low", "high"] := fun _ _ _ _ _ _ us hl => match us, hl with | [_, _, _], _ => rfl
theorem b17 : ByPlace "reached" "reached" (top 17) ["cloth", "index", "place"] := fun _ _ _ _ _ _ us hl => match us, hl with | [_, _, _], _ => rfl
theorem b18 : ByPlace "drawn" "drawn" (top 18) ["cloth", "places", "index", "place"] := fun _ _ _ _ _ _ us hl => match us, hl with | [_, _, _, _], _ => rfl
theorem b22 : ByPlace "moved" "moved" (top 22) ["cloth", "places", "move"] := fun _ _ _ _ _ _ us hl => match us, hl with | [_, _, _], _ => rfl
theorem b28 : ByPlace "written" "written" (top 28) ["word"] := fun _ _ _ _ _ _ us hl => match us, hl with | [_], _ => rfl
theorem b29 : ByPlace "is_row_place" "is_row_place" (top 29) ["value"] := fun _ _ _ _ _ _ us hl => match us, hl with | [_], _ => rfl
theorem b30 : ByPlace "is_cloth" "is_cloth" (top 30) ["value"] := fun _ _ _ _ _ _ us hl => match us, hl with | [_], _ => rfl
theorem b31 : ByPlace "read_move" "read_move" (top 31) ["row"] := fun _ _ _ _ _ _ us hl => match us, hl with | [_], _ => rfl
theorem b32 : ByPlace "read_drawing" "read_drawing" (top 32) ["words"] := fun _ _ _ _ _ _ us hl => match us, hl with | [_], _ => rfl
theorem b34 : ByPlace "placed_move" "placed_move" (top 34) ["words", "kind", "side", "ring"] := fun _ _ _ _ _ _ us hl => match us, hl with | [_, _, _, _], _ => rfl
theorem b35 : ByPlace "rings_needed" "rings_needed" (top 35) ["move"] := fun _ _ _ _ _ _ us hl => match us, hl with | [_], _ => rfl
theorem b37 : ByPlace "check_cloth" "check_cloth" (top 37) ["value"] := fun _ _ _ _ _ _ us hl => match us, hl with | [_], _ => rfl
theorem b38 : ByPlace "check_standing" "check_standing" (top 38) ["cloth", "places"] := fun _ _ _ _ _ _ us hl => match us, hl with | [_, _], _ => rfl
theorem b39 : ByPlace "is_standing" "is_standing" (top 39) ["cloth", "places"] := fun _ _ _ _ _ _ us hl => match us, hl with | [_, _], _ => rfl
theorem b42 : ByPlace "_law_can" "_law_can" (top 42) ["cells", "turn"] := fun _ _ _ _ _ _ us hl => match us, hl with | [_, _], _ => rfl
theorem b43 : ByPlace "_law_pour" "_law_pour" (top 43) ["can", "top"] := fun _ _ _ _ _ _ us hl => match us, hl with | [_, _], _ => rfl
theorem b44 : ByPlace "_law_one" "_law_one" (top 44) ["can", "things"] := fun _ _ _ _ _ _ us hl => match us, hl with | [_, _], _ => rfl
theorem b45 : ByPlace "_law_spot" "_law_spot" (top 45) ["can"] := fun _ _ _ _ _ _ us hl => match us, hl with | [_], _ => rfl
theorem b46 : ByPlace "_law_goods" "_law_goods" (top 46) ["can"] := fun _ _ _ _ _ _ us hl => match us, hl with | [_], _ => rfl
theorem b47 : ByPlace "_law_standing" "_law_standing" (top 47) ["can", "goods", "many"] := fun _ _ _ _ _ _ us hl => match us, hl with | [_, _, _], _ => rfl
theorem b48 : ByPlace "_law_nearest" "_law_nearest" (top 48) ["goods", "spots", "at", "goal"] := fun _ _ _ _ _ _ us hl => match us, hl with | [_, _, _, _], _ => rfl
theorem b49 : ByPlace "_law_named_right" "_law_named_right" (top 49) ["goods", "spots", "at", "spot", "due"] := fun _ _ _ _ _ _ us hl => match us, hl with | [_, _, _, _, _], _ => rfl
theorem b50 : ByPlace "_law_right" "_law_right" (top 50) ["can"] := fun _ _ _ _ _ _ us hl => match us, hl with | [_], _ => rfl
theorem b51 : ByPlace "law" "law" (top 51) ["cells"] := fun _ _ _ _ _ _ us hl => match us, hl with | [_], _ => rfl
theorem m9 : ByPlace "_become" "Rail._become" (inClass (top 40) 9) ["self", "cloth", "places"] := fun _ _ _ _ _ _ us hl => match us, hl with | [_, _, _], _ => rfl
theorem m8 : ByPlace "_do" "Rail._do" (inClass (top 40) 8) ["self", "move"] := fun _ _ _ _ _ _ us hl => match us, hl with | [_, _], _ => rfl
theorem m4 : ByPlace "move" "Rail.move" (inClass (top 40) 4) ["self", "move"] := fun _ _ _ _ _ _ us hl => match us, hl with | [_, _], _ => rfl
theorem m5 : ByPlace "draw" "Rail.draw" (inClass (top 40) 5) ["self", "index", "place"] := fun _ _ _ _ _ _ us hl => match us, hl with | [_, _, _], _ => rfl
theorem m1 : ByPlace "cloth" "Rail.cloth" (inClass (top 40) 1) ["self"] := fun _ _ _ _ _ _ us hl => match us, hl with | [_], _ => rfl
theorem m2 : ByPlace "places" "Rail.places" (inClass (top 40) 2) ["self"] := fun _ _ _ _ _ _ us hl => match us, hl with | [_], _ => rfl
theorem m3 : ByPlace "changes" "Rail.changes" (inClass (top 40) 3) ["self"] := fun _ _ _ _ _ _ us hl => match us, hl with | [_], _ => rfl
theorem m0 : ByPlace "__init__" "Rail.__init__" (inClass (top 40) 0) ["self", "cloth", "places"] := fun _ _ _ _ _ _ us hl => match us, hl with | [_, _, _], _ => rfl

/-- draw by keywords -/
theorem draw_k {P : Program} {base : Heap} (B : Blt mg) (T : RC K C) (d : MetAt K C "draw" "Rail.draw" (inClass (top 40) 5) ["self", "index", "place"]) (ci : Cal P w K mg base 1 "is_integer" RisInt) (cx : Cal P w K mg base 2 "is_index" RisIndex) (cd : Cal P w K mg base 2 "drawn" Rdrawn) (cb : Met P w K mg base 1 C "_become" (Rbecome C)) :
    MetK P w K mg base 3 C "draw" ["place", "index"] gDraw (Rdraw C) := by
  obtain ⟨f, fd, hc, hm, F, b⟩ := d.ex
  have G := fn_ok F sc_Rail_draw (fun ds M Q ⟨r, p, g, G, o, ns, past, i, x, _, _, _, _, e, _⟩ => by rw [e]; rfl) (draw_body B T ci cx cd cb f)
  refine ⟨f, fd, _, hc, hm, G, ?_, ?_, ?_⟩
  · obtain ⟨oc, od, kV, doc, pm, an, cdv, ct, osl, rfl, lk, hcd⟩ := F.ex
    intro s us ws _ hl
    match us, ws, hl with
    | [u], [a, b], _ => exact .of_eq rfl
  · intro vs us zs ws h1 h2
    cases h1 with
    | nil => exact .nil
    | cons a h1 =>
      cases h1 with
      | cons b h1 => cases h2 <;> exact .nil
      | nil =>
        cases h2 with
        | nil => exact .nil
        | cons c h2 =>
          cases h2 with
          | nil => exact .nil
          | cons d h2 =>
            cases h2 with
            | nil => exact .cons a (.cons d (.cons c .nil))
            | cons e h2 => exact .nil
  · intro K F vs ds zs es h1 h2
    cases h1 with
    | nil => exact .nil
    | cons a h1 =>
      cases h1 with
      | cons b h1 => cases h2 <;> exact .nil
      | nil =>
        cases h2 with
        | nil => exact .nil
        | cons c h2 =>
          cases h2 with
          | nil => exact .nil
          | cons d h2 =>
            cases h2 with
            | nil => exact .cons a (.cons d (.cons c .nil))
            | cons e h2 => exact .nil

theorem all_mk {l : PySem.W.OpenLaw} {fa : Addr} (hfa : mg "law" = some (.ref fa)) (B : Blt mg) (N : Cst K mg) (T : RC K C) (d11 : DefAt K mg "is_integer" (top 11) ["value"]) (d12 : DefAt K mg "is_index" (top 12) ["value", "many"]) (d13 : DefAt K mg "is_filled_tuple" (top 13) ["value"]) (d15 : DefAt K mg "wrong_place" (top 15) ["cloth", "places"]) (d16 : DefAt K mg "clamped" (top 16) ["place", "low", "high"]) (d17 : DefAt K mg "reached" (top 17) ["cloth", "index", "place"]) (d18 : DefAt K mg "drawn" (top 18) ["cloth", "places", "index", "place"]) (d22 : DefAt K mg "moved" (top 22) ["cloth", "places", "move"]) (d28 : DefAt K mg "written" (top 28) ["word"]) (d29 : DefAt K mg "is_row_place" (top 29) ["value"]) (d30 : DefAt K mg "is_cloth" (top 30) ["value"]) (d31 : DefAt K mg "read_move" (top 31) ["row"]) (d32 : DefAt K mg "read_drawing" (top 32) ["words"]) (d34 : DefAt K mg "placed_move" (top 34) ["words", "kind", "side", "ring"]) (d35 : DefAt K mg "rings_needed" (top 35) ["move"]) (d37 : DefAt K mg "check_cloth" (top 37) ["value"]) (d38 : DefAt K mg "check_standing" (top 38) ["cloth", "places"]) (d39 : DefAt K mg "is_standing" (top 39) ["cloth", "places"]) (d42 : DefAt K mg "_law_can" (top 42) ["cells", "turn"]) (d43 : DefAt K mg "_law_pour" (top 43) ["can", "top"]) (d44 : DefAt K mg "_law_one" (top 44) ["can", "things"]) (d45 : DefAt K mg "_law_spot" (top 45) ["can"]) (d46 : DefAt K mg "_law_goods" (top 46) ["can"]) (d47 : DefAt K mg "_law_standing" (top 47) ["can", "goods", "many"]) (d48 : DefAt K mg "_law_nearest" (top 48) ["goods", "spots", "at", "goal"]) (d49 : DefAt K mg "_law_named_right" (top 49) ["goods", "spots", "at", "spot", "due"]) (d50 : DefAt K mg "_law_right" (top 50) ["can"]) (d51 : DefAt K mg "law" (top 51) ["cells"]) (e9 : MetAt K C "_become" "Rail._become" (inClass (top 40) 9) ["self", "cloth", "places"]) (e8 : MetAt K C "_do" "Rail._do" (inClass (top 40) 8) ["self", "move"]) (e4 : MetAt K C "move" "Rail.move" (inClass (top 40) 4) ["self", "move"]) (e5 : MetAt K C "draw" "Rail.draw" (inClass (top 40) 5) ["self", "index", "place"]) (e1 : PrpAt K C "cloth" "Rail.cloth" (inClass (top 40) 1) ["self"]) (e2 : PrpAt K C "places" "Rail.places" (inClass (top 40) 2) ["self"]) (e3 : PrpAt K C "changes" "Rail.changes" (inClass (top 40) 3) ["self"]) (e0 : MakAt K mg "Rail" C "Rail.__init__" (inClass (top 40) 0) ["self", "cloth", "places"]) :
    ∃ fd : FuncData, (∀ (s : Shared) (v : Value), BindsTo s fd ⟨[v], []⟩ [("cells", v)]) ∧ ∀ base : Heap, K.In base → base.Ns mainGlobals mg → FnOk l.prog w K mg base CX0 9 fa fd ["cells"] (SpD K Rlaw) := by
  obtain ⟨f, fd, F, hm, b⟩ := d51.ex
  have e := hfa.symm.trans hm
  cases e
  have hbind : ∀ (s : Shared) (v : Value), BindsTo s fd ⟨[v], []⟩ [("cells", v)] := by
    obtain ⟨oc, od, kV, doc, pm, an, cdv, ct, osl, rfl, lk, hcd⟩ := F.ex
    exact fun s v => .of_eq rfl
  refine ⟨fd, hbind, fun base _ _ => ?_⟩
  have cInt := c_is_integer (P := l.prog) (w := w) (base := base) B d11
  have cIx := c_is_index d12 cInt
  have cFil := c_is_filled (P := l.prog) (w := w) (base := base) B d13
  have cWp := c_wrong_place B d15 cInt
  have cCl := c_clamped (P := l.prog) (w := w) (base := base) B d16
  have cRe := c_reached (P := l.prog) (w := w) (base := base) B d17
  have cDr := c_drawn B d18 cRe cCl
  have cMo := c_moved B d22 cDr
  have cWr := c_written (P := l.prog) (w := w) (base := base) B N d28
  have cRp := c_is_row_place B N d29 cInt
  have cIc := c_is_cloth B N d30 cInt cRp
  have cPl := c_placed B d34 cWr cRp
  have cRd := c_read_drawing B N d32 cWr cPl
  have cRm := c_read_move B N d31 cRd
  have cNe := c_needed (P := l.prog) (w := w) (base := base) d35
  have cCc := c_check_cloth d37 cIc
  have cCs := c_check_standing B d38 cFil cWp
  have cIs := c_is_standing B d39 cCc cFil cWp
  have mBe : Met l.prog w K mg base 1 C "_become" (Rbecome C) := m_become T e9
  have mDo := m_do T e8 cMo mBe
  have mMv := m_move B T e4 cRm cNe mDo
  have mDr : Met l.prog w K mg base 3 C "draw" (Rdraw C) := e5.met sc_Rail_draw (fun ds M Q ⟨r, p, g, G, o, ns, past, i, x, _, _, _, _, e, _⟩ => by rw [e]; rfl) (fun f => draw_body B T cInt cIx cDr mBe f)
  have mDk := draw_k B T e5 cInt cIx cDr mBe
  have kRa := k_rail T e0 cCc cCs
  have lCan := c_can (P := l.prog) (w := w) (base := base) B d42
  have lPo := c_pour (P := l.prog) (w := w) (base := base) B d43
  have lOne := c_one B d44 lPo
  have lSp := c_spot d45 lPo lOne
  have lGo := c_goods d46 lPo lOne lSp
  have lSt := c_standing B d47 lPo lOne
  have lNe := c_nearest (P := l.prog) (w := w) (base := base) B d48
  have lNa := c_named B d49 kRa mMv
  have lRi := c_right B T d50 lPo lOne lSp lGo lSt lNe lNa kRa mDr mDk cIs (p_cloth T e1) (p_places T e2) (p_changes B T e3)
  exact fn_ok F sc_law law_len (law_body B lCan lRi _)
theorem walk {l : PySem.W.OpenLaw} {q : Program} {loose : List Str} {XP : (Str → Option Value) → Heap → Prop} {YP : World → Heap → Prop} {d : DefRec} {K : Params → PySem.W.Frag} (hn : l.most = some 63) (hdf : d.params.defaults = []) (hY : ∀ (w : World) (h : Heap), YP w h → (K w.params).In h)
    (F : ∀ (w : World) (mg : Str → Option Value) (fa : Addr) (h : Heap), (K w.params).In h → h.Ns mainGlobals mg → mg d.name = some (.ref fa) →
      ∃ fd : FuncData, (∀ (s : Shared) (u : Value), BindsTo s fd ⟨[u], []⟩ [("cells", u)]) ∧ ∀ base : Heap, (K w.params).In base → base.Ns mainGlobals mg → FnOk l.prog w (K w.params) mg base CX0 9 fa fd ["cells"] (SpD (K w.params) Rlaw)) :
    PySem.W.WalkO q loose XP YP l.row.toRowW d [] (fun f vs => PySem.call f vs) :=
  L2.walk_of (n := 63) (k := 9) (x := "cells") (CX := fun _ => CX0) (sp := fun w => SpD (K w.params) Rlaw) hn (by decide) hdf ⟨rfl, by decide, by decide⟩ hY F (fun _ _ _ _ hl _ hS => start_law (Nat.le_trans hl (by decide)) hS) fun _ _ _ _ _ z => z
end

end T52

set_option Elab.async false
set_option linter.all false
set_option autoImplicit false
open PySem PySem.W PyProof.Rows
set_option maxRecDepth 100000 in
set_option maxHeartbeats 0 in
theorem PySem.Challenge.cw_drawnrings_k52_whole_rails_move_as_far_a_holds : PySem.Challenge.rw_drawnrings_k52_whole_rails_move_as_far_a.Holds := by
  w_on; o_law; k_head; (case hw => w_witness2)
  k_fill
  refine T52.walk (l := PySem.Challenge.rw_drawnrings_k52_whole_rails_move_as_far_a) rfl rfl (fun w h Y => PySem.W.kIn_of Y) ?F
  case F =>
    intro w mg fa h KX G hmg
    refine' T52.all_mk (C := ?fC) hmg ?fB ?fN ?fT ?d11 ?d12 ?d13 ?d15 ?d16 ?d17 ?d18 ?d22 ?d28 ?d29 ?d30 ?d31 ?d32 ?d34 ?d35 ?d37 ?d38 ?d39 ?d42 ?d43 ?d44 ?d45 ?d46 ?d47 ?d48 ?d49 ?d50 ?d51 ?e9 ?e8 ?e4 ?e5 ?e1 ?e2 ?e3 ?e0
    (case e0 => refine' T52.mak_at KX G T52.m0 ?n ?m ?a ?i ?k ?s; (case n => k_is); (case m => k_is); (case a => k_is); (case i => k_is); (case k => k_is); (case s => refine' T52.stands_mk ?l ?c ?k; (case l => k_is); (case c => k_is); (case k => k_is)))
    (case fT => refine' T52.rc_mk ?fc ?fn1 ?fn2 ?fn3; (case fc => refine' ⟨?g1, ?g2, ?g3, ?g4⟩; (case g1 => k_is); (case g2 => k_is); (case g3 => k_is); (case g4 => k_is)); (case fn1 => k_is); (case fn2 => k_is); (case fn3 => k_is))
    (case fB => refine' T52.blt_mk KX G ?z0 ?z1 ?z2 ?z3 ?z4 ?z5 ?z6 ?z7 ?z8 ?z9 ?z10 ?z11 ?z12 ?z13 ?z14 ?z15 ?z16 ?z17 ?z18; (case z0 => k_is); (case z1 => k_is); (case z2 => k_is); (case z3 => k_is); (case z4 => k_is); (case z5 => k_is); (case z6 => k_is); (case z7 => k_is); (case z8 => k_is); (case z9 => k_is); (case z10 => k_is); (case z11 => k_is); (case z12 => k_is); (case z13 => k_is); (case z14 => k_is); (case z15 => k_is); (case z16 => k_is); (case z17 => k_is); (case z18 => k_is))
    (case fN => refine' T52.cst_mk KX G ?c1 ?c2 ?c3 ?c4 ?l ?lc ?ld; (case c1 => k_is); (case c2 => k_is); (case c3 => k_is); (case c4 => k_is); (case l => k_is); (case lc => rfl); (case ld => rfl))
    (case d11 => refine' T52.def_at KX G T52.b11 ?a ?s; (case a => k_is); (case s => refine' T52.stands_mk ?l ?c ?k; (case l => k_is); (case c => k_is); (case k => k_is)))
    (case d12 => refine' T52.def_at KX G T52.b12 ?a ?s; (case a => k_is); (case s => refine' T52.stands_mk ?l ?c ?k; (case l => k_is); (case c => k_is); (case k => k_is)))
    (case d13 => refine' T52.def_at KX G T52.b13 ?a ?s; (case a => k_is); (case s => refine' T52.stands_mk ?l ?c ?k; (case l => k_is); (case c => k_is); (case k => k_is)))
    (case d15 => refine' T52.def_at KX G T52.b15 ?a ?s; (case a => k_is); (case s => refine' T52.stands_mk ?l ?c ?k; (case l => k_is); (case c => k_is); (case k => k_is)))
    (case d16 => refine' T52.def_at KX G T52.b16 ?a ?s; (case a => k_is); (case s => refine' T52.stands_mk ?l ?c ?k; (case l => k_is); (case c => k_is); (case k => k_is)))
    (case d17 => refine' T52.def_at KX G T52.b17 ?a ?s; (case a => k_is); (case s => refine' T52.stands_mk ?l ?c ?k; (case l => k_is); (case c => k_is); (case k => k_is)))
    (case d18 => refine' T52.def_at KX G T52.b18 ?a ?s; (case a => k_is); (case s => refine' T52.stands_mk ?l ?c ?k; (case l => k_is); (case c => k_is); (case k => k_is)))
    (case d22 => refine' T52.def_at KX G T52.b22 ?a ?s; (case a => k_is); (case s => refine' T52.stands_mk ?l ?c ?k; (case l => k_is); (case c => k_is); (case k => k_is)))
    (case d28 => refine' T52.def_at KX G T52.b28 ?a ?s; (case a => k_is); (case s => refine' T52.stands_mk ?l ?c ?k; (case l => k_is); (case c => k_is); (case k => k_is)))
    (case d29 => refine' T52.def_at KX G T52.b29 ?a ?s; (case a => k_is); (case s => refine' T52.stands_mk ?l ?c ?k; (case l => k_is); (case c => k_is); (case k => k_is)))
    (case d30 => refine' T52.def_at KX G T52.b30 ?a ?s; (case a => k_is); (case s => refine' T52.stands_mk ?l ?c ?k; (case l => k_is); (case c => k_is); (case k => k_is)))
    (case d31 => refine' T52.def_at KX G T52.b31 ?a ?s; (case a => k_is); (case s => refine' T52.stands_mk ?l ?c ?k; (case l => k_is); (case c => k_is); (case k => k_is)))
    (case d32 => refine' T52.def_at KX G T52.b32 ?a ?s; (case a => k_is); (case s => refine' T52.stands_mk ?l ?c ?k; (case l => k_is); (case c => k_is); (case k => k_is)))
    (case d34 => refine' T52.def_at KX G T52.b34 ?a ?s; (case a => k_is); (case s => refine' T52.stands_mk ?l ?c ?k; (case l => k_is); (case c => k_is); (case k => k_is)))
    (case d35 => refine' T52.def_at KX G T52.b35 ?a ?s; (case a => k_is); (case s => refine' T52.stands_mk ?l ?c ?k; (case l => k_is); (case c => k_is); (case k => k_is)))
    (case d37 => refine' T52.def_at KX G T52.b37 ?a ?s; (case a => k_is); (case s => refine' T52.stands_mk ?l ?c ?k; (case l => k_is); (case c => k_is); (case k => k_is)))
    (case d38 => refine' T52.def_at KX G T52.b38 ?a ?s; (case a => k_is); (case s => refine' T52.stands_mk ?l ?c ?k; (case l => k_is); (case c => k_is); (case k => k_is)))
    (case d39 => refine' T52.def_at KX G T52.b39 ?a ?s; (case a => k_is); (case s => refine' T52.stands_mk ?l ?c ?k; (case l => k_is); (case c => k_is); (case k => k_is)))
    (case d42 => refine' T52.def_at KX G T52.b42 ?a ?s; (case a => k_is); (case s => refine' T52.stands_mk ?l ?c ?k; (case l => k_is); (case c => k_is); (case k => k_is)))
    (case d43 => refine' T52.def_at KX G T52.b43 ?a ?s; (case a => k_is); (case s => refine' T52.stands_mk ?l ?c ?k; (case l => k_is); (case c => k_is); (case k => k_is)))
    (case d44 => refine' T52.def_at KX G T52.b44 ?a ?s; (case a => k_is); (case s => refine' T52.stands_mk ?l ?c ?k; (case l => k_is); (case c => k_is); (case k => k_is)))
    (case d45 => refine' T52.def_at KX G T52.b45 ?a ?s; (case a => k_is); (case s => refine' T52.stands_mk ?l ?c ?k; (case l => k_is); (case c => k_is); (case k => k_is)))
    (case d46 => refine' T52.def_at KX G T52.b46 ?a ?s; (case a => k_is); (case s => refine' T52.stands_mk ?l ?c ?k; (case l => k_is); (case c => k_is); (case k => k_is)))
    (case d47 => refine' T52.def_at KX G T52.b47 ?a ?s; (case a => k_is); (case s => refine' T52.stands_mk ?l ?c ?k; (case l => k_is); (case c => k_is); (case k => k_is)))
    (case d48 => refine' T52.def_at KX G T52.b48 ?a ?s; (case a => k_is); (case s => refine' T52.stands_mk ?l ?c ?k; (case l => k_is); (case c => k_is); (case k => k_is)))
    (case d49 => refine' T52.def_at KX G T52.b49 ?a ?s; (case a => k_is); (case s => refine' T52.stands_mk ?l ?c ?k; (case l => k_is); (case c => k_is); (case k => k_is)))
    (case d50 => refine' T52.def_at KX G T52.b50 ?a ?s; (case a => k_is); (case s => refine' T52.stands_mk ?l ?c ?k; (case l => k_is); (case c => k_is); (case k => k_is)))
    (case d51 => refine' T52.def_at KX G T52.b51 ?a ?s; (case a => k_is); (case s => refine' T52.stands_mk ?l ?c ?k; (case l => k_is); (case c => k_is); (case k => k_is)))
    (case e9 => refine' T52.met_at ?cl T52.m9 ?a ?i ?s; (case cl => refine' ⟨?g1, ?g2, ?g3, ?g4⟩; (case g1 => k_is); (case g2 => k_is); (case g3 => k_is); (case g4 => k_is)); (case a => k_is); (case i => k_is); (case s => refine' T52.stands_mk ?l ?c ?k; (case l => k_is); (case c => k_is); (case k => k_is)))
    (case e8 => refine' T52.met_at ?cl T52.m8 ?a ?i ?s; (case cl => refine' ⟨?g1, ?g2, ?g3, ?g4⟩; (case g1 => k_is); (case g2 => k_is); (case g3 => k_is); (case g4 => k_is)); (case a => k_is); (case i => k_is); (case s => refine' T52.stands_mk ?l ?c ?k; (case l => k_is); (case c => k_is); (case k => k_is)))
    (case e4 => refine' T52.met_at ?cl T52.m4 ?a ?i ?s; (case cl => refine' ⟨?g1, ?g2, ?g3, ?g4⟩; (case g1 => k_is); (case g2 => k_is); (case g3 => k_is); (case g4 => k_is)); (case a => k_is); (case i => k_is); (case s => refine' T52.stands_mk ?l ?c ?k; (case l => k_is); (case c => k_is); (case k => k_is)))
    (case e5 => refine' T52.met_at ?cl T52.m5 ?a ?i ?s; (case cl => refine' ⟨?g1, ?g2, ?g3, ?g4⟩; (case g1 => k_is); (case g2 => k_is); (case g3 => k_is); (case g4 => k_is)); (case a => k_is); (case i => k_is); (case s => refine' T52.stands_mk ?l ?c ?k; (case l => k_is); (case c => k_is); (case k => k_is)))
    (case e1 => refine' T52.prp_at ?cl T52.m1 ?a ?g ?t ?r ?s; (case cl => refine' ⟨?g1, ?g2, ?g3, ?g4⟩; (case g1 => k_is); (case g2 => k_is); (case g3 => k_is); (case g4 => k_is)); (case a => k_is); (case g => k_is); (case t => k_is); (case r => k_is); (case s => refine' T52.stands_mk ?l ?c ?k; (case l => k_is); (case c => k_is); (case k => k_is)))
    (case e2 => refine' T52.prp_at ?cl T52.m2 ?a ?g ?t ?r ?s; (case cl => refine' ⟨?g1, ?g2, ?g3, ?g4⟩; (case g1 => k_is); (case g2 => k_is); (case g3 => k_is); (case g4 => k_is)); (case a => k_is); (case g => k_is); (case t => k_is); (case r => k_is); (case s => refine' T52.stands_mk ?l ?c ?k; (case l => k_is); (case c => k_is); (case k => k_is)))
    (case e3 => refine' T52.prp_at ?cl T52.m3 ?a ?g ?t ?r ?s; (case cl => refine' ⟨?g1, ?g2, ?g3, ?g4⟩; (case g1 => k_is); (case g2 => k_is); (case g3 => k_is); (case g4 => k_is)); (case a => k_is); (case g => k_is); (case t => k_is); (case r => k_is); (case s => refine' T52.stands_mk ?l ?c ?k; (case l => k_is); (case c => k_is); (case k => k_is)))

