import PyProof.Rows.All
import Wide.All
import OpenK.AllK
import Wide.FinOn
import HandS.ForMost
import HandS.ForExc
import HandS.Head0
import HandS.Head1
import HandS.Head2
import HandS.HeadEnd
import HandS.HeadHook1
import HandS.HeadHook2
import HandS.ExcInit
import KE.Datum
import HandS.StrMore
import HandS.Codes
import KE.GoesNew
import KE.GoesMore
import HandS.IsInst
import HandS.Style
import HandS.ExcField
import HandS.Defaults
import KE.KExcInit
import HandS.TryMany
import KE.SortData
import HandS.Conv
import KE.KDictSum
import HandS.DictTup
import HandS.TupLen
import HandS.WordsDict
import HandS.SetBool
import HandS.SetFor
import HandS.Strs
import HandS.Walk
import PyProof.ReprBulk
import PyProof.Rows.StrStep
import HandS.SortKw
import KE.KTupSum
import HandS.TupSets
import PyProof.DictTable
import KE.KDictDisplayH
import HandS.ExcOwn
import PySem.Challenge.RW_gaprules_k65_kinds_followed
set_option Elab.async false
set_option linter.all false
set_option maxRecDepth 100000
set_option maxHeartbeats 4000000
/-! G1: a def's promise where no repr is under way (guards), positional calls; everything may let exceptions out. -/
namespace GL
open PySem PySem.Spec L2
open PyProof.Rows hiding St

/-- no container is being shown around here -/
abbrev NoG (A : Around) : Prop := A.guards = some []

/-- the def at f keeps sp at level k, called with positional values -/
structure Gn (P : Program) (w : World) (K : PySem.W.Frag) (mg : Str → Option Value) (base : Heap) (k : Nat) (f : Addr) (n : Nat) (sp : Sp) : Prop where
  len : ∀ vs H Q E, sp vs H Q E → vs.length = n
  run : ∀ (A : Around) (outer : List Env) (s : Shared) (H : Hp) (us : List Value) (vs : List V) (Q : VK) (E : XK), NoG A → Room k A →
    Env0 P w K mg base A outer s H → Vals vs us → sp vs H Q E → codeAny (model P w) A (.call (.ref f) ⟨us, []⟩) (CR (L2.CX P w) outer P w H s Q E) s

section
variable {P : Program} {w : World} {K : PySem.W.Frag} {mg : Str → Option Value} {base : Heap} {x qual : Str} {params : Arguments} {body : List Stmt} {scope : Scope} {dvs : List V} {kws : List (Str × V)} {f : Addr} {fd : FuncData}
theorem Gn.mono {j k n : Nat} {sp : Sp} (F : Gn P w K mg base j f n sp) (h : j ≤ k) : Gn P w K mg base k f n sp :=
  ⟨F.len, fun A outer s H us vs Q E hg hr => F.run A outer s H us vs Q E hg (hr.mono h)⟩

/-- the rule for a def -/
theorem gn_ok {N ps : List Str} {k : Nat} {sp : Sp} (F : FunD K x qual params body scope [] kws f fd) (S : FnScope N ps scope)
    (hb : ∀ (kV doc pm : Value) (an : Option Addr) (cdv ct : Value) (us : List Value), us.length = ps.length → bindArgs (PySem.W.fnOf x qual params body scope .none kV doc pm an cdv ct) ⟨us, []⟩ = pure (ps.zip us))
    (len : ∀ vs H Q E, sp vs H Q E → vs.length = ps.length)
    (hbody : ∀ (cdv : Value) (A : Around) (outer : List Env) (s : Shared) (H : Hp) (vs : List V) (Q : VK) (E : XK), NoG A → Room k (A.deeper (envOfC qual scope s.heap.objs.size f cdv)) → sp vs H Q E →
      ∃ t, PSs (cxOf (L2.CX P w) P w K mg base N qual scope f cdv A outer s H E) body t ∧ t { nx := fun _ H' => Q .non H', rt := Q } (start N vs) H) :
    Gn P w K mg base (k + 1) f ps.length sp := by
  constructor
  · exact len
  intro A outer s H us vs Q E hg hr e0 r hsp
  have hl := len vs H Q E hsp
  have hul : us.length = ps.length := hl ▸ r.length.symm
  have kIn : K.In s.heap := e0.mod.kin.keeps fun b o q => (e0.bs b o q).1
  have lim : s.heap.NoLimit := e0.mod.nolimit.keeps fun b o q => (e0.bs b o q).1
  have B := FunD.bindsN F hb s us kIn (by simpa using hul)
  rw [List.append_nil] at B
  obtain ⟨oc, od, dV, kV, doc, pm, an, cdv, ct, osl, rfl, lk, hcd, _⟩ := F.ex
  have par : ∀ y ∈ ps.zip us, scope.names.lookup y.1 = some .local ∨
      (scope.names.lookup y.1 = some .cell ∧ ((cellsFrom (s.heap.objs.size + 1) scope.names []).lookup y.1).isSome = true) := by
    rintro ⟨y, v⟩ hy
    have hm := (List.of_mem_zip hy).1
    refine (S.par y hm).imp id fun c => ⟨c, ?_⟩
    exact PySem.W.cellsFrom_some _ _ _ (Or.inl c)
  have rec_ := PySem.W.codeRec_of kIn hcd
  apply codeAny_call_function hr.depth (kIn _ _ lk) rfl S.co S.gen rfl rec_
  apply B
  apply wpAny_newFunctionEnv_cells S.kind par
  intro env he s1 x
  subst he
  refine ⟨lim.keeps x.toInCall.keep, codeAny_func ?_⟩
  obtain ⟨t, ht, hq⟩ := hbody cdv A outer s H vs Q E hg (hr.deeper _) hsp
  have I := inv_start (CX := L2.CX P w) (E := E) S hr.hd e0 hl r x
  have R := ht.run [] s1 (start N vs) H _ I hq
  refine wpAny_mono R ?_ (fun _ _ z => z)
  intro fl s' hs
  cases fl with
  | next => obtain ⟨σ', H', J, q⟩ := hs; exact ⟨V.non, H', J.os, J.bare, J.base, J.hok, rfl, q⟩
  | ret u => obtain ⟨v, σ', H', J, rv, q⟩ := hs; exact ⟨v, H', J.os, J.bare, J.base, J.hok, rv, q⟩
  | brk => obtain ⟨_, _, _, q⟩ := hs; exact q.elim
  | cont => obtain ⟨_, _, _, q⟩ := hs; exact q.elim
end

section
variable {X : Cx} {k n : Nat} {f C : Addr} {sp : Sp} {W : WX} {x m : Str} {p pos apos : Pos} {e o : Expr} {es : List Expr} {ta : TE} {t : TA}
/-- the callee runs, at the slots σ -/
theorem g_run {pins : List (Addr × Obj)} {σ : St} {H : Hp} {s : Shared} {Q : VK} {us : List Value} {vs : List V} (F : Gn X.prog X.w X.K X.mg X.base k f n sp) (hg : NoG X.A) (hr : Room k X.A) (tk : Takes X W)
    (I : Inv X pins σ H s) (r : Vals vs us) (h : sp vs H Q (WE W σ)) : wpAny (model X.prog X.w) X.A (call (.ref f) us) (EP X pins σ Q) X.xe s := by
  apply wpAny_call
  apply codeAny_mono (F.run X.A X.stack s H us vs Q (WE W σ) hg hr I.env0 r h)
  intro r s' hq
  cases r with
  | error e => exact passAt tk σ pins H s e s' I hq
  | ok fl => cases fl with
    | ret u => exact I.after hq
    | next => exact hq.elim
    | brk => exact hq.elim
    | cont => exact hq.elim
/-- f(..) -/
def tG (sp : Sp) (W : WX) (t : TA) : TE := fun σ H Q => t σ H fun vs H1 => sp vs H1 Q (WE W σ)
theorem g_call (F : Gn X.prog X.w X.K X.mg X.base k f n sp) (hg : NoG X.A) (hr : Room k X.A) (tk : Takes X W) (gl : Gl X x) (hm : X.mg x = some (.ref f)) (kp : PySem.W.keepIn X.K (.ref f) = true)
    (ha : PA X (e :: es) t) (hdb : (x == ("__debug__" : Str)) = false := by decide) (he : starEach (e :: es) X.env = (false, eval e X.env) :: starEach es X.env := by rfl) (hpl : (backTo pos (starEach es X.env)).any (·.1) = false := by rfl) :
    PE X (.Call (.Name x p) (e :: es) [] pos) (tG sp W t) := by
  constructor
  intro pins s σ H Q I h
  apply wpAny_Call_Name_kw
  apply ld_glob I gl hm _ hdb
  apply PySem.W.callWith_K (h₀ := X.base) I.ok.mod.kin kp _ he hpl
  apply thn (ha.run pos pins s σ H _ I h)
  rintro us s1 ⟨vs, H1, I1, r, q⟩
  exact ⟨I1.kIn, g_run F hg hr tk I1 r q⟩
/-- f() -/
theorem g_call0 (F : Gn X.prog X.w X.K X.mg X.base k f n sp) (hg : NoG X.A) (hr : Room k X.A) (tk : Takes X W) (gl : Gl X x) (hm : X.mg x = some (.ref f)) (kp : PySem.W.keepIn X.K (.ref f) = true)
    (hdb : (x == ("__debug__" : Str)) = false := by decide) : PE X (.Call (.Name x p) [] [] pos) (tG sp W tNil) := by
  constructor
  intro pins s σ H Q I h
  apply wpAny_Call_Name_kw
  apply ld_glob I gl hm _ hdb
  exact PySem.W.callWith_K0 I.kIn kp (g_run (us := []) F hg hr tk I .nil h)
/-- o.m(..), o an instance of the class at C -/
def tGM (C : Addr) (m : Str) (sp : Sp) (W : WX) (ta : TE) (t : TA) : TE := fun σ H Q => ta σ H fun x H1 => ∃ a dx fs, x = .ref a ∧ H1 a = some (.ins C dx fs) ∧ fs.lookup m = none ∧
  t σ H1 fun vs H2 => sp (x :: vs) H2 Q (WE W σ)
theorem g_meth {pl : Sem Bool} (he : PE X o ta) (c : Cls X.K C) (hm : Meth X.K C m f) (F : Gn X.prog X.w X.K X.mg X.base k f n sp) (hg : NoG X.A) (hr : Room k X.A) (tk : Takes X W) (ha : PA X (e :: es) t)
    (hst : starEach (e :: es) X.env = (false, eval e X.env) :: starEach es X.env := by rfl) (hpl : (backTo pos (starEach es X.env)).any (·.1) = false := by rfl)
    (ht : eval (.Call (.Attribute o m apos) (e :: es) [] pos) X.env = (do
      let u ← eval o X.env; standAt apos.atName
      let (g, first) ← holding [u] (getMethod u m pl)
      callWith pos g first (backTo pos (starEach (e :: es) X.env)) (backToKw pos (keywordEach [] X.env))) := by rfl) :
    PE X (.Call (.Attribute o m apos) (e :: es) [] pos) (tGM C m sp W ta t) := by
  constructor
  intro pins s σ H Q I h
  refine PySem.W.methodCall_KW (pl := pl) (thn (he.run pins s σ H _ I h) ?_) ht
  rintro u s1 ⟨x, H1, I1, rx, a, dx, fs, rfl, ea, l, q⟩
  cases rx
  apply getmeth_ok I1 ea c hm l
  apply PySem.W.callWith_K (first := [.ref a]) (h₀ := X.base) I.ok.mod.kin hm.kp _ hst hpl
  apply thn (ha.run pos pins s1 σ H1 _ I1 q)
  rintro us s2 ⟨vs, H2, I2, r, q2⟩
  exact ⟨I2.kIn, g_run (us := .ref a :: us) (vs := .ref a :: vs) F hg hr tk I2 (.cons rfl r) q2⟩
/-- o.m() -/
theorem g_meth0 {pl : Sem Bool} (he : PE X o ta) (c : Cls X.K C) (hm : Meth X.K C m f) (F : Gn X.prog X.w X.K X.mg X.base k f n sp) (hg : NoG X.A) (hr : Room k X.A) (tk : Takes X W)
    (ht : eval (.Call (.Attribute o m apos) [] [] pos) X.env = (do
      let u ← eval o X.env; standAt apos.atName
      let (g, first) ← holding [u] (getMethod u m pl)
      callWith pos g first (backTo pos (starEach [] X.env)) (backToKw pos (keywordEach [] X.env))) := by rfl) :
    PE X (.Call (.Attribute o m apos) [] [] pos) (tGM C m sp W ta tNil) := by
  constructor
  intro pins s σ H Q I h
  refine PySem.W.methodCall_KW (pl := pl) (thn (he.run pins s σ H _ I h) ?_) ht
  rintro u s1 ⟨x, H1, I1, rx, a, dx, fs, rfl, ea, l, q⟩
  cases rx
  apply getmeth_ok I1 ea c hm l
  exact PySem.W.callWith_K0 (first := [.ref a]) I1.kIn hm.kp (g_run (us := [.ref a]) (vs := [.ref a]) F hg hr tk I1 (.cons rfl .nil) q)
theorem NoG.make {A : Around} (h : NoG A) (C : Addr) (us : List Value) : NoG (A.under (.builtin "type.__call__" ⟨.ref C :: us, []⟩)) := by
  show pushGuards (Code.guards (.builtin "type.__call__" ⟨.ref C :: us, []⟩)) A.guards = some []
  rw [h]
  have e : Code.guards (.builtin "type.__call__" ⟨.ref C :: us, []⟩) = [] := by
    unfold Code.guards
    rw [if_neg]
    have z : guardIds.contains "type.__call__" = false := by decide +kernel
    intro q
    have q' : guardIds.contains "type.__call__" = true := q
    rw [z] at q'
    cases q'
  rw [e]
  rfl
/-- C(..): a new instance, then __init__ -/
def tGN (C : Addr) (sp : Sp) (W : WX) (t : TA) : TE := fun σ H Q => t σ H fun vs H1 => ∀ x dx, H1 x = none → H1 dx = none → dx ≠ x →
  sp (.ref x :: vs) (upd (upd H1 dx (.own x)) x (.ins C dx [])) (fun v H2 => v = .non ∧ Q (.ref x) H2) (WE W σ)
theorem g_runMake {pins : List (Addr × Obj)} {σ : St} {H : Hp} {s : Shared} {Q : VK} {us : List Value} {vs : List V} (M : Mk X.K C f) (F : Gn X.prog X.w X.K X.mg X.base k f n sp) (hg : NoG X.A) (hr : Room (k + 1) X.A) (tk : Takes X W)
    (I : Inv X pins σ H s) (r : Vals vs us)
    (h : ∀ x dx, H x = none → H dx = none → dx ≠ x → sp (.ref x :: vs) (upd (upd H dx (.own x)) x (.ins C dx [])) (fun v H2 => v = .non ∧ Q (.ref x) H2) (WE W σ)) :
    wpAny (model X.prog X.w) X.A (call (.ref C) us) (EP X pins σ Q) X.xe s := by
  have hq := h (s.heap.objs.size + 1) s.heap.objs.size (I.hok.fresh (Nat.le_succ _)) (I.hok.fresh (Nat.le_refl _)) (Nat.ne_of_lt (Nat.lt_succ_self _))
  have I2 := Inv.made (C := C) I
  have R := F.run (X.A.under (.builtin "type.__call__" ⟨.ref C :: us, []⟩)) X.stack _ _ (.ref (s.heap.objs.size + 1) :: us) (.ref (s.heap.objs.size + 1) :: vs) _ _ (hg.make C us) (hr.make C us []) (I2.env0.make C us []) (.cons rfl r) hq
  apply wpAny_call
  apply make_map (f := f) I.kIn M.makes M.init (beq_iff_eq.mp M.fn)
  apply codeAny_mono R
  intro r s' hq'
  cases r with
  | error e => exact passAt tk σ pins _ _ e s' I2 hq'
  | ok fl => cases fl with
    | ret u =>
      obtain ⟨v, H', I3, rv, ev, q3⟩ := I2.after hq'
      subst ev
      exact ⟨rv, V.ref (s.heap.objs.size + 1), H', I3, rfl, q3⟩
    | next => exact hq'.elim
    | brk => exact hq'.elim
    | cont => exact hq'.elim
theorem g_make (M : Mk X.K C f) (F : Gn X.prog X.w X.K X.mg X.base k f n sp) (hg : NoG X.A) (hr : Room (k + 1) X.A) (tk : Takes X W) (gl : Gl X x) (hm : X.mg x = some (.ref C))
    (ha : PA X (e :: es) t) (hdb : (x == ("__debug__" : Str)) = false := by decide) (he : starEach (e :: es) X.env = (false, eval e X.env) :: starEach es X.env := by rfl) (hpl : (backTo pos (starEach es X.env)).any (·.1) = false := by rfl) :
    PE X (.Call (.Name x p) (e :: es) [] pos) (tGN C sp W t) := by
  constructor
  intro pins s σ H Q I h
  apply wpAny_Call_Name_kw
  apply ld_glob I gl hm _ hdb
  apply PySem.W.callWith_K (h₀ := X.base) I.ok.mod.kin M.kp _ he hpl
  apply thn (ha.run pos pins s σ H _ I h)
  rintro us s1 ⟨vs, H1, I1, r, q⟩
  exact ⟨I1.kIn, g_runMake M F hg hr tk I1 r q⟩
theorem PE.or {t1 t2 : TE} (h1 : PE X e t1) (h2 : PE X e t2) : PE X e (fun σ H Q => t1 σ H Q ∨ t2 σ H Q) :=
  ⟨fun pins s σ H Q I h => h.elim (h1.run pins s σ H Q I) (h2.run pins s σ H Q I)⟩
end

section
variable {X : Cx}
/-- repr of data -/
def rRepr (K : PySem.W.Frag) : List V → Hp → VK → Prop := fun vs H Q => ∃ v d, vs = [v] ∧ Dp K H v d ∧ d.showable = true ∧ d.hasDict = false ∧ d.depth ≤ 60 ∧ d.shown.length ≤ sizeLine ∧ Q (.str d.shown) H
theorem call_repr (hg : NoG X.A) (hu : X.A.units + 64 < cLine) : CallR X (.builtin "repr") (rRepr X.K) := by
  intro pins s σ H xs us Q I r h
  obtain ⟨v, d, rfl, hd, sh, nd, dp, sz, q⟩ := h
  obtain ⟨u, rfl, ru⟩ := vals1 r
  obtain ⟨as, rd⟩ := Dp.reads I d v u hd ru
  have fin : ∀ (h' : Heap) (t : Tok) (tk : Nat), (∀ b o, s.heap.get? b = some o → h'.get? b = some o) → EP X pins σ Q (.str d.shown t) { s with heap := h', toks := tk } :=
    fun h' t tk k => ⟨.str d.shown, H, I.kept (t' := tk) k, ⟨t, rfl⟩, q⟩
  cases hd with
  | non => cases ru; exact P.repr_of_none (fin _ _ _ fun _ _ z => z)
  | bl b => cases ru; exact P.repr_of_bool (by have z := fin s.heap s.toks (s.toks + 1) (fun _ _ z => z); cases b <;> exact z)
  | int i => obtain ⟨t, rfl⟩ := ru; exact P.repr_of_int (of_decide_eq_true sh) (fin _ _ _ fun _ _ z => z)
  | str x => obtain ⟨t, rfl⟩ := ru; exact P.repr_of_str (fin _ _ _ fun _ _ z => z) sz
  | lst h1 h2 => cases ru; exact repr_of_reads' rd sh (PyData.noDict_hsm nd) hg (by omega) (fun _ _ z => z) (fun h' u tk k => fin h' u tk k) sz
  | tup h1 h2 => cases ru; exact repr_of_reads' rd sh (PyData.noDict_hsm nd) hg (by omega) (fun _ _ z => z) (fun h' u tk k => fin h' u tk k) sz
end

/-! ### the law's own call -/
theorem g_law {P : Program} {w : World} {K : PySem.W.Frag} {mg mb : Str → Option Value} {k : Nat} {fa a : Addr} {sp : Sp} {s₁ : Shared} {vs : List Value} {ns : List Int}
    (KX : K.In s₁.heap) (hns : s₁.heap.Ns mainGlobals mg) (hb : s₁.heap.Ns builtinsNs mb) (hbb : ∀ x : Str, x ≠ "__name__" → mb x = bootBuiltins x) (hlim : s₁.heap.NoLimit) (hg : s₁.gens = #[])
    (ha : s₁.heap.get? a = some { cls := .type "list", data := .seq vs.toArray }) (hi : IntsAre vs ns) (hl : ns.length ≤ sizeLine) (hr : Room k callerA)
    (F : ∀ base : Heap, K.In base → base.Ns mainGlobals mg → Gn P w K mg base k fa 1 sp)
    (hsp : ∀ H : Hp, Only H → SqL K H a (ns.map V.int) → sp [.ref a] H (fun v _ => v = .bl true) fun _ _ _ => False) :
    codeAny (model P w) callerA (.call (.ref fa) ⟨[.ref a], []⟩) (fun r s' => r = .ok (.ret (.bool true)) ∧ OldK s₁.heap s'.heap ∧ s'.os = s₁.os ∧ AllBare s'.gens) s₁ := by
  have rv := vals_ints hi
  have lenV := hi.length
  suffices core : ∀ H : Hp, Only H → SqL K H a (ns.map V.int) → HOk P w H s₁.heap → (∀ b, H b ≠ none → b = a ∧ K.lookup b = none) →
      codeAny (model P w) callerA (.call (.ref fa) ⟨[.ref a], []⟩) (fun r s' => r = .ok (.ret (.bool true)) ∧ OldK s₁.heap s'.heap ∧ s'.os = s₁.os ∧ AllBare s'.gens) s₁ by
    cases hk : K.lookup a with
    | some o =>
      have e := KX a o hk
      rw [ha] at e
      cases e
      have sq : SqL K (fun _ => none) a (ns.map V.int) := by
        right
        refine ⟨_, vs.toArray, _, hk, rfl, rfl, rfl, ?_, ?_⟩
        · rw [List.size_toArray, lenV]; exact hl
        · simpa using rv
      refine core (fun _ => none) (fun _ => .inl rfl) sq ?_ ?_
      · intro b u z
        simp at z
      · intro b z
        exact absurd rfl z
    | none =>
      let o0 : Obj := { cls := .type "list", data := .seq vs.toArray }
      let H0 : Hp := fun b => if b = a then some (.frz o0 (.lst (ns.map V.int))) else none
      have at_a : H0 a = some (.frz o0 (.lst (ns.map V.int))) := if_pos rfl
      have off_a : ∀ b, b ≠ a → H0 b = none := fun b n => if_neg n
      refine core H0 (fun b => ?_) (.inl (.inr ⟨o0, at_a⟩)) (fun b u z => ?_) (fun b z => ?_)
      · by_cases n : b = a
        · subst n; exact .inr ⟨_, _, at_a⟩
        · exact .inl (off_a b n)
      · by_cases n : b = a
        · subst n
          rw [at_a] at z
          cases z
          refine ⟨ha, ?_, vs, _, rv, ha⟩
          rw [List.length_map]; exact hl
        · rw [off_a b n] at z; cases z
      · by_cases n : b = a
        · subst n; exact ⟨rfl, hk⟩
        · exact absurd (off_a b n) z
  intro H hO hS hok hA
  -- all that stood, but the script, is the ground
  have keepB : ∀ {b : Addr} {o : Obj}, s₁.heap.get? b = some o → H b = none → (hidT s₁.heap H).get? b = some o := fun e n => hidT_get e n
  have notA : ∀ {b : Addr} {o : Obj} {es : Array DictEntry} {ep : Nat}, s₁.heap.get? b = some o → o.data = .dict es ep → H b = none := by
    intro b o es ep e d
    cases q : H b with
    | none => rfl
    | some u =>
      obtain ⟨rfl, _⟩ := hA b (by rw [q]; simp)
      rw [ha] at e
      cases e
      cases d
  have nsB : ∀ {b : Addr} {m : Str → Option Value}, s₁.heap.Ns b m → (hidT s₁.heap H).Ns b m := by
    rintro b m ⟨o, es, ep, e, d, r⟩
    exact ⟨o, es, ep, keepB e (notA e d), d, r⟩
  have KB : K.In (hidT s₁.heap H) := by
    intro b o e
    refine keepB (KX b o e) ?_
    cases q : H b with
    | none => rfl
    | some u =>
      have z := (hA b (by rw [q]; simp)).2
      rw [e] at z; cases z
  obtain ⟨mc, lim1, lim2⟩ := hlim
  have M : Mod K mg (hidT s₁.heap H) := ⟨KB, nsB hns, ⟨mb, nsB hb, hbb⟩, mc, nsB lim1, lim2⟩
  have e0 : Env0 P w K mg (hidT s₁.heap H) callerA [] s₁ H :=
    ⟨rfl, M, fun b o e => of_hidT e, Nat.le_of_eq (hidT_size _ _), trivial, (fun b hb => absurd hb (by simp [frs])), hok, .of_eq hg⟩
  have R := (F _ KB (nsB hns)).run callerA [] s₁ H [.ref a] [.ref a] _ _ rfl hr e0 (.cons rfl .nil) (hsp H hO hS)
  apply codeAny_mono R
  intro r s' h
  cases r with
  | error e =>
    obtain ⟨_, _, _, _, _, _, _, _, _, _, _, _, z⟩ := h
    exact z.elim
  | ok fl => cases fl with
    | next => exact h.elim
    | brk => exact h.elim
    | cont => exact h.elim
    | ret u =>
      obtain ⟨v, H', os, bare, un, hok', r', rfl⟩ := h
      cases r'
      refine ⟨rfl, OldK.of_keep fun b o e => ?_, os, bare⟩
      cases q : H b with
      | none => exact un.keep b o e q (by simp [frs]) (by simp)
      | some u =>
        rcases hO b with z | ⟨ob, xs, z⟩
        · rw [q] at z; cases z
        · obtain ⟨e1, _⟩ := hok b _ z
          obtain ⟨e2, _⟩ := hok' b _ (un.frzs b ob _ z)
          rw [e] at e1
          cases e1
          exact e2
theorem g_walk {l : PySem.W.OpenLaw} {n k : Nat} {q : Program} {loose : List Str} {XP : (Str → Option Value) → Heap → Prop} {YP : World → Heap → Prop} {d : DefRec}
    (hn : l.most = some n) (hn2 : n ≤ sizeLine) (hdf : d.params.defaults = []) (hr : Room k callerA)
    (F : ∀ (w : World) (mg : Str → Option Value) (fa : Addr) (h : Heap), YP w h → h.Ns mainGlobals mg → mg d.name = some (.ref fa) →
      ∃ (K : PySem.W.Frag) (sp : Sp), K.In h ∧
        (∀ (H : Hp) (a : Addr) (ns : List Int), ns.length ≤ n → Only H → SqL K H a (ns.map V.int) → sp [.ref a] H (fun v _ => v = .bl true) fun _ _ _ => False) ∧
        ∀ base : Heap, K.In base → base.Ns mainGlobals mg → Gn l.prog w K mg base k fa 1 sp) :
    PySem.W.WalkO q loose XP YP l.row.toRowW d [] (fun f vs => PySem.call f vs) := by
  apply Att.attach_call hn hdf
  intro w s₀ s₁ mg mb fa o pm cd doc a vs ns G Y ho hd hcd hmg hobj hints hlen hg
  obtain ⟨K, sp, KX, hsp, hF⟩ := F w mg fa _ Y G.T.g hmg
  apply g_law KX G.T.g G.T.b G.T.builtins G.T.nolimit hg hobj hints (Nat.le_trans hlen hn2) hr hF
  intro H hO hS
  exact hsp H a ns hlen hO hS
end GL

/-! G2: data at values, resources, and the judgement RD: a reading holds of every heap with these data and resources. -/
namespace GL
open PySem PySem.Spec L2

mutual
/-- the value stands for this data -/
inductive Dt (K : PySem.W.Frag) (H : Hp) : V → PyData → Prop
  | non : Dt K H .non .none
  | bl (b : Bool) : Dt K H (.bl b) (.bool b)
  | int (i : Int) : Dt K H (.int i) (.int i)
  | str (x : Str) : Dt K H (.str x) (.str x)
  | lst {a : Addr} {xs : List V} {ds : List PyData} : H a = some (.lst xs) → DtAll K H xs ds → Dt K H (.ref a) (.list ds)
  | tup {a : Addr} {xs : List V} {ds : List PyData} : SqT K H a xs → DtAll K H xs ds → Dt K H (.ref a) (.tuple ds)
inductive DtAll (K : PySem.W.Frag) (H : Hp) : List V → List PyData → Prop
  | nil : DtAll K H [] []
  | cons {v : V} {d : PyData} {vs : List V} {ds : List PyData} : Dt K H v d → DtAll K H vs ds → DtAll K H (v :: vs) (d :: ds)
end
section
variable {K : PySem.W.Frag} {H H' : Hp}
theorem same_sqT {a : Addr} {xs : List V} (e : Same H H') (h : SqT K H a xs) : SqT K H' a xs := by
  rcases h with (h | ⟨o, h⟩) | h
  · left; left; exact e _ _ h
  · left; right; exact ⟨o, e _ _ h⟩
  · right; exact h
mutual
theorem Dt.mono (e : Same H H') {v : V} {d : PyData} : Dt K H v d → Dt K H' v d
  | .non => .non
  | .bl b => .bl b
  | .int i => .int i
  | .str x => .str x
  | .lst h r => .lst (e _ _ h) (DtAll.mono e r)
  | .tup h r => .tup (same_sqT e h) (DtAll.mono e r)
theorem DtAll.mono (e : Same H H') {vs : List V} {ds : List PyData} : DtAll K H vs ds → DtAll K H' vs ds
  | .nil => .nil
  | .cons a b => .cons (Dt.mono e a) (DtAll.mono e b)
end
mutual
theorem Dt.dp {v : V} {d : PyData} : Dt K H v d → Dp K H v d
  | .non => .non
  | .bl b => .bl b
  | .int i => .int i
  | .str x => .str x
  | .lst h r => .lst (.inl (.inl h)) (DtAll.dp r)
  | .tup h r => .tup h (DtAll.dp r)
theorem DtAll.dp {vs : List V} {ds : List PyData} : DtAll K H vs ds → DpAll K H vs ds
  | .nil => .nil
  | .cons a b => .cons (Dt.dp a) (DtAll.dp b)
end
theorem DtAll.len : ∀ {vs : List V} {ds : List PyData}, DtAll K H vs ds → vs.length = ds.length
  | _, _, .nil => rfl
  | _, _, .cons _ b => congrArg Nat.succ (DtAll.len b)
theorem DtAll.get : ∀ {vs : List V} {ds : List PyData}, DtAll K H vs ds → ∀ {i : Nat} {v : V}, vs[i]? = some v → ∃ d, ds[i]? = some d ∧ Dt K H v d
  | _, _, .nil, i, v, h => by simp at h
  | _, _, .cons a b, 0, v, h => by simp at h; subst h; exact ⟨_, rfl, a⟩
  | _, _, .cons a b, i + 1, v, h => by
    obtain ⟨d, e, x⟩ := DtAll.get b (i := i) (v := v) (by simpa using h)
    exact ⟨d, by simpa using e, x⟩
theorem DtAll.at : ∀ {vs : List V} {ds : List PyData}, DtAll K H vs ds → ∀ {i : Nat} {d : PyData}, ds[i]? = some d → ∃ v, vs[i]? = some v ∧ Dt K H v d
  | _, _, .nil, i, v, h => by simp at h
  | _, _, .cons a b, 0, v, h => by simp at h; subst h; exact ⟨_, rfl, a⟩
  | _, _, .cons a b, i + 1, v, h => by
    obtain ⟨d, e, x⟩ := DtAll.at b (i := i) (d := v) (by simpa using h)
    exact ⟨d, by simpa using e, x⟩
theorem DtAll.append : ∀ {vs ws : List V} {ds es : List PyData}, DtAll K H vs ds → DtAll K H ws es → DtAll K H (vs ++ ws) (ds ++ es)
  | _, _, _, _, .nil, h => h
  | _, _, _, _, .cons a b, h => .cons a (DtAll.append b h)
theorem DtAll.drop : ∀ {vs : List V} {ds : List PyData} (n : Nat), DtAll K H vs ds → DtAll K H (vs.drop n) (ds.drop n)
  | _, _, 0, h => h
  | _, _, n + 1, .nil => .nil
  | _, _, n + 1, .cons a b => DtAll.drop n b
theorem DtAll.take : ∀ {vs : List V} {ds : List PyData} (n : Nat), DtAll K H vs ds → DtAll K H (vs.take n) (ds.take n)
  | _, _, 0, h => .nil
  | _, _, n + 1, .nil => .nil
  | _, _, n + 1, .cons a b => .cons a (DtAll.take n b)
theorem DtAll.set : ∀ {vs : List V} {ds : List PyData} {v : V} {d : PyData} (n : Nat), DtAll K H vs ds → Dt K H v d → DtAll K H (vs.set n v) (ds.set n d)
  | _, _, _, _, _, .nil, h => .nil
  | _, _, _, _, 0, .cons a b, h => .cons h b
  | _, _, _, _, n + 1, .cons a b, h => .cons a (DtAll.set n b h)
theorem DtAll.erase : ∀ {vs : List V} {ds : List PyData} (n : Nat), DtAll K H vs ds → DtAll K H (vs.eraseIdx n) (ds.eraseIdx n)
  | _, _, _, .nil => .nil
  | _, _, 0, .cons a b => b
  | _, _, n + 1, .cons a b => .cons a (DtAll.erase n b)
theorem DtAll.ints {ns : List Int} {xs : List V} (h : DtAll K H xs (ns.map .int)) : xs = ns.map V.int := by
  induction ns generalizing xs with
  | nil => cases h; rfl
  | cons n ns ih =>
    cases h with
    | cons a b => cases a; rw [ih b]; rfl
theorem DtAll.ofInts (ns : List Int) : DtAll K H (ns.map V.int) (ns.map .int) := by
  induction ns with
  | nil => exact .nil
  | cons n ns ih => exact .cons (.int n) ih
theorem DtAll.strs {ns : List Str} {xs : List V} (h : DtAll K H xs (ns.map .str)) : xs = ns.map V.str := by
  induction ns generalizing xs with
  | nil => cases h; rfl
  | cons n ns ih =>
    cases h with
    | cons a b => cases a; rw [ih b]; rfl
theorem DtAll.ofStrs (ns : List Str) : DtAll K H (ns.map V.str) (ns.map .str) := by
  induction ns with
  | nil => exact .nil
  | cons n ns ih => exact .cons (.str n) ih
theorem DtAll.bls {ns : List Bool} {xs : List V} (h : DtAll K H xs (ns.map .bool)) : xs = ns.map V.bl := by
  induction ns generalizing xs with
  | nil => cases h; rfl
  | cons n ns ih =>
    cases h with
    | cons a b => cases a; rw [ih b]; rfl
end

/-! ### resources -/
/-- the heap without the addresses that may change -/
noncomputable def off (H : Hp) (N : Addr → Prop) : Hp := fun b => open Classical in if N b then none else H b
theorem off_same {H : Hp} {N : Addr → Prop} : Same (off H N) H := fun b o h => by
  unfold off at h
  split at h
  · cases h
  · exact h
theorem off_ne {H : Hp} {N : Addr → Prop} {b : Addr} (h : ¬ N b) : off H N b = H b := if_neg h
/-- what owns the addresses N: D what stands still, H all -/
structure Res where
  h : (Addr → Prop) → Hp → Hp → Prop
  st : ∀ {N : Addr → Prop} {D D' H H' : Hp}, h N D H → Same D D' → (∀ b, N b → H' b = H b) → h N D' H'
def emp : Res := ⟨fun N _ _ => ∀ b, ¬ N b, fun h _ _ => h⟩
def star (R S : Res) : Res where
  h := fun N D H => ∃ N1 N2, (∀ b, N b ↔ N1 b ∨ N2 b) ∧ (∀ b, N1 b → N2 b → False) ∧ R.h N1 D H ∧ S.h N2 D H
  st := by
    rintro N D D' H H' ⟨N1, N2, e, dj, h1, h2⟩ d k
    exact ⟨N1, N2, e, dj, R.st h1 d fun b hb => k b ((e b).2 (.inl hb)), S.st h2 d fun b hb => k b ((e b).2 (.inr hb))⟩
theorem star_comm {R S : Res} {N : Addr → Prop} {D H : Hp} (h : (star R S).h N D H) : (star S R).h N D H := by
  obtain ⟨N1, N2, e, dj, h1, h2⟩ := h
  exact ⟨N2, N1, fun b => (e b).trans or_comm, fun b x y => dj b y x, h2, h1⟩
theorem star_assoc {R S T : Res} {N : Addr → Prop} {D H : Hp} (h : (star (star R S) T).h N D H) : (star R (star S T)).h N D H := by
  obtain ⟨N1, N2, e, dj, ⟨M1, M2, e', dj', h1, h2⟩, h3⟩ := h
  refine ⟨M1, fun b => M2 b ∨ N2 b, fun b => ?_, fun b x y => ?_, h1, M2, N2, fun b => Iff.rfl, fun b x y => ?_, h2, h3⟩
  · rw [e b, e' b, or_assoc]
  · rcases y with y | y
    · exact dj' b x y
    · exact dj b ((e' b).2 (.inl x)) y
  · exact dj b ((e' b).2 (.inr x)) y
theorem star_mono {R R' S : Res} {N : Addr → Prop} {D H : Hp} (k : ∀ {N}, R.h N D H → R'.h N D H) (h : (star R S).h N D H) : (star R' S).h N D H := by
  obtain ⟨N1, N2, e, dj, h1, h2⟩ := h
  exact ⟨N1, N2, e, dj, k h1, h2⟩
theorem star_swap {R S T : Res} {N : Addr → Prop} {D H : Hp} (h : (star R (star S T)).h N D H) : (star S (star R T)).h N D H := by
  have h1 := star_comm h
  have h2 := star_assoc h1
  exact star_mono (R := S) (fun z => z) (by
    obtain ⟨N1, N2, e, dj, a, b⟩ := h2
    exact ⟨N1, N2, e, dj, a, star_comm b⟩)
/-- a list that may change -/
def own (K : PySem.W.Frag) (a : Addr) (ds : List PyData) : Res where
  h := fun N D H => (∀ b, N b ↔ b = a) ∧ ∃ xs, H a = some (.lst xs) ∧ DtAll K D xs ds
  st := fun ⟨e, xs, h, r⟩ d k => ⟨e, xs, (k a ((e a).2 rfl)).trans h, r.mono d⟩

/-- what may be owned: no tuple (tuples stand) -/
def NotTup (o : HO) : Prop := ∀ xs, o ≠ .tup xs
structure At (K : PySem.W.Frag) (D0 : Hp) (R : Res) (l : List (V × PyData)) (N : Addr → Prop) (H : Hp) : Prop where
  nt : ∀ b, N b → ∃ o, H b = some o ∧ NotTup o
  r : R.h N (off H N) H
  d0 : Same D0 (off H N)
  f : ∀ p ∈ l, Dt K (off H N) p.1 p.2
theorem At.nn {K : PySem.W.Frag} {D0 : Hp} {R : Res} {l : List (V × PyData)} {N : Addr → Prop} {H : Hp} (A : At K D0 R l N H) (b : Addr) (h : N b) : H b ≠ none := by
  obtain ⟨o, e, _⟩ := A.nt b h
  rw [e]
  exact fun z => by cases z
/-- T holds of every such heap -/
def RD (K : PySem.W.Frag) (D0 : Hp) (R : Res) (l : List (V × PyData)) (T : Hp → Prop) : Prop := ∀ N H, At K D0 R l N H → T H

/-- the value has this data among these facts -/
inductive InL (l : List (V × PyData)) : V → PyData → Prop
  | non : InL l .non .none
  | bl (b : Bool) : InL l (.bl b) (.bool b)
  | int (i : Int) : InL l (.int i) (.int i)
  | str (x : Str) : InL l (.str x) (.str x)
  | mem {v : V} {d : PyData} (h : (v, d) ∈ l) : InL l v d
inductive InLs (l : List (V × PyData)) : List V → List PyData → Prop
  | nil : InLs l [] []
  | cons {v : V} {d : PyData} {vs : List V} {ds : List PyData} (h : InL l v d) (t : InLs l vs ds) : InLs l (v :: vs) (d :: ds)
section
variable {K : PySem.W.Frag} {D0 H : Hp} {R S : Res} {l l' : List (V × PyData)} {N : Addr → Prop} {T T' : Hp → Prop}
theorem At.dt (A : At K D0 R l N H) {v : V} {d : PyData} (h : InL l v d) : Dt K (off H N) v d := by
  cases h with
  | non => exact .non
  | bl b => exact .bl b
  | int i => exact .int i
  | str x => exact .str x
  | mem h => exact A.f _ h
theorem At.dts (A : At K D0 R l N H) {vs : List V} {ds : List PyData} (h : InLs l vs ds) : DtAll K (off H N) vs ds := by
  induction h with
  | nil => exact .nil
  | cons h _ ih => exact .cons (A.dt h) ih
theorem At.dH (A : At K D0 R l N H) {v : V} {d : PyData} (h : InL l v d) : Dt K H v d := (A.dt h).mono off_same
theorem At.weak (A : At K D0 R l N H) (h : ∀ p ∈ l', InL l p.1 p.2) : At K D0 R l' N H := ⟨A.nt, A.r, A.d0, fun p hp => A.dt (h p hp)⟩
theorem RD.weak (h : ∀ p ∈ l', InL l p.1 p.2) (k : RD K D0 R l' T) : RD K D0 R l T := fun N H A => k N H (A.weak h)
theorem RD.res (h : ∀ {N D H}, R.h N D H → S.h N D H) (k : RD K D0 S l T) : RD K D0 R l T := fun N H A => k N H ⟨A.nt, h A.r, A.d0, A.f⟩
theorem RD.imp (h : ∀ H, T H → T' H) (k : RD K D0 R l T) : RD K D0 R l T' := fun N H A => h H (k N H A)
theorem At.facts (A : At K D0 R l N H) {v : V} {d : PyData} (h : Dt K (off H N) v d) : At K D0 R ((v, d) :: l) N H :=
  ⟨A.nt, A.r, A.d0, fun p hp => by rcases List.mem_cons.mp hp with rfl | hp; exact h; exact A.f p hp⟩
/-- a new object -/
theorem At.new (A : At K D0 R l N H) {p : Addr} (o : HO) (hp : H p = none) : At K D0 R l N (upd H p o) ∧ off (upd H p o) N p = some o := by
  have np : ¬ N p := fun h => A.nn p h hp
  have ne : ∀ b, N b → b ≠ p := fun b hb z => np (z ▸ hb)
  have sm : Same (off H N) (off (upd H p o) N) := fun b u h => by
    by_cases hb : N b
    · unfold off at h; rw [if_pos hb] at h; cases h
    · rw [off_ne hb] at h ⊢
      rw [upd_ne (ne_of_none h hp)]
      exact h
  refine ⟨⟨fun b hb => ?_, R.st A.r sm fun b hb => upd_ne (ne b hb), A.d0.trans sm, fun q hq => (A.f q hq).mono sm⟩, ?_⟩
  · rw [upd_ne (ne b hb)]; exact A.nt b hb
  · rw [off_ne np, upd_same]
theorem RD.new {o : HO} {d : PyData} {T : V → Hp → Prop} (hd : ∀ (D : Hp) (p : Addr), (∀ q ∈ l, Dt K D q.1 q.2) → D p = some o → Dt K D (.ref p) d) (k : ∀ v, RD K D0 R ((v, d) :: l) (T v)) :
    RD K D0 R l (fun H => ∀ p, H p = none → T (.ref p) (upd H p o)) := fun N H A p hp => by
  obtain ⟨A', e⟩ := A.new o hp
  exact k (.ref p) N _ (A'.facts (hd _ p A'.f e))
/-- a new object that may change -/
theorem At.newOwn (A : At K D0 R l N H) {p : Addr} {xs : List V} {ds : List PyData} (hp : H p = none) (hx : DtAll K (off H N) xs ds) : At K D0 (star (own K p ds) R) l (fun b => b = p ∨ N b) (upd H p (.lst xs)) := by
  have np : ¬ N p := fun h => A.nn p h hp
  have ne : ∀ b, N b → b ≠ p := fun b hb z => np (z ▸ hb)
  have sm : Same (off H N) (off (upd H p (.lst xs)) (fun b => b = p ∨ N b)) := fun b u h => by
    by_cases hb : N b
    · unfold off at h; rw [if_pos hb] at h; cases h
    · rw [off_ne hb] at h
      have nb := ne_of_none h hp
      rw [off_ne (fun z => z.elim nb hb), upd_ne nb]
      exact h
  refine ⟨fun b hb => ?_, ⟨fun b => b = p, N, fun b => Iff.rfl, fun b x y => ne b y x, ⟨fun b => Iff.rfl, xs, upd_same, hx.mono sm⟩, R.st A.r sm fun b hb => upd_ne (ne b hb)⟩, A.d0.trans sm, fun q hq => (A.f q hq).mono sm⟩
  rcases hb with rfl | hb
  · exact ⟨_, upd_same, fun _ z => by cases z⟩
  · rw [upd_ne (ne b hb)]; exact A.nt b hb
theorem RD.newOwn {xs : List V} {ds : List PyData} {T : V → Hp → Prop} (hx : InLs l xs ds) (k : ∀ a, RD K D0 (star (own K a ds) R) l (T (.ref a))) :
    RD K D0 R l (fun H => ∀ p, H p = none → T (.ref p) (upd H p (.lst xs))) := fun N H A p hp => k p _ _ (A.newOwn hp (A.dts hx))
/-- the list at a is written -/
theorem At.setOwn {a : Addr} {ds es : List PyData} {ys : List V} (A : At K D0 (star (own K a ds) R) l N H) (hy : DtAll K (off H N) ys es) : At K D0 (star (own K a es) R) l N (upd H a (.lst ys)) := by
  obtain ⟨N1, N2, e, dj, ⟨e1, xs, hx, dx⟩, h2⟩ := A.r
  have na : N a := (e a).2 (.inl ((e1 a).2 rfl))
  have sm : Same (off H N) (off (upd H a (.lst ys)) N) := fun b u h => by
    by_cases hb : N b
    · unfold off at h; rw [if_pos hb] at h; cases h
    · rw [off_ne hb] at h ⊢
      rw [upd_ne (fun z => hb (by rw [z]; exact na))]
      exact h
  refine ⟨fun b hb => ?_, ⟨N1, N2, e, dj, ⟨e1, ys, upd_same, hy.mono sm⟩, R.st h2 sm fun b hb => upd_ne fun z => dj b ((e1 b).2 z) hb⟩, A.d0.trans sm, fun q hq => (A.f q hq).mono sm⟩
  by_cases z : b = a
  · rw [z]; exact ⟨_, upd_same, fun _ z => by cases z⟩
  · rw [upd_ne z]; exact A.nt b hb
/-- the list is no more changed -/
theorem At.freeze {a : Addr} {ds : List PyData} (A : At K D0 (star (own K a ds) R) l N H) : ∃ N', At K D0 R ((.ref a, .list ds) :: l) N' H := by
  obtain ⟨N1, N2, e, dj, ⟨e1, xs, hx, dx⟩, h2⟩ := A.r
  have na : ¬ N2 a := fun z => dj a ((e1 a).2 rfl) z
  have sm : Same (off H N) (off H N2) := fun b u h => by
    by_cases hb : N b
    · unfold off at h; rw [if_pos hb] at h; cases h
    · rw [off_ne hb] at h
      rw [off_ne (fun z => hb ((e b).2 (.inr z)))]
      exact h
  refine ⟨N2, fun b hb => A.nt b ((e b).2 (.inr hb)), R.st h2 sm fun _ _ => rfl, A.d0.trans sm, fun q hq => ?_⟩
  rcases List.mem_cons.mp hq with rfl | hq
  · exact .lst (by rw [off_ne na]; exact hx) (dx.mono sm)
  · exact (A.f q hq).mono sm
theorem RD.freeze {a : Addr} {ds : List PyData} (k : RD K D0 R ((.ref a, .list ds) :: l) T) : RD K D0 (star (own K a ds) R) l T := fun N H A => by
  obtain ⟨N', A'⟩ := A.freeze
  exact k N' H A'
theorem At.ownAt {a : Addr} {ds : List PyData} (A : At K D0 (star (own K a ds) R) l N H) : ∃ xs, H a = some (.lst xs) ∧ DtAll K (off H N) xs ds := by
  obtain ⟨N1, N2, e, dj, ⟨e1, xs, hx, dx⟩, h2⟩ := A.r
  exact ⟨xs, hx, dx⟩
theorem RD.rot {R1 R2 R3 : Res} (k : RD K D0 (star R2 (star R1 R3)) l T) : RD K D0 (star R1 (star R2 R3)) l T := RD.res star_swap k
end
end GL

/-! G3: readings that serve several kinds of values, and what RD needs for each reading. -/
namespace GL
open PySem PySem.Spec L2
mutual
theorem Dt.plain {K : PySem.W.Frag} {H : Hp} {v : V} {d : PyData} : Dt K H v d → d.plain = true
  | .non => by simp only [PyData.plain]
  | .bl b => by simp only [PyData.plain]
  | .int i => by simp only [PyData.plain]
  | .str x => by simp only [PyData.plain]
  | .lst h r => by simp only [PyData.plain]; exact DtAll.plain r
  | .tup h r => by simp only [PyData.plain]; exact DtAll.plain r
theorem DtAll.plain {K : PySem.W.Frag} {H : Hp} {vs : List V} {ds : List PyData} : DtAll K H vs ds → PyData.plainAll ds = true
  | .nil => by simp only [PyData.plainAll]
  | .cons a b => by simp only [PyData.plainAll, Dt.plain a, DtAll.plain b, Bool.and_self]
end
section
variable {X : Cx}
def gAdd (K : PySem.W.Frag) : R2 := fun x y H Q => rI0 (fun i j => .int (i + j)) x y H Q ∨ (∃ i j, x = .str i ∧ y = .str j ∧ i.length + j.length ≤ sizeLine ∧ Q (.str (i ++ j)) H) ∨ rCat x y H Q ∨ rCatT K x y H Q
theorem op_gadd : OpR X (binaryOp .Add) (gAdd X.K) := op_add.or (op_add_str.or (op_cat.or op_catT))
def gMul : R2 := fun x y H Q => rI CMul (fun i j => .int (i * j)) x y H Q ∨ rRep x y H Q
theorem op_gmul : OpR X (binaryOp .Mult) gMul := op_mul.or op_rep
/-- ==, !=, in, not in over data -/
def gEq (K : PySem.W.Frag) : R2 := fun x y H Q => ∃ d e, Dt K H x d ∧ Dt K H y e ∧ d.depth ≤ 60 ∧ Q (.bl (PyData.eqv d e)) H
def gNe (K : PySem.W.Frag) : R2 := fun x y H Q => ∃ d e, Dt K H x d ∧ Dt K H y e ∧ d.depth ≤ 60 ∧ Q (.bl (!PyData.eqv d e)) H
theorem op_geq (hu : X.A.units + 64 < cLine) : OpR X (compareOp .Eq) (gEq X.K) := by
  intro pins s σ H x y v u Q I rx ry h
  obtain ⟨d, e, hd, he, dp, q⟩ := h
  obtain ⟨as, r1⟩ := Dp.reads I d x v hd.dp rx
  obtain ⟨bs, r2⟩ := Dp.reads I e y u he.dp ry
  exact PySem.SeqAt.eq_plain r1 r2 hd.plain he.plain (by omega) ⟨.bl _, H, I, rfl, q⟩
theorem op_gne (hu : X.A.units + 64 < cLine) : OpR X (compareOp .NotEq) (gNe X.K) := by
  intro pins s σ H x y v u Q I rx ry h
  obtain ⟨d, e, hd, he, dp, q⟩ := h
  obtain ⟨as, r1⟩ := Dp.reads I d x v hd.dp rx
  obtain ⟨bs, r2⟩ := Dp.reads I e y u he.dp ry
  exact PySem.SeqAt.ne_plain r1 r2 hd.plain he.plain (by omega) ⟨.bl _, H, I, rfl, q⟩
def rInP (K : PySem.W.Frag) (neg : Bool) : R2 := fun x y H Q => ∃ d ds, Dt K H x d ∧ (Dt K H y (.list ds) ∨ Dt K H y (.tuple ds)) ∧ d.depth ≤ 60 ∧ Q (.bl (if neg then !ds.any fun e => PyData.eqv e d else ds.any fun e => PyData.eqv e d)) H
def rInSg (neg : Bool) : R2 := fun x y H Q => ∃ (c : Nat) (z : Str), x = .str ⟨#[c]⟩ ∧ y = .str z ∧ Q (.bl (if neg then !decide (c ∈ z.cps.toList) else decide (c ∈ z.cps.toList))) H
def gIn (K : PySem.W.Frag) (neg : Bool) : R2 := fun x y H Q => rInP K neg x y H Q ∨ rInSg neg x y H Q
theorem op_inP (hu : X.A.units + 64 < cLine) : OpR X (compareOp .In) (rInP X.K false) := by
  intro pins s σ H x y v u Q I rx ry h
  obtain ⟨d, ds, hd, he, dp, q⟩ := h
  obtain ⟨as, r1⟩ := Dp.reads I d x v hd.dp rx
  rcases he with he | he
  · obtain ⟨bs, r2⟩ := Dp.reads I _ y u he.dp ry
    exact PySem.SeqAt.in_list_data r2 r1 he.plain hd.plain (by omega) ⟨.bl _, H, I, rfl, q⟩
  · obtain ⟨bs, r2⟩ := Dp.reads I _ y u he.dp ry
    exact PySem.SeqAt.in_tuple_data r2 r1 he.plain hd.plain (by omega) ⟨.bl _, H, I, rfl, q⟩
theorem op_notInP (hu : X.A.units + 64 < cLine) : OpR X (compareOp .NotIn) (rInP X.K true) := by
  intro pins s σ H x y v u Q I rx ry h
  obtain ⟨d, ds, hd, he, dp, q⟩ := h
  obtain ⟨as, r1⟩ := Dp.reads I d x v hd.dp rx
  rcases he with he | he
  · obtain ⟨bs, r2⟩ := Dp.reads I _ y u he.dp ry
    exact PySem.SeqAt.notIn_list_data r2 r1 he.plain hd.plain (by omega) ⟨.bl _, H, I, rfl, q⟩
  · obtain ⟨bs, r2⟩ := Dp.reads I _ y u he.dp ry
    exact PySem.SeqAt.notIn_tuple_data r2 r1 he.plain hd.plain (by omega) ⟨.bl _, H, I, rfl, q⟩
theorem op_gin (hu : X.A.units + 64 < cLine) : OpR X (compareOp .In) (gIn X.K false) := (op_inP hu).or op_in_sign
theorem op_gnotin (hu : X.A.units + 64 < cLine) : OpR X (compareOp .NotIn) (gIn X.K true) := (op_notInP hu).or op_notIn_sign
def gIsN : R2 := fun x y H Q => y = .non ∧ Q (.bl (decide (x = .non))) H
def gNotN : R2 := fun x y H Q => y = .non ∧ Q (.bl (!decide (x = .non))) H
def gLen (K : PySem.W.Frag) : List V → Hp → VK → Prop := fun xs H Q => ∃ x n, xs = [x] ∧ LenV K x H n ∧ Q (.int (n : Nat)) H
def gFind3 : V → List V → Hp → VK → Prop := fun x xs H Q => ∃ (a b : Str) (i : Int), x = .str a ∧ xs = [.str b, .int i] ∧ Q (.int (Txt.find3 a b i)) H
def gJoin (K : PySem.W.Frag) : V → List V → Hp → VK → Prop := fun x xs H Q => ∃ a p, ∃ ys : List Str, x = .str a ∧ xs = [.ref p] ∧ (SqL K H p (ys.map V.str) ∨ SqT K H p (ys.map V.str)) ∧
    (ys.map (·.length)).sum + ys.length * a.length ≤ 16777216 ∧ Q (.str (Txt.join a ys)) H
def gList (K : PySem.W.Frag) : List V → Hp → VK → Prop := fun xs H Q => ∃ p ys, xs = [.ref p] ∧ (SqL K H p ys ∨ SqT K H p ys) ∧ ∀ l, H l = none → Q (.ref l) (upd H l (.lst ys))
def gTuple (K : PySem.W.Frag) : List V → Hp → VK → Prop := fun xs H Q => ∃ p ys, xs = [.ref p] ∧ ((SqL K H p ys ∧ ∀ l, H l = none → Q (.ref l) (upd H l (.tup ys))) ∨ (SqT K H p ys ∧ Q (.ref p) H))
/-- what stands behind a part of a reading -/
def kBl (x : V) (H : Hp) (Qb : Bool → Hp → Prop) : Prop := ∃ b, x = .bl b ∧ Qb b H
def kTup (xs : List V) (H1 : Hp) (Q : VK) : Prop := xs.length ≤ sizeLine ∧ ∀ p, H1 p = none → Q (.ref p) (upd H1 p (.tup xs))
def kLst (xs : List V) (H1 : Hp) (Q : VK) : Prop := xs.length ≤ sizeLine ∧ ∀ p, H1 p = none → Q (.ref p) (upd H1 p (.lst xs))
def kPart (x : V) (H1 : Hp) (Q : Option Int → Hp → Prop) : Prop := ∃ i, x = .int i ∧ Q (some i) H1
end
section
variable {K : PySem.W.Frag} {D0 : Hp} {R : Res} {l : List (V × PyData)} {σ : St} {D : Ends} {Q : VK}

/-! ### statements -/
theorem d_seq {t u : TS} (k : RD K D0 R l (fun H => t { D with nx := u D } σ H)) : RD K D0 R l (fun H => tSeq t u D σ H) := k
theorem d_next (k : RD K D0 R l (fun H => D.nx σ H)) : RD K D0 R l (fun H => tNext D σ H) := k
theorem d_asg {te : TE} {g : TG} (k : RD K D0 R l (fun H => te σ H fun x H1 => g x σ H1 D.nx)) : RD K D0 R l (fun H => tAsg te g D σ H) := k
theorem d_name {i : Nat} {v : V} {σ' : St} {Qn : St → Hp → Prop} (e : σ.set i (some v) = σ') (k : RD K D0 R l (Qn σ')) : RD K D0 R l (fun H => gName i v σ H Qn) := by subst e; exact k
theorem d_ret {te : TE} (k : RD K D0 R l (fun H => te σ H D.rt)) : RD K D0 R l (fun H => tRet te D σ H) := k
theorem d_retN (k : RD K D0 R l (D.rt .non)) : RD K D0 R l (fun H => tRetN D σ H) := k
theorem d_drop {te : TE} (k : RD K D0 R l (fun H => te σ H fun _ H1 => D.nx σ H1)) : RD K D0 R l (fun H => tDrop te D σ H) := k
theorem d_ifS {c : TT} {t u : TS} (k : RD K D0 R l (fun H => c σ H fun b H1 => if b = true then t D σ H1 else u D σ H1)) : RD K D0 R l (fun H => tIfS c t u D σ H) := k
theorem d_break (k : RD K D0 R l (fun H => D.bk σ H)) : RD K D0 R l (fun H => tBreak D σ H) := k
theorem d_cont (k : RD K D0 R l (fun H => D.ct σ H)) : RD K D0 R l (fun H => tCont D σ H) := k

/-! ### tests -/
theorem d_ite {b : Bool} {T1 T2 : Hp → Prop} (h1 : b = true → RD K D0 R l T1) (h2 : b = false → RD K D0 R l T2) : RD K D0 R l (fun H => if b = true then T1 H else T2 H) := by
  intro N H A
  cases b with
  | true => exact iteT (h1 rfl N H A)
  | false => exact iteF (h2 rfl N H A)
theorem d_iteP {p : Prop} [Decidable p] {T1 T2 : Hp → Prop} (h1 : p → RD K D0 R l T1) (h2 : ¬ p → RD K D0 R l T2) : RD K D0 R l (fun H => if decide p = true then T1 H else T2 H) :=
  d_ite (fun e => h1 (of_decide_eq_true e)) (fun e => h2 (of_decide_eq_false e))
theorem d_iteT {T1 T2 : Hp → Prop} (h : RD K D0 R l T1) : RD K D0 R l (fun H => if true = true then T1 H else T2 H) := fun N H A => iteT (h N H A)
theorem d_iteF {T1 T2 : Hp → Prop} (h : RD K D0 R l T2) : RD K D0 R l (fun H => if false = true then T1 H else T2 H) := fun N H A => iteF (h N H A)
theorem d_iteNT {T1 T2 : Hp → Prop} (h : RD K D0 R l T2) : RD K D0 R l (fun H => if (!true) = true then T1 H else T2 H) := fun N H A => iteF (h N H A)
theorem d_iteNF {T1 T2 : Hp → Prop} (h : RD K D0 R l T1) : RD K D0 R l (fun H => if (!false) = true then T1 H else T2 H) := fun N H A => iteT (h N H A)
theorem d_iteY {b : Bool} {T1 T2 : Hp → Prop} (e : b = true) (h : RD K D0 R l T1) : RD K D0 R l (fun H => if b = true then T1 H else T2 H) := by subst e; exact d_iteT h
theorem d_iteN {b : Bool} {T1 T2 : Hp → Prop} (e : b = false) (h : RD K D0 R l T2) : RD K D0 R l (fun H => if b = true then T1 H else T2 H) := by subst e; exact d_iteF h
theorem d_test {t : TE} {Qb : Bool → Hp → Prop} (k : RD K D0 R l (fun H => t σ H fun x H' => kBl x H' Qb)) : RD K D0 R l (fun H => tTest t σ H Qb) := k
theorem d_tB {t : TE} {Qb : Bool → Hp → Prop} (k : RD K D0 R l (fun H => t σ H fun x H' => kBl x H' Qb)) : RD K D0 R l (fun H => tB t σ H Qb) := k
theorem d_bl {b : Bool} {Qb : Bool → Hp → Prop} (k : RD K D0 R l (Qb b)) : RD K D0 R l (fun H => kBl (.bl b) H Qb) := fun N H A => ⟨b, rfl, k N H A⟩

/-! ### names, constants, operators -/
theorem d_var {i : Nat} {v : V} (h : σ[i]? = some (some v)) (k : RD K D0 R l (Q v)) : RD K D0 R l (fun H => tVar i σ H Q) := fun N H A => ⟨v, h, k N H A⟩
theorem d_C {v : V} (k : RD K D0 R l (Q v)) : RD K D0 R l (fun H => tC v σ H Q) := k
theorem d_op {r : R2} {ta tb : TE} (k : RD K D0 R l (fun H => ta σ H fun x H1 => tb σ H1 fun y H2 => r x y H2 Q)) : RD K D0 R l (fun H => tOp r ta tb σ H Q) := k
theorem d_nil {Q : List V → Hp → Prop} (k : RD K D0 R l (Q [])) : RD K D0 R l (fun H => tNil σ H Q) := k
theorem d_cons {ta : TE} {tr : TA} {Q : List V → Hp → Prop} (k : RD K D0 R l (fun H => ta σ H fun x H1 => tr σ H1 fun xs H2 => Q (x :: xs) H2)) : RD K D0 R l (fun H => tCons ta tr σ H Q) := k
theorem d_cb {r : List V → Hp → VK → Prop} {t : TA} (k : RD K D0 R l (fun H => t σ H fun vs H1 => r vs H1 Q)) : RD K D0 R l (fun H => tCB r t σ H Q) := k
theorem d_g {sp : Sp} {W : WX} {t : TA} (k : RD K D0 R l (fun H => t σ H fun vs H1 => sp vs H1 Q (WE W σ))) : RD K D0 R l (fun H => tG sp W t σ H Q) := k
theorem d_tif {c : TT} {ta tb : TE} (k : RD K D0 R l (fun H => c σ H fun b H1 => if b = true then ta σ H1 Q else tb σ H1 Q)) : RD K D0 R l (fun H => tIf c ta tb σ H Q) := k
theorem d_I0 {g : Int → Int → V} {i j : Int} (k : RD K D0 R l (Q (g i j))) : RD K D0 R l (fun H => rI0 g (.int i) (.int j) H Q) := fun N H A => ⟨i, j, rfl, rfl, k N H A⟩
theorem d_I {C : Int → Int → Prop} {g : Int → Int → V} {i j : Int} (c : C i j) (k : RD K D0 R l (Q (g i j))) : RD K D0 R l (fun H => rI C g (.int i) (.int j) H Q) := fun N H A => ⟨i, j, rfl, rfl, c, k N H A⟩
theorem d_addI {i j : Int} (k : RD K D0 R l (Q (.int (i + j)))) : RD K D0 R l (fun H => gAdd K (.int i) (.int j) H Q) := fun N H A => .inl ⟨i, j, rfl, rfl, k N H A⟩
theorem d_addS {i j : Str} (h : i.length + j.length ≤ sizeLine) (k : RD K D0 R l (Q (.str (i ++ j)))) : RD K D0 R l (fun H => gAdd K (.str i) (.str j) H Q) := fun N H A => .inr (.inl ⟨i, j, rfl, rfl, h, k N H A⟩)
theorem d_mulI {i j : Int} (c : CMul i j) (k : RD K D0 R l (Q (.int (i * j)))) : RD K D0 R l (fun H => gMul (.int i) (.int j) H Q) := fun N H A => .inl ⟨i, j, rfl, rfl, c, k N H A⟩
theorem d_isN {x : V} (k : RD K D0 R l (Q (.bl (decide (x = .non))))) : RD K D0 R l (fun H => gIsN x .non H Q) := fun N H A => ⟨rfl, k N H A⟩
theorem d_notN {x : V} (k : RD K D0 R l (Q (.bl (!decide (x = .non))))) : RD K D0 R l (fun H => gNotN x .non H Q) := fun N H A => ⟨rfl, k N H A⟩

/-- what a value of this data must be, where it is plain -/
def Dv (v : V) : PyData → Prop
  | .none => v = .non
  | .bool b => v = .bl b
  | .int i => v = .int i
  | .str x => v = .str x
  | .list _ => ∃ a, v = .ref a
  | .tuple _ => ∃ a, v = .ref a
  | .dict _ => True
theorem Dt.dv {H : Hp} {v : V} {d : PyData} (h : Dt K H v d) : Dv v d := by
  cases h <;> first | rfl | exact ⟨_, rfl⟩
/-- lists and tuples by data -/
theorem Dt.list {H : Hp} {v : V} {ds : List PyData} (h : Dt K H v (.list ds)) : ∃ a xs, v = .ref a ∧ H a = some (.lst xs) ∧ DtAll K H xs ds := by
  cases h with
  | lst h r => exact ⟨_, _, rfl, h, r⟩
theorem Dt.tuple {H : Hp} {v : V} {ds : List PyData} (h : Dt K H v (.tuple ds)) : ∃ a xs, v = .ref a ∧ SqT K H a xs ∧ DtAll K H xs ds := by
  cases h with
  | tup h r => exact ⟨_, _, rfl, h, r⟩

/-! ### displays -/
theorem d_tup {t : TA} (k : RD K D0 R l (fun H => t σ H fun xs H1 => kTup xs H1 Q)) : RD K D0 R l (fun H => tTup t σ H Q) := k
theorem d_lst {t : TA} (k : RD K D0 R l (fun H => t σ H fun xs H1 => kLst xs H1 Q)) : RD K D0 R l (fun H => tLst t σ H Q) := k
theorem d_newT {xs : List V} {ds : List PyData} (hl : xs.length ≤ sizeLine) (hx : InLs l xs ds) (k : ∀ v, RD K D0 R ((v, .tuple ds) :: l) (Q v)) : RD K D0 R l (fun H => kTup xs H Q) :=
  fun N H A => ⟨hl, fun p hp => by
    obtain ⟨A', e⟩ := A.new (.tup xs) hp
    exact k _ N _ (A'.facts (.tup (.inl (.inl e)) (A'.dts hx)))⟩
theorem d_newL {xs : List V} {ds : List PyData} (hl : xs.length ≤ sizeLine) (hx : InLs l xs ds) (k : ∀ v, RD K D0 R ((v, .list ds) :: l) (Q v)) : RD K D0 R l (fun H => kLst xs H Q) :=
  fun N H A => ⟨hl, fun p hp => by
    obtain ⟨A', e⟩ := A.new (.lst xs) hp
    exact k _ N _ (A'.facts (.lst e (A'.dts hx)))⟩
theorem d_newO {xs : List V} {ds : List PyData} (hl : xs.length ≤ sizeLine) (hx : InLs l xs ds) (k : ∀ a, RD K D0 (star (own K a ds) R) l (Q (.ref a))) : RD K D0 R l (fun H => kLst xs H Q) :=
  fun N H A => ⟨hl, fun p hp => k p _ _ (A.newOwn hp (A.dts hx))⟩

/-! ### ==, !=, by data -/
theorem d_eq {x y : V} {d e : PyData} (hx : InL l x d) (hy : InL l y e) (dp : d.depth ≤ 60) (k : RD K D0 R l (Q (.bl (PyData.eqv d e)))) : RD K D0 R l (fun H => gEq K x y H Q) :=
  fun N H A => ⟨d, e, A.dH hx, A.dH hy, dp, k N H A⟩
theorem d_ne {x y : V} {d e : PyData} (hx : InL l x d) (hy : InL l y e) (dp : d.depth ≤ 60) (k : RD K D0 R l (Q (.bl (!PyData.eqv d e)))) : RD K D0 R l (fun H => gNe K x y H Q) :=
  fun N H A => ⟨d, e, A.dH hx, A.dH hy, dp, k N H A⟩
theorem eqv_int {i j : Int} : PyData.eqv (.int i) (.int j) = decide (i = j) := by simp only [PyData.eqv]; exact Bool.beq_eq_decide_eq i j
theorem eqv_str {i j : Str} : PyData.eqv (.str i) (.str j) = decide (i = j) := by simp only [PyData.eqv]; exact Bool.beq_eq_decide_eq i j
theorem eqv_bool {i j : Bool} : PyData.eqv (.bool i) (.bool j) = decide (i = j) := by simp only [PyData.eqv]; exact Bool.beq_eq_decide_eq i j
theorem dep0 {n : Nat} (h : n = 0) : n ≤ 60 := by omega
theorem d_eqI {i j : Int} (k : RD K D0 R l (Q (.bl (decide (i = j))))) : RD K D0 R l (fun H => gEq K (.int i) (.int j) H Q) := d_eq (.int i) (.int j) (dep0 (by simp only [PyData.depth])) (by rw [eqv_int]; exact k)
theorem d_neI {i j : Int} (k : RD K D0 R l (Q (.bl (!decide (i = j))))) : RD K D0 R l (fun H => gNe K (.int i) (.int j) H Q) := d_ne (.int i) (.int j) (dep0 (by simp only [PyData.depth])) (by rw [eqv_int]; exact k)
theorem d_eqS {i j : Str} (k : RD K D0 R l (Q (.bl (decide (i = j))))) : RD K D0 R l (fun H => gEq K (.str i) (.str j) H Q) := d_eq (.str i) (.str j) (dep0 (by simp only [PyData.depth])) (by rw [eqv_str]; exact k)
theorem d_neS {i j : Str} (k : RD K D0 R l (Q (.bl (!decide (i = j))))) : RD K D0 R l (fun H => gNe K (.str i) (.str j) H Q) := d_ne (.str i) (.str j) (dep0 (by simp only [PyData.depth])) (by rw [eqv_str]; exact k)
theorem d_eqB {i j : Bool} (k : RD K D0 R l (Q (.bl (decide (i = j))))) : RD K D0 R l (fun H => gEq K (.bl i) (.bl j) H Q) := d_eq (.bl i) (.bl j) (dep0 (by simp only [PyData.depth])) (by rw [eqv_bool]; exact k)
theorem d_neB {i j : Bool} (k : RD K D0 R l (Q (.bl (!decide (i = j))))) : RD K D0 R l (fun H => gNe K (.bl i) (.bl j) H Q) := d_ne (.bl i) (.bl j) (dep0 (by simp only [PyData.depth])) (by rw [eqv_bool]; exact k)
/-! ### in, not in -/
theorem d_inL {x y : V} {d : PyData} {ds : List PyData} (hx : InL l x d) (hy : InL l y (.list ds)) (dp : d.depth ≤ 60) (k : RD K D0 R l (Q (.bl (ds.any fun e => PyData.eqv e d)))) : RD K D0 R l (fun H => gIn K false x y H Q) :=
  fun N H A => .inl ⟨d, ds, A.dH hx, .inl (A.dH hy), dp, k N H A⟩
theorem d_inT {x y : V} {d : PyData} {ds : List PyData} (hx : InL l x d) (hy : InL l y (.tuple ds)) (dp : d.depth ≤ 60) (k : RD K D0 R l (Q (.bl (ds.any fun e => PyData.eqv e d)))) : RD K D0 R l (fun H => gIn K false x y H Q) :=
  fun N H A => .inl ⟨d, ds, A.dH hx, .inr (A.dH hy), dp, k N H A⟩
theorem d_notInL {x y : V} {d : PyData} {ds : List PyData} (hx : InL l x d) (hy : InL l y (.list ds)) (dp : d.depth ≤ 60) (k : RD K D0 R l (Q (.bl (!ds.any fun e => PyData.eqv e d)))) : RD K D0 R l (fun H => gIn K true x y H Q) :=
  fun N H A => .inl ⟨d, ds, A.dH hx, .inl (A.dH hy), dp, k N H A⟩
theorem d_notInT {x y : V} {d : PyData} {ds : List PyData} (hx : InL l x d) (hy : InL l y (.tuple ds)) (dp : d.depth ≤ 60) (k : RD K D0 R l (Q (.bl (!ds.any fun e => PyData.eqv e d)))) : RD K D0 R l (fun H => gIn K true x y H Q) :=
  fun N H A => .inl ⟨d, ds, A.dH hx, .inr (A.dH hy), dp, k N H A⟩
theorem d_inSg {c : Nat} {z : Str} (k : RD K D0 R l (Q (.bl (decide (c ∈ z.cps.toList))))) : RD K D0 R l (fun H => gIn K false (.str ⟨#[c]⟩) (.str z) H Q) := fun N H A => .inr ⟨c, z, rfl, rfl, k N H A⟩
theorem d_notInSg {c : Nat} {z : Str} (k : RD K D0 R l (Q (.bl (!decide (c ∈ z.cps.toList))))) : RD K D0 R l (fun H => gIn K true (.str ⟨#[c]⟩) (.str z) H Q) := fun N H A => .inr ⟨c, z, rfl, rfl, k N H A⟩

/-! ### subscripts, slices, len -/
theorem DtAll.atI {H : Hp} {vs : List V} {ds : List PyData} (h : DtAll K H vs ds) {i : Int} {d : PyData} (e : atI ds i = some d) : ∃ v, atI vs i = some v ∧ Dt K H v d := by
  unfold L2.atI at e ⊢
  rw [h.len]
  cases q : ixN ds.length i with
  | none => rw [q] at e; cases e
  | some j =>
    rw [q] at e
    exact h.at (show ds[j]? = some d from e)
theorem d_ixL {x : V} {i : Int} {ds : List PyData} {d : PyData} (hx : InL l x (.list ds)) (hi : atI ds i = some d) (k : ∀ v, Dv v d → RD K D0 R ((v, d) :: l) (Q v)) : RD K D0 R l (fun H => rIx K x (.int i) H Q) := fun N H A => by
  obtain ⟨a, xs, rfl, ha, hd⟩ := (A.dt hx).list
  obtain ⟨v, hv, dv⟩ := hd.atI hi
  exact .inl ⟨a, xs, i, v, rfl, rfl, SqL.of (off_same a _ ha), hv, k v dv.dv N H (A.facts dv)⟩
theorem d_ixT {x : V} {i : Int} {ds : List PyData} {d : PyData} (hx : InL l x (.tuple ds)) (hi : atI ds i = some d) (k : ∀ v, Dv v d → RD K D0 R ((v, d) :: l) (Q v)) : RD K D0 R l (fun H => rIx K x (.int i) H Q) := fun N H A => by
  obtain ⟨a, xs, rfl, ha, hd⟩ := (A.dt hx).tuple
  obtain ⟨v, hv, dv⟩ := hd.atI hi
  exact .inr (.inl ⟨a, xs, i, v, rfl, rfl, same_sqT off_same ha, hv, k v dv.dv N H (A.facts dv)⟩)
theorem d_ixS {z : Str} {i : Int} {c : Nat} (hz : z.length ≤ sizeLine) (hi : atI z.cps.toList i = some c) (k : RD K D0 R l (Q (.str ⟨#[c]⟩))) : RD K D0 R l (fun H => rIx K (.str z) (.int i) H Q) := fun N H A =>
  .inr (.inr ⟨z, i, c, rfl, rfl, hz, hi, k N H A⟩)
def gSl (K : PySem.W.Frag) : V → Option Int → Option Int → Hp → VK → Prop := fun x lo hi H Q => rSlL K x lo hi H Q ∨ rSlS x lo hi H Q ∨ rSlT K x lo hi H Q
theorem d_noPart {Q : Option Int → Hp → Prop} (k : RD K D0 R l (Q none)) : RD K D0 R l (fun H => tNoPart σ H Q) := k
theorem d_part {t : TE} {Q : Option Int → Hp → Prop} (k : RD K D0 R l (fun H => t σ H fun x H1 => kPart x H1 Q)) : RD K D0 R l (fun H => tPart t σ H Q) := k
theorem d_int {i : Int} {Q : Option Int → Hp → Prop} (k : RD K D0 R l (Q (some i))) : RD K D0 R l (fun H => kPart (.int i) H Q) := fun N H A => ⟨i, rfl, k N H A⟩
theorem d_tSl {r : V → Option Int → Option Int → Hp → VK → Prop} {te : TE} {tl th : TO} (k : RD K D0 R l (fun H => te σ H fun x H1 => tl σ H1 fun a H2 => th σ H2 fun b H3 => r x a b H3 Q)) : RD K D0 R l (fun H => tSl r te tl th σ H Q) := k
theorem d_slS {z : Str} {lo hi : Option Int} (hz : z.length ≤ sizeLine) (k : RD K D0 R l (Q (.str (cutS z lo hi)))) : RD K D0 R l (fun H => gSl K (.str z) lo hi H Q) := fun N H A => .inr (.inl ⟨z, rfl, hz, k N H A⟩)
def cutD (xs : List PyData) (lo hi : Option Int) : List PyData := (xs.drop (HT.sIx xs.length 0 lo)).take (HT.sIx xs.length xs.length hi - HT.sIx xs.length 0 lo)
theorem d_slL {x : V} {ds : List PyData} {lo hi : Option Int} (hx : InL l x (.list ds)) (k : ∀ v, RD K D0 R ((v, .list (cutD ds lo hi)) :: l) (Q v)) : RD K D0 R l (fun H => gSl K x lo hi H Q) := fun N H A => by
  obtain ⟨a, xs, rfl, ha, hd⟩ := (A.dt hx).list
  refine .inl ⟨a, xs, rfl, SqL.of (off_same a _ ha), fun p hp => ?_⟩
  obtain ⟨A', e⟩ := A.new (.lst (cutV xs lo hi)) hp
  obtain ⟨a', xs', ea, ha', hd'⟩ := (A'.dt hx).list
  have z : xs' = xs := by
    cases ea
    have z1 := off_same a _ ha'
    have z2 := off_same a _ ha
    rw [upd_ne (ne_of_none z2 hp), z2] at z1
    cases z1
    rfl
  subst z
  refine k _ N _ (A'.facts (.lst e ?_))
  have z2 : cutD ds lo hi = (ds.drop (HT.sIx xs'.length 0 lo)).take (HT.sIx xs'.length xs'.length hi - HT.sIx xs'.length 0 lo) := by unfold cutD; rw [hd.len]
  rw [z2]
  exact (hd'.drop _).take _
theorem d_lenL {x : V} {ds : List PyData} (hx : InL l x (.list ds)) (k : RD K D0 R l (Q (.int ds.length))) : RD K D0 R l (fun H => gLen K [x] H Q) := fun N H A => by
  obtain ⟨a, xs, rfl, ha, hd⟩ := (A.dt hx).list
  exact ⟨_, _, rfl, .inl ⟨xs, SqL.of (off_same a _ ha), hd.len.symm⟩, k N H A⟩
theorem d_lenT {x : V} {ds : List PyData} (hx : InL l x (.tuple ds)) (k : RD K D0 R l (Q (.int ds.length))) : RD K D0 R l (fun H => gLen K [x] H Q) := fun N H A => by
  obtain ⟨a, xs, rfl, ha, hd⟩ := (A.dt hx).tuple
  exact ⟨_, _, rfl, .inr ⟨xs, same_sqT off_same ha, hd.len.symm⟩, k N H A⟩
theorem d_lenS {z : Str} (hz : z.length ≤ sizeLine) (k : RD K D0 R l (Q (.int z.length))) : RD K D0 R l (fun H => gLen K [.str z] H Q) := fun N H A => ⟨_, _, rfl, ⟨hz, rfl⟩, k N H A⟩

/-! ### loops -/
/-- where a loop's turn is to end -/
def Cont (K : PySem.W.Frag) (D0 : Hp) (P : Res → St → List (V × PyData) → Prop) : St → Hp → Prop := fun σ H => ∃ R l N, P R σ l ∧ At K D0 R l N H
theorem d_end {P : Res → St → List (V × PyData) → Prop} {l' : List (V × PyData)} (h : P R σ l') (s : ∀ p ∈ l', InL l p.1 p.2) : RD K D0 R l (Cont K D0 P σ) := fun N H A => ⟨R, l', N, h, A.weak s⟩
def ForK (g : TG) (tb : TS) (D : Ends) (σ : St) (J : It) (H1 : Hp) : Prop := ∃ W : Nat → Nat → St → Hp → Prop, (∃ m, W 0 m σ H1) ∧ ∀ i m σ H, W i m σ H →
    (J.stop i H ∧ D.nx σ H) ∨ (J.go i H ∧ ∃ N : St → Hp → Prop, (∀ σ' H', N σ' H' → ∃ m', m' < m ∧ W (i + 1) m' σ' H') ∧ ∀ x H', J.yld i H x H' → g x σ H' fun σ2 H2 => tb { D with nx := N, ct := N, bk := D.nx } σ2 H2)
theorem d_for {wi : TI} {g : TG} {tb : TS} (k : RD K D0 R l (fun H => wi σ H fun J H1 => ForK g tb D σ J H1)) :
    RD K D0 R l (fun H => tFor wi g tb D σ H) := k
def kRng1 (vs : List V) (H1 : Hp) (Ri : It → Hp → Prop) : Prop := ∃ j : Int, vs = [.int j] ∧ -(2 ^ 62) ≤ j ∧ j < 2 ^ 62 ∧ Ri (Itr 0 j.toNat) H1
theorem d_iRng1 {ta : TA} {Ri : It → Hp → Prop} (k : RD K D0 R l (fun H => ta σ H fun vs H1 => kRng1 vs H1 Ri)) : RD K D0 R l (fun H => iRng1 ta σ H Ri) := k
theorem d_rng1 {j : Int} {Ri : It → Hp → Prop} (h1 : -(2 ^ 62) ≤ j) (h2 : j < 2 ^ 62) (k : RD K D0 R l (Ri (Itr 0 j.toNat))) : RD K D0 R l (fun H => kRng1 [.int j] H Ri) := fun N H A => ⟨j, rfl, h1, h2, k N H A⟩
theorem d_forRange {g : TG} {tb : TS} {lo : Int} {n : Nat} (P : Nat → Res → St → List (V × PyData) → Prop) (h0 : P 0 R σ l)
    (hs : ∀ i R' σ' l', i < n → P i R' σ' l' → RD K D0 R' l' (fun H => g (.int (lo + i)) σ' H fun σ2 H2 => tb { D with nx := Cont K D0 (P (i + 1)), ct := Cont K D0 (P (i + 1)), bk := D.nx } σ2 H2))
    (hd : ∀ R' σ' l', P n R' σ' l' → RD K D0 R' l' (fun H => D.nx σ' H)) :
    RD K D0 R l (fun H => ForK g tb D σ (Itr lo n) H) := fun N H A => by
  refine for_range (fun i => Cont K D0 (P i)) ⟨R, l, N, h0, A⟩ ?_ ?_
  · rintro i σ' H' hi ⟨R', l', N', p, A'⟩
    exact hs i R' σ' l' hi p N' H' A'
  · rintro σ' H' ⟨R', l', N', p, A'⟩
    exact hd R' σ' l' p N' H' A'
end
theorem call_glist {X : Cx} : CallR X (.type "list") (gList X.K) := call_list_of
theorem call_gtuple {X : Cx} : CallR X (.type "tuple") (gTuple X.K) := call_tuple_of
end GL

/-! G4: further readings, the pen. -/
namespace GL
open PySem PySem.Spec L2
abbrev W0 : WX := fun _ _ _ _ => False
abbrev gSub' : R2 := rI0 fun i j => .int (i - j)
abbrev gFdiv : R2 := rI CDiv fun i j => .int (i / j)
abbrev gMod : R2 := rI (fun _ j => 0 < j) fun i j => .int (i % j)
abbrev gPow : R2 := rI CPow fun i j => .int (i ^ j.toNat)
abbrev gLt : R2 := rI0 fun i j => .bl (decide (i < j))
abbrev gLe : R2 := rI0 fun i j => .bl (decide (i ≤ j))
abbrev gGt : R2 := rI0 fun i j => .bl (decide (j < i))
abbrev gGe : R2 := rI0 fun i j => .bl (decide (j ≤ i))
abbrev gNeg : V → Hp → VK → Prop := rU fun i => .int (-i)
/-- a test by truth -/
def tTru (K : PySem.W.Frag) (t : TE) : TT := fun σ H Q => t σ H fun x H1 => ∃ k, TruV K x H1 k ∧ Q k H1
/-- what is walked: a list, a tuple, a text -/
def wIt (K : PySem.W.Frag) (v : V) (H : Hp) (R : It → Hp → Prop) : Prop :=
  (∃ a, v = .ref a ∧ (∃ xs, SqL K H a xs) ∧ R (Itl K a) H) ∨ (∃ a, v = .ref a ∧ (∃ xs, SqT K H a xs) ∧ R (Itt K a) H) ∨ ∃ x, v = .str x ∧ R (Its x) H
def gIt (K : PySem.W.Frag) (t : TE) : TI := fun σ H R => t σ H fun v H1 => wIt K v H1 R
section
variable {X : Cx} {tg e : Expr} {te : TE}
theorem sl_g : SlR X (gSl X.K) := sl_list.or (sl_str.or sl_tup)
theorem pi_g (h : PE X e te) : PI X tg e (gIt X.K te) := by
  constructor
  intro pins s σ H R I q
  apply thn (h.run pins s σ H _ I q)
  rintro v s1 ⟨x, H1, I1, r1, ⟨a, rfl, ⟨xs, hq⟩, z⟩ | ⟨a, rfl, ⟨xs, hq⟩, z⟩ | ⟨x, rfl, z⟩⟩
  · cases r1
    obtain ⟨its, rv, p, _⟩ := I1.list hq
    have z0 : s1.heap.objs.size ≤ s1.heap.objs.size := Nat.le_refl _
    apply wpAny_pyIter_list p.isList
    refine ⟨s1.heap.objs.size, [s1.heap.objs.size], _, _, H1, rfl, I1.kept (t' := s1.toks) (fun b o q => Heap.get?_push_of_some _ q), turn_list a _, ⟨_, Heap.get?_push_size _ rfl, rfl, rfl⟩, ?_, z⟩
    intro b hb
    obtain rfl := List.mem_singleton.mp hb
    exact I1.fpOk z0 (I1.hok.fresh z0)
  · cases r1
    obtain ⟨its, rv, p, _⟩ := I1.tuple hq
    have z0 : s1.heap.objs.size ≤ s1.heap.objs.size := Nat.le_refl _
    apply wpAny_pyIter_tuple (show s1.heap.IsTuple a its.toArray from p)
    refine ⟨s1.heap.objs.size, [s1.heap.objs.size], _, _, H1, rfl, I1.kept (t' := s1.toks) (fun b o q => Heap.get?_push_of_some _ q), turn_tuple a _, ⟨_, Heap.get?_push_size _ rfl, rfl, rfl⟩, ?_, z⟩
    intro b hb
    obtain rfl := List.mem_singleton.mp hb
    exact I1.fpOk z0 (I1.hok.fresh z0)
  · obtain ⟨t, rfl⟩ := r1
    cases ha : x.cps.all (· < 128) with
    | false => exact wpAny_pyIter_wide ha (pi_one (tk := s1.toks) I1 _ (turn_str _ x t "str_iterator" (.inr rfl)) ⟨_, Heap.get?_push_size _ rfl, rfl, rfl⟩ z)
    | true => exact wpAny_pyIter_ascii ha (pi_one (tk := s1.toks) I1 _ (turn_str _ x t "str_ascii_iterator" (.inl rfl)) ⟨_, Heap.get?_push_size _ rfl, rfl, rfl⟩ z)
theorem pt_g (h : PE X e te) (he : ∀ whole, isTrue e X.env whole = (do let v ← whole; standAt e.pos; holding [v] (truthy v)) := by intro _; rfl) : PT X e (tTru X.K te) := pt_truth h he
end
section
variable {K : PySem.W.Frag} {D0 : Hp} {R : Res} {l : List (V × PyData)} {σ : St} {D : Ends} {Q : VK}
def kTru (K : PySem.W.Frag) (x : V) (H1 : Hp) (Qb : Bool → Hp → Prop) : Prop := ∃ c, TruV K x H1 c ∧ Qb c H1
def kTy (K : PySem.W.Frag) (T : String) (x : V) (H1 : Hp) (T' : Hp → Prop) : Prop := tyV K T x H1 ∧ T' H1
theorem d_and {t u : TT} {Qb : Bool → Hp → Prop} (k : RD K D0 R l (fun H => t σ H fun c H1 => if c = true then u σ H1 Qb else Qb false H1)) : RD K D0 R l (fun H => tAnd t u σ H Qb) := k
theorem d_or {t u : TT} {Qb : Bool → Hp → Prop} (k : RD K D0 R l (fun H => t σ H fun c H1 => if c = true then Qb true H1 else u σ H1 Qb)) : RD K D0 R l (fun H => tOr t u σ H Qb) := k
theorem d_not {t : TT} {Qb : Bool → Hp → Prop} (k : RD K D0 R l (fun H => t σ H fun c H1 => Qb (!c) H1)) : RD K D0 R l (fun H => tNot t σ H Qb) := k
theorem d_andV {t u : TE} (k : RD K D0 R l (fun H => t σ H fun x H1 => kBl x H1 fun c H2 => if c = true then u σ H2 Q else Q (.bl false) H2)) : RD K D0 R l (fun H => tAndV t u σ H Q) := k
theorem d_orV {t u : TE} (k : RD K D0 R l (fun H => t σ H fun x H1 => kBl x H1 fun c H2 => if c = true then Q (.bl true) H2 else u σ H2 Q)) : RD K D0 R l (fun H => tOrV t u σ H Q) := k
theorem d_notV {t : TE} (k : RD K D0 R l (fun H => t σ H fun x H1 => kBl x H1 fun c H2 => Q (.bl (!c)) H2)) : RD K D0 R l (fun H => tNotV t σ H Q) := k
theorem d_tru {t : TE} {Qb : Bool → Hp → Prop} (k : RD K D0 R l (fun H => t σ H fun x H1 => kTru K x H1 Qb)) : RD K D0 R l (fun H => tTru K t σ H Qb) := k
theorem d_truB {b : Bool} {Qb : Bool → Hp → Prop} (k : RD K D0 R l (Qb b)) : RD K D0 R l (fun H => kTru K (.bl b) H Qb) := fun N H A => ⟨b, rfl, k N H A⟩
theorem d_truL {x : V} {ds : List PyData} {Qb : Bool → Hp → Prop} (hx : InL l x (.list ds)) (k : RD K D0 R l (Qb (!ds.isEmpty))) : RD K D0 R l (fun H => kTru K x H Qb) := fun N H A => by
  obtain ⟨a, xs, rfl, ha, hd⟩ := (A.dt hx).list
  refine ⟨_, .inl ⟨xs, SqL.of (off_same a _ ha), ?_⟩, k N H A⟩
  cases hd <;> rfl
theorem d_bm {T : String} {r : V → List V → Hp → VK → Prop} {to : TE} {t : TA} (k : RD K D0 R l (fun H => to σ H fun x H1 => kTy K T x H1 fun H2 => t σ H2 fun xs H3 => r x xs H3 Q)) : RD K D0 R l (fun H => tBM K T r to t σ H Q) := k
theorem d_tyS {x : Str} {T' : Hp → Prop} (k : RD K D0 R l T') : RD K D0 R l (fun H => kTy K "str" (.str x) H T') := fun N H A => ⟨rfl, k N H A⟩
theorem d_tyO {a : Addr} {ds : List PyData} {T' : Hp → Prop} (k : RD K D0 (star (own K a ds) R) l T') : RD K D0 (star (own K a ds) R) l (fun H => kTy K "list" (.ref a) H T') := fun N H A => by
  obtain ⟨xs, hx, _⟩ := A.ownAt
  exact ⟨.inl ⟨rfl, xs, SqL.of hx⟩, k N H A⟩
theorem d_append {a : Addr} {ds : List PyData} {y : V} {d : PyData} (hy : InL l y d) (hz : ds.length < sizeLine) (k : RD K D0 (star (own K a (ds ++ [d])) R) l (Q .non)) : RD K D0 (star (own K a ds) R) l (fun H => rAppend (.ref a) [y] H Q) := fun N H A => by
  obtain ⟨xs, hx, hd⟩ := A.ownAt
  exact ⟨a, xs, y, rfl, rfl, hx, by rw [hd.len]; exact hz, k _ _ (A.setOwn (hd.append (.cons (A.dt hy) .nil)))⟩
theorem d_find3 {a b : Str} {i : Int} (k : RD K D0 R l (Q (.int (Txt.find3 a b i)))) : RD K D0 R l (fun H => gFind3 (.str a) [.str b, .int i] H Q) := fun N H A => ⟨a, b, i, rfl, rfl, k N H A⟩
theorem d_joinL {a : Str} {x : V} {ys : List Str} (hx : InL l x (.list (ys.map .str))) (hz : (ys.map (·.length)).sum + ys.length * a.length ≤ 16777216) (k : RD K D0 R l (Q (.str (Txt.join a ys)))) : RD K D0 R l (fun H => gJoin K (.str a) [x] H Q) := fun N H A => by
  obtain ⟨p, xs, rfl, ha, hd⟩ := (A.dt hx).list
  have e := hd.strs
  subst e
  exact ⟨a, p, ys, rfl, rfl, .inl (SqL.of (off_same p _ ha)), hz, k N H A⟩
/-- tuple(xs) of a list that may change, of a list, of a tuple -/
theorem d_tupleO {a : Addr} {ds : List PyData} (k : ∀ v, RD K D0 (star (own K a ds) R) ((v, .tuple ds) :: l) (Q v)) : RD K D0 (star (own K a ds) R) l (fun H => gTuple K [.ref a] H Q) := fun N H A => by
  obtain ⟨xs, hx, hd⟩ := A.ownAt
  refine ⟨a, xs, rfl, .inl ⟨SqL.of hx, fun p hp => ?_⟩⟩
  obtain ⟨A', e⟩ := A.new (.tup xs) hp
  obtain ⟨xs', hx', hd'⟩ := A'.ownAt
  rw [upd_ne (ne_of_none hx hp), hx] at hx'
  cases hx'
  exact k _ N _ (A'.facts (.tup (.inl (.inl e)) hd'))
theorem d_tupleL {x : V} {ds : List PyData} (hx : InL l x (.list ds)) (k : ∀ v, RD K D0 R ((v, .tuple ds) :: l) (Q v)) : RD K D0 R l (fun H => gTuple K [x] H Q) := fun N H A => by
  obtain ⟨a, xs, rfl, ha, hd⟩ := (A.dt hx).list
  have ha' := off_same a _ ha
  refine ⟨a, xs, rfl, .inl ⟨SqL.of ha', fun p hp => ?_⟩⟩
  obtain ⟨A', e⟩ := A.new (.tup xs) hp
  obtain ⟨a', xs', ea, hx', hd'⟩ := (A'.dt hx).list
  cases ea
  have z := off_same a _ hx'
  rw [upd_ne (ne_of_none ha' hp), ha'] at z
  cases z
  exact k _ N _ (A'.facts (.tup (.inl (.inl e)) hd'))

/-! ### walks -/
theorem d_gIt {t : TE} {Ri : It → Hp → Prop} (k : RD K D0 R l (fun H => t σ H fun v H1 => wIt K v H1 Ri)) : RD K D0 R l (fun H => gIt K t σ H Ri) := k
theorem d_forStr {g : TG} {tb : TS} {x : Str} (P : Nat → Res → St → List (V × PyData) → Prop) (h0 : P 0 R σ l)
    (hs : ∀ i c R' σ' l', x.cps.toList[i]? = some c → P i R' σ' l' → RD K D0 R' l' (fun H => g (.str ⟨#[c]⟩) σ' H fun σ2 H2 => tb { D with nx := Cont K D0 (P (i + 1)), ct := Cont K D0 (P (i + 1)), bk := D.nx } σ2 H2))
    (hd : ∀ R' σ' l', P x.cps.toList.length R' σ' l' → RD K D0 R' l' (fun H => D.nx σ' H)) :
    RD K D0 R l (fun H => wIt K (.str x) H fun J H1 => ForK g tb D σ J H1) := fun N H A => by
  refine .inr (.inr ⟨x, rfl, fun i m σ H => m = x.cps.size - i ∧ i ≤ x.cps.size ∧ Cont K D0 (P i) σ H, ⟨_, rfl, Nat.zero_le _, R, l, N, h0, A⟩, ?_⟩)
  rintro i m σ' H' ⟨rfl, hi, c⟩
  by_cases hlt : i < x.cps.size
  · refine .inr ⟨hlt, Cont K D0 (P (i + 1)), fun σ2 H2 p => ⟨x.cps.size - (i + 1), by omega, rfl, hlt, p⟩, ?_⟩
    rintro v H2 ⟨rfl, c', hc, rfl⟩
    obtain ⟨R', l', N', p, A'⟩ := c
    exact hs i c' R' σ' l' (by rw [Array.getElem?_toList]; exact hc) p N' _ A'
  · have e : i = x.cps.size := by omega
    obtain ⟨R', l', N', p, A'⟩ := c
    exact .inl ⟨(show x.cps.size ≤ i by omega), hd R' σ' l' (by rw [Array.length_toList, ← e]; exact p) N' H' A'⟩
theorem d_forList {g : TG} {tb : TS} {v : V} {ds : List PyData} (hv : InL l v (.list ds)) (P : Nat → Res → St → List (V × PyData) → Prop) (hkeep : ∀ i R' σ' l', P i R' σ' l' → InL l' v (.list ds)) (h0 : P 0 R σ l)
    (hs : ∀ i d x R' σ' l', ds[i]? = some d → Dv x d → P i R' σ' l' → RD K D0 R' ((x, d) :: l') (fun H => g x σ' H fun σ2 H2 => tb { D with nx := Cont K D0 (P (i + 1)), ct := Cont K D0 (P (i + 1)), bk := D.nx } σ2 H2))
    (hd : ∀ R' σ' l', P ds.length R' σ' l' → RD K D0 R' l' (fun H => D.nx σ' H)) :
    RD K D0 R l (fun H => wIt K v H fun J H1 => ForK g tb D σ J H1) := fun N H A => by
  obtain ⟨a, xs, rfl, ha, hd0⟩ := (A.dt hv).list
  have hl : ∀ {i R' σ' l' N' H'}, P i R' σ' l' → At K D0 R' l' N' H' → ∃ xs', SqL K H' a xs' ∧ DtAll K (off H' N') xs' ds := fun p A' => by
    obtain ⟨a', xs', e, h', d'⟩ := (A'.dt (hkeep _ _ _ _ p)).list
    cases e
    exact ⟨xs', SqL.of (off_same _ _ h'), d'⟩
  have uniq : ∀ {H' : Hp} {ys zs : List V}, SqL K H' a ys → H' a = some (.lst zs) → True := fun _ _ => trivial
  refine .inl ⟨a, rfl, ⟨xs, SqL.of (off_same _ _ ha)⟩, fun i m σ H => m = ds.length - i ∧ i ≤ ds.length ∧ Cont K D0 (P i) σ H, ⟨_, rfl, Nat.zero_le _, R, l, N, h0, A⟩, ?_⟩
  rintro i m σ' H' ⟨rfl, hi, R', l', N', p, A'⟩
  obtain ⟨xs', hq, d'⟩ := hl p A'
  by_cases hlt : i < ds.length
  · have hx : i < xs'.length := by rw [d'.len]; exact hlt
    refine .inr ⟨⟨xs', xs'[i], hq, by simp [hx]⟩, Cont K D0 (P (i + 1)), fun σ2 H2 p => ⟨ds.length - (i + 1), by omega, rfl, hlt, p⟩, ?_⟩
    rintro x H2 ⟨rfl, hy⟩
    obtain ⟨d, e1, e2⟩ := d'.get (hy xs' hq)
    exact hs i d x R' σ' l' e1 e2.dv p N' _ (A'.facts e2)
  · have e : i = ds.length := by omega
    subst e
    exact .inl ⟨⟨xs', hq, by rw [d'.len]; exact Nat.le_refl _⟩, hd R' σ' l' p N' H' A'⟩
theorem d_forTup {g : TG} {tb : TS} {v : V} {ds : List PyData} (hv : InL l v (.tuple ds)) (P : Nat → Res → St → List (V × PyData) → Prop) (hkeep : ∀ i R' σ' l', P i R' σ' l' → InL l' v (.tuple ds)) (h0 : P 0 R σ l)
    (hs : ∀ i d x R' σ' l', ds[i]? = some d → Dv x d → P i R' σ' l' → RD K D0 R' ((x, d) :: l') (fun H => g x σ' H fun σ2 H2 => tb { D with nx := Cont K D0 (P (i + 1)), ct := Cont K D0 (P (i + 1)), bk := D.nx } σ2 H2))
    (hd : ∀ R' σ' l', P ds.length R' σ' l' → RD K D0 R' l' (fun H => D.nx σ' H)) :
    RD K D0 R l (fun H => wIt K v H fun J H1 => ForK g tb D σ J H1) := fun N H A => by
  obtain ⟨a, xs, rfl, ha, hd0⟩ := (A.dt hv).tuple
  have hl : ∀ {i R' σ' l' N' H'}, P i R' σ' l' → At K D0 R' l' N' H' → ∃ xs', SqT K H' a xs' ∧ DtAll K (off H' N') xs' ds := fun p A' => by
    obtain ⟨a', xs', e, h', d'⟩ := (A'.dt (hkeep _ _ _ _ p)).tuple
    cases e
    exact ⟨xs', same_sqT off_same h', d'⟩
  refine .inr (.inl ⟨a, rfl, ⟨xs, same_sqT off_same ha⟩, fun i m σ H => m = ds.length - i ∧ i ≤ ds.length ∧ Cont K D0 (P i) σ H, ⟨_, rfl, Nat.zero_le _, R, l, N, h0, A⟩, ?_⟩)
  rintro i m σ' H' ⟨rfl, hi, R', l', N', p, A'⟩
  obtain ⟨xs', hq, d'⟩ := hl p A'
  by_cases hlt : i < ds.length
  · have hx : i < xs'.length := by rw [d'.len]; exact hlt
    refine .inr ⟨⟨xs', xs'[i], hq, by simp [hx]⟩, Cont K D0 (P (i + 1)), fun σ2 H2 p => ⟨ds.length - (i + 1), by omega, rfl, hlt, p⟩, ?_⟩
    rintro x H2 ⟨rfl, hy⟩
    obtain ⟨d, e1, e2⟩ := d'.get (hy xs' hq)
    exact hs i d x R' σ' l' e1 e2.dv p N' _ (A'.facts e2)
  · have e : i = ds.length := by omega
    subst e
    exact .inl ⟨⟨xs', hq, by rw [d'.len]; exact Nat.le_refl _⟩, hd R' σ' l' p N' H' A'⟩
/-- name += e -/
theorem d_aug {i : Nat} {v : V} {te : TE} {ti : TIp} (h : σ[i]? = some (some v)) (k : RD K D0 R l (fun H => te σ H fun y H1 => ti v y H1 fun z H2 => D.nx (σ.set i (some z)) H2)) : RD K D0 R l (fun H => tAug i te ti D σ H) := fun N H A => ⟨v, h, k N H A⟩
theorem d_ipI {f : Int → Int → Int} {i j : Int} (k : RD K D0 R l (Q (.int (f i j)))) : RD K D0 R l (fun H => ipI f (.int i) (.int j) H Q) := fun N H A => ⟨i, j, rfl, rfl, k N H A⟩
theorem d_set {i : Nat} {v : V} {σ' : St} {Qn : St → Hp → Prop} (e : σ.set i (some v) = σ') (k : RD K D0 R l (Qn σ')) : RD K D0 R l (fun H => Qn (σ.set i (some v)) H) := by subst e; exact k

/-! ### comprehensions -/
def LcK (g : TG) (tt : TT) (te : TE) (vs : List Nat) (σ : St) (Q : VK) (J : It) (H1 : Hp) : Prop := ∀ D, H1 D = none → ∃ W : Nat → Nat → Hp → Prop, (∃ m, W 0 m (upd H1 D (.lst []))) ∧ ∀ i m H, W i m H →
  (J.stop i H ∧ Q (.ref D) H) ∨ (J.go i H ∧ ∃ Nx : Hp → Prop, (∀ H', Nx H' → ∃ m', m' < m ∧ W (i + 1) m' H') ∧ ∀ x H', J.yld i H x H' → g x (wipe σ vs) H' fun σ2 H2 => wipe σ2 vs = wipe σ vs ∧ tt σ2 H2 fun b H3 =>
    if b = true then te σ2 H3 fun y H4 => ∃ acc, H4 D = some (.lst acc) ∧ acc.length < sizeLine ∧ Nx (upd H4 D (.lst (acc ++ [y]))) else Nx H3)
def kWipe (σ2 : St) (vs : List Nat) (σ : St) (H : Hp) (T : Hp → Prop) : Prop := wipe σ2 vs = wipe σ vs ∧ T H
def kItem (D : Addr) (y : V) (H4 : Hp) (Nx : Hp → Prop) : Prop := ∃ acc, H4 D = some (.lst acc) ∧ acc.length < sizeLine ∧ Nx (upd H4 D (.lst (acc ++ [y])))
/-- a turn of a comprehension; what is made so far stands at D -/
def ContC (K : PySem.W.Frag) (D0 : Hp) (D : Addr) (P : Res → List (V × PyData) → List PyData → Prop) : Hp → Prop := fun H => ∃ R l es N, P R l es ∧ At K D0 (star (own K D es) R) l N H
theorem d_lc {wi : TI} {g : TG} {tt : TT} {te : TE} {vs : List Nat} (k : RD K D0 R l (fun H => wi σ H fun J H1 => LcK g tt te vs σ Q J H1)) : RD K D0 R l (fun H => tLc wi g tt te vs σ H Q) := k
/-- the turn's new item -/
theorem d_item {D : Addr} {es : List PyData} {y : V} {d : PyData} {P : Res → List (V × PyData) → List PyData → Prop} {l' : List (V × PyData)} (hy : InL l y d) (hz : es.length < sizeLine) (h : P R l' (es ++ [d])) (s : ∀ p ∈ l', InL l p.1 p.2) :
    RD K D0 (star (own K D es) R) l (fun H => kItem D y H (ContC K D0 D P)) := fun N H A => by
  obtain ⟨xs, hx, hd⟩ := A.ownAt
  refine ⟨xs, hx, by rw [hd.len]; exact hz, R, l', es ++ [d], N, h, ?_⟩
  exact (A.setOwn (hd.append (.cons (A.dt hy) .nil))).weak s
theorem d_noItem {D : Addr} {es : List PyData} {P : Res → List (V × PyData) → List PyData → Prop} {l' : List (V × PyData)} (h : P R l' es) (s : ∀ p ∈ l', InL l p.1 p.2) : RD K D0 (star (own K D es) R) l (ContC K D0 D P) :=
  fun N H A => ⟨R, l', es, N, h, A.weak s⟩
theorem d_lcRange {lo : Int} {n : Nat} {g : TG} {tt : TT} {te : TE} {vs : List Nat} (P : Nat → Res → List (V × PyData) → List PyData → Prop) (h0 : P 0 R l [])
    (hs : ∀ i D R' l' es, i < n → P i R' l' es → RD K D0 (star (own K D es) R') l' (fun H => g (.int (lo + i)) (wipe σ vs) H fun σ2 H2 => kWipe σ2 vs σ H2 fun H2 => tt σ2 H2 fun b H3 =>
      if b = true then te σ2 H3 fun y H4 => kItem D y H4 (ContC K D0 D (P (i + 1))) else ContC K D0 D (P (i + 1)) H3))
    (hd : ∀ v R' l' es, P n R' l' es → RD K D0 R' ((v, .list es) :: l') (Q v)) :
    RD K D0 R l (fun H => LcK g tt te vs σ Q (Itr lo n) H) := fun N H A D hD => by
  refine lc_range (Qd := Q (.ref D)) (fun i => ContC K D0 D (P i)) ⟨R, l, [], _, h0, A.newOwn hD .nil⟩ ?_ ?_
  · rintro i H' hi ⟨R', l', es, N', p, A'⟩
    exact hs i D R' l' es hi p N' H' A'
  · rintro H' ⟨R', l', es, N', p, A'⟩
    obtain ⟨N2, A2⟩ := A'.freeze
    exact hd (.ref D) R' l' es p N2 H' A2
theorem d_lcStr {x : Str} {g : TG} {tt : TT} {te : TE} {vs : List Nat} (P : Nat → Res → List (V × PyData) → List PyData → Prop) (h0 : P 0 R l [])
    (hs : ∀ i c D R' l' es, x.cps.toList[i]? = some c → P i R' l' es → RD K D0 (star (own K D es) R') l' (fun H => g (.str ⟨#[c]⟩) (wipe σ vs) H fun σ2 H2 => kWipe σ2 vs σ H2 fun H2 => tt σ2 H2 fun b H3 =>
      if b = true then te σ2 H3 fun y H4 => kItem D y H4 (ContC K D0 D (P (i + 1))) else ContC K D0 D (P (i + 1)) H3))
    (hd : ∀ v R' l' es, P x.cps.toList.length R' l' es → RD K D0 R' ((v, .list es) :: l') (Q v)) :
    RD K D0 R l (fun H => wIt K (.str x) H fun J H1 => LcK g tt te vs σ Q J H1) := fun N H A => by
  refine .inr (.inr ⟨x, rfl, fun D hD => ⟨fun i m H => m = x.cps.size - i ∧ i ≤ x.cps.size ∧ ContC K D0 D (P i) H, ⟨_, rfl, Nat.zero_le _, R, l, [], _, h0, A.newOwn hD .nil⟩, ?_⟩⟩)
  rintro i m H' ⟨rfl, hi, R', l', es, N', p, A'⟩
  by_cases hlt : i < x.cps.size
  · refine .inr ⟨hlt, ContC K D0 D (P (i + 1)), fun H2 p => ⟨x.cps.size - (i + 1), by omega, rfl, hlt, p⟩, ?_⟩
    rintro v H2 ⟨rfl, c', hc, rfl⟩
    exact hs i c' D R' l' es (by rw [Array.getElem?_toList]; exact hc) p N' _ A'
  · have e : i = x.cps.size := by omega
    obtain ⟨N2, A2⟩ := A'.freeze
    exact .inl ⟨(show x.cps.size ≤ i by omega), hd (.ref D) R' l' es (by rw [Array.length_toList, ← e]; exact p) N2 H' A2⟩
theorem d_wipe {σ2 : St} {vs : List Nat} {T : Hp → Prop} (e : wipe σ2 vs = wipe σ vs) (k : RD K D0 R l T) : RD K D0 R l (fun H => kWipe σ2 vs σ H T) := fun N H A => ⟨e, k N H A⟩
theorem d_yes {Qb : Bool → Hp → Prop} (k : RD K D0 R l (Qb true)) : RD K D0 R l (fun H => tYes σ H Qb) := k
end
end GL

/-! G5: what functions promise; the pen. -/
namespace GL
open PySem PySem.Spec L2
section
variable {K : PySem.W.Frag} {D0 : Hp} {R S : Res} {l : List (V × PyData)} {σ : St} {D : Ends} {Q : VK} {T : Hp → Prop}
/-! ### items of a list that may change -/
theorem d_ixO {a : Addr} {i : Int} {ds : List PyData} {d : PyData} (hi : atI ds i = some d) (k : ∀ v, Dv v d → RD K D0 (star (own K a ds) R) ((v, d) :: l) (Q v)) : RD K D0 (star (own K a ds) R) l (fun H => rIx K (.ref a) (.int i) H Q) := fun N H A => by
  obtain ⟨xs, hx, hd⟩ := A.ownAt
  obtain ⟨v, hv, dv⟩ := hd.atI hi
  exact .inl ⟨a, xs, i, v, rfl, rfl, SqL.of hx, hv, k v dv.dv N H (A.facts dv)⟩
theorem d_setO {a : Addr} {i : Int} {j : Nat} {ds : List PyData} {v : V} {d : PyData} {Qs : Hp → Prop} (hv : InL l v d) (hj : ixN ds.length i = some j) (k : RD K D0 (star (own K a (ds.set j d)) R) l Qs) : RD K D0 (star (own K a ds) R) l (fun H => rSetL (.ref a) (.int i) v H Qs) := fun N H A => by
  obtain ⟨xs, hx, hd⟩ := A.ownAt
  refine ⟨a, xs, i, j, rfl, rfl, hx, by rw [hd.len]; exact hj, k _ _ (A.setOwn (hd.set j (A.dt hv)))⟩
theorem d_gSub {to ti : TE} {ts : V → V → V → Hp → (Hp → Prop) → Prop} {v : V} {Qn : St → Hp → Prop} (k : RD K D0 R l (fun H => to σ H fun o H1 => ti σ H1 fun i H2 => ts o i v H2 fun H3 => Qn σ H3)) : RD K D0 R l (fun H => gSub to ti ts v σ H Qn) := k
theorem RD.forget {v : V} {d : PyData} (k : RD K D0 R l T) : RD K D0 R ((v, d) :: l) T := RD.weak (fun p hp => .mem (List.mem_cons_of_mem _ hp)) k

theorem depth_ints (ns : List Int) : (PyData.list (ns.map PyData.int)).depth ≤ 60 := by
  simp only [PyData.depth]
  have h : PyData.depthAll (ns.map PyData.int) = 0 := by
    induction ns with
    | nil => simp only [List.map_nil, PyData.depthAll]
    | cons n ns ih => simp only [List.map_cons, PyData.depthAll, PyData.depth, ih]; rfl
  omega
theorem RD.dv {v : V} {d : PyData} (k : Dv v d → RD K D0 R ((v, d) :: l) T) : RD K D0 R ((v, d) :: l) T := fun N H A => k ((A.f _ List.mem_cons_self).dv) N H A
/-! ### promises -/
/-- a function over data -/
def spPure (K : PySem.W.Frag) (n : Nat) (pre : List PyData → Prop) (post : List PyData → PyData → Prop) : Sp := fun vs H Q _ => ∃ D0 F l N ds, At K D0 F l N H ∧ InLs l vs ds ∧ ds.length = n ∧ pre ds ∧
  ∀ v d, post ds d → Dv v d → RD K D0 F ((v, d) :: l) (Q v)
theorem InL.weak {l l' : List (V × PyData)} {v : V} {d : PyData} (h : InL l v d) (s : ∀ p ∈ l, InL l' p.1 p.2) : InL l' v d := by
  cases h with
  | non => exact .non
  | bl b => exact .bl b
  | int i => exact .int i
  | str x => exact .str x
  | mem h => exact s _ h
theorem InL.tail {l : List (V × PyData)} {p : V × PyData} {v : V} {d : PyData} (h : InL l v d) : InL (p :: l) v d := h.weak fun q hq => .mem (List.mem_cons_of_mem _ hq)
theorem sub_refl {l : List (V × PyData)} : ∀ p ∈ l, InL l p.1 p.2 := fun p hp => .mem hp
theorem sub_nil {l : List (V × PyData)} : ∀ p ∈ ([] : List (V × PyData)), InL l p.1 p.2 := fun p hp => absurd hp List.not_mem_nil
theorem sub_tail {l l' : List (V × PyData)} {q : V × PyData} (h : ∀ p ∈ l', InL l p.1 p.2) : ∀ p ∈ l', InL (q :: l) p.1 p.2 := fun p hp => (h p hp).tail
theorem sub_cons {l l' : List (V × PyData)} {v : V} {d : PyData} (h : InL l v d) (t : ∀ p ∈ l', InL l p.1 p.2) : ∀ p ∈ (v, d) :: l', InL l p.1 p.2 := fun p hp => by
  rcases List.mem_cons.mp hp with rfl | hp
  · exact h
  · exact t p hp
theorem InLs.weak {l l' : List (V × PyData)} {vs : List V} {ds : List PyData} (h : InLs l vs ds) (s : ∀ p ∈ l, InL l' p.1 p.2) : InLs l' vs ds := by
  induction h with
  | nil => exact .nil
  | cons h _ ih => exact .cons (h.weak s) ih
theorem InLs.len {vs : List V} {ds : List PyData} (h : InLs l vs ds) : vs.length = ds.length := by
  induction h with
  | nil => rfl
  | cons _ _ ih => exact congrArg Nat.succ ih
theorem d_pure {n : Nat} {pre : List PyData → Prop} {post : List PyData → PyData → Prop} {vs : List V} {E : XK} (ds : List PyData) (hv : InLs l vs ds) (hn : ds.length = n) (hp : pre ds)
    (k : ∀ v d, post ds d → Dv v d → RD K D0 R ((v, d) :: l) (Q v)) : RD K D0 R l (fun H => spPure K n pre post vs H Q E) := fun N H A => ⟨D0, R, l, N, ds, A, hv, hn, hp, k⟩
/-- the pen: a list of a list of ints and two ints -/
def pen (K : PySem.W.Frag) (p : Addr) : Res where
  h := fun N D H => ∃ (ns : List Int) (i st : Int), (own K p [.list (ns.map .int), .int i, .int st]).h N D H
  st := by
    rintro N D D' H H' ⟨ns, i, st, h⟩ d k
    exact ⟨ns, i, st, (own K p _).st h d k⟩
theorem RD.openPen {p : Addr} (k : ∀ (ns : List Int) (i st : Int), RD K D0 (star (own K p [.list (ns.map .int), .int i, .int st]) R) l T) : RD K D0 (star (pen K p) R) l T := fun N H A => by
  obtain ⟨N1, N2, e, dj, ⟨ns, i, st, h⟩, h2⟩ := A.r
  exact k ns i st N H ⟨A.nt, ⟨N1, N2, e, dj, h, h2⟩, A.d0, A.f⟩
theorem RD.closePen {p : Addr} {ns : List Int} {i st : Int} (k : RD K D0 (star (pen K p) R) l T) : RD K D0 (star (own K p [.list (ns.map .int), .int i, .int st]) R) l T :=
  RD.res (fun {N D H} h => by
    obtain ⟨N1, N2, e, dj, h1, h2⟩ := h
    exact ⟨N1, N2, e, dj, ⟨ns, i, st, h1⟩, h2⟩) k
/-- a function that draws -/
def spPen (K : PySem.W.Frag) (n : Nat) (pre : List PyData → Prop) (post : List PyData → PyData → Prop) : Sp := fun vs H Q _ => ∃ p ws D0 F l N ds, vs = .ref p :: ws ∧ At K D0 (star (pen K p) F) l N H ∧ InLs l ws ds ∧ ds.length = n ∧ pre ds ∧
  ∀ v d, post ds d → Dv v d → RD K D0 (star (pen K p) F) ((v, d) :: l) (Q v)
theorem d_pen {p : Addr} {n : Nat} {pre : List PyData → Prop} {post : List PyData → PyData → Prop} {ws : List V} {E : XK} (ds : List PyData) (hv : InLs l ws ds) (hn : ds.length = n) (hp : pre ds)
    (k : ∀ v d, post ds d → Dv v d → RD K D0 (star (pen K p) R) ((v, d) :: l) (Q v)) : RD K D0 (star (pen K p) R) l (fun H => spPen K n pre post (.ref p :: ws) H Q E) := fun N H A => ⟨p, ws, D0, R, l, N, ds, rfl, A, hv, hn, hp, k⟩
theorem d_pen2 {p : Addr} {n : Nat} {pre : List PyData → Prop} {post : List PyData → PyData → Prop} {ws : List V} {E : XK} (ds : List PyData) (hv : InLs l ws ds) (hn : ds.length = n) (hp : pre ds)
    (k : ∀ v d, post ds d → Dv v d → RD K D0 (star S (star (pen K p) R)) ((v, d) :: l) (Q v)) : RD K D0 (star S (star (pen K p) R)) l (fun H => spPen K n pre post (.ref p :: ws) H Q E) :=
  RD.rot (d_pen ds hv hn hp fun v d h1 h2 => RD.rot (k v d h1 h2))
end

local macro_rules | `(tactic| walk_at "mem") => `(tactic| (first | exact List.Mem.head _ | exact List.Mem.tail _ (List.Mem.head _) | exact List.Mem.tail _ (List.Mem.tail _ (List.Mem.head _)) | ((repeat (first | exact List.Mem.head _ | apply List.Mem.tail)); done)))
local macro_rules | `(tactic| walk_at "inl") => `(tactic| (first | exact InL.int _ | exact InL.str _ | exact InL.bl _ | exact InL.non | (refine InL.mem ?zm; walk_at "mem") | assumption))
local macro_rules | `(tactic| walk_at "inls") => `(tactic| (repeat (first | exact InLs.nil | (refine InLs.cons ?zi ?_; case zi => walk_at "inl"))))
local macro_rules | `(tactic| walk_at "set") => `(tactic| (simp only [wipe, List.set_cons_succ, List.set_cons_zero]; rfl))
local macro_rules | `(tactic| walk_at "tails") => `(tactic| (first | exact sub_refl | exact sub_tail sub_refl | exact sub_tail (sub_tail sub_refl) | exact sub_nil | ((repeat (first | exact sub_refl | apply sub_tail)); done)))
local macro_rules | `(tactic| walk_at "sub") => `(tactic| (first | walk_at "tails" | ((repeat (refine sub_cons ?zi ?_; case zi => walk_at "inl")); walk_at "tails")))
local macro_rules | `(tactic| walk_at "g1") => `(tactic| (first
  | with_reducible refine d_seq ?_
  | with_reducible refine d_asg ?_
  | ((with_reducible refine d_name (σ' := ?zs) ?zh ?_); (case zh => walk_at "set"))
  | ((with_reducible refine d_var (v := ?zs) ?zh ?_); (case zh => rfl))
  | with_reducible refine d_C ?_
  | with_reducible refine d_op ?_
  | with_reducible refine d_cons ?_
  | with_reducible refine d_nil ?_
  | with_reducible refine d_cb ?_
  | with_reducible refine d_g ?_
  | with_reducible refine d_ifS ?_
  | with_reducible refine d_test ?_
  | with_reducible refine d_bl ?_
  | with_reducible refine d_addI ?_
  | with_reducible refine d_I0 ?_
  | with_reducible refine d_ret ?_
  | with_reducible refine d_retN ?_
  | with_reducible refine d_next ?_
  | with_reducible refine d_drop ?_
  | with_reducible refine d_and ?_
  | with_reducible refine d_or ?_
  | with_reducible refine d_not ?_
  | with_reducible refine d_andV ?_
  | with_reducible refine d_orV ?_
  | with_reducible refine d_notV ?_
  | with_reducible refine d_tru ?_
  | with_reducible refine d_truB ?_
  | with_reducible refine d_tif ?_
  | with_reducible refine d_iteT ?_
  | with_reducible refine d_iteF ?_
  | with_reducible refine d_iteNT ?_
  | with_reducible refine d_iteNF ?_
  | with_reducible refine d_eqI ?_
  | with_reducible refine d_neI ?_
  | with_reducible refine d_eqS ?_
  | with_reducible refine d_neS ?_
  | with_reducible refine d_eqB ?_
  | with_reducible refine d_neB ?_
  | with_reducible refine d_isN ?_
  | with_reducible refine d_notN ?_
  | with_reducible refine d_bm ?_
  | with_reducible refine d_tyS ?_
  | with_reducible refine d_tyO ?_
  | with_reducible refine d_find3 ?_
  | with_reducible refine d_tup ?_
  | with_reducible refine d_lst ?_
  | with_reducible refine d_for ?_
  | with_reducible refine d_iRng1 ?_
  | with_reducible refine d_gIt ?_
  | with_reducible refine d_lc ?_
  | with_reducible refine d_yes ?_
  | with_reducible refine d_tSl ?_
  | with_reducible refine d_noPart ?_
  | with_reducible refine d_part ?_
  | with_reducible refine d_int ?_
  | ((with_reducible refine d_wipe ?zh ?_); (case zh => rfl))
  | ((with_reducible refine d_aug (v := ?zs) ?zh ?_); (case zh => rfl))
  | with_reducible refine d_ipI ?_
  | ((with_reducible refine d_set (σ' := ?zs) ?zh ?_); (case zh => walk_at "set"))))
local macro_rules | `(tactic| walk_at "go") => `(tactic| (repeat walk_at "g1"))
/-! ### _law_fresh, _law_draw -/
def sp__law_fresh (K : PySem.W.Frag) : Sp := spPen K 0 (fun _ => True) (fun _ d => ∃ n : Int, d = .int n)
def sp__law_draw (K : PySem.W.Frag) : Sp := spPen K 1 (fun ds => ∃ m : Int, ds = [.int m] ∧ 0 < m ∧ m < 1073741824) (fun ds d => ∃ m n : Int, ds = [.int m] ∧ d = .int n ∧ 0 ≤ n ∧ n < m)
def t__law_fresh (K : PySem.W.Frag) (W : WX) : TS := (tSeq (tAsg (tOp (rIx K) (tVar 0) (tC (.int 1))) (gName 1))
  (tSeq (tAsg (tOp (gAdd K) (tVar 1) (tC (.int 1))) (gSub (tVar 0) (tC (.int 1)) rSetL))
  (tSeq (tAsg (tC (.int 0)) (gName 2))
  (tSeq (tIfS (tTest (tOp (gNe K) (tOp (rIx K) (tVar 0) (tC (.int 0))) (tLst tNil))) (tAsg (tOp (rIx K) (tOp (rIx K) (tVar 0) (tC (.int 0))) (tOp gMod (tVar 1) (tCB (gLen K) (tCons (tOp (rIx K) (tVar 0) (tC (.int 0))) tNil)))) (gName 2)) tNext)
  (tSeq (tIfS (tAnd (tTest (tOp gLt (tVar 1) (tCB (gLen K) (tCons (tOp (rIx K) (tVar 0) (tC (.int 0))) tNil)))) (tTest (tOp gGe (tVar 2) (tOp gPow (tC (.int 10)) (tC (.int 18)))))) (tRet (tOp gSub' (tVar 2) (tOp gPow (tC (.int 10)) (tC (.int 18))))) tNext)
  (tSeq (tAsg (tC (.int 2305843009213693951)) (gName 3))
  (tSeq (tAsg (tOp gMod (tOp (gAdd K) (tOp (gAdd K) (tOp gMul (tVar 2) (tC (.int 48271))) (tOp gMul (tC (.int 40692)) (tVar 1))) (tC (.int 31))) (tVar 3)) (gName 4))
  (tSeq (tAsg (tVar 4) (gName 5))
  (tSeq (tFor (iRng1 (tCons (tC (.int 6)) tNil)) (gName 6) (tSeq (tAsg (tOp gMod (tOp (gAdd K) (tOp (gAdd K) (tOp gMul (tVar 4) (tVar 4)) (tOp gMul (tOp gMul (tC (.int 69621)) (tOp (gAdd K) (tVar 6) (tC (.int 1)))) (tOp (gAdd K) (tVar 1) (tC (.int 1))))) (tVar 2)) (tVar 3)) (gName 4))
  (tAsg (tOp (gAdd K) (tOp gMul (tVar 5) (tVar 3)) (tVar 4)) (gName 5))))
  (tRet (tVar 5)))))))))))
def t__law_draw (K : PySem.W.Frag) (W : WX) : TS := (tSeq (tIfS (tTest (tOp gLt (tOp (rIx K) (tVar 0) (tC (.int 2))) (tVar 1))) (tAsg (tG (sp__law_fresh K) W (tCons (tVar 0) tNil)) (gSub (tVar 0) (tC (.int 2)) rSetL)) tNext)
  (tSeq (tAsg (tOp gMod (tOp (rIx K) (tVar 0) (tC (.int 2))) (tVar 1)) (gName 2))
  (tSeq (tAsg (tOp gFdiv (tOp (rIx K) (tVar 0) (tC (.int 2))) (tVar 1)) (gSub (tVar 0) (tC (.int 2)) rSetL))
  (tRet (tVar 2)))))
section
variable {K : PySem.W.Frag} {W : WX}
theorem InLs.nil_of {l : List (V × PyData)} {vs : List V} (h : InLs l vs []) : vs = [] := by cases h; rfl
theorem InLs.int1 {l : List (V × PyData)} {A : List V} {K : PySem.W.Frag} {D0 : Hp} {R : Res} {N : Addr → Prop} {H : Hp} {m : Int} (at_ : At K D0 R l N H) (h : InLs l A [.int m]) : A = [.int m] := by
  cases h with
  | cons h t => cases t; have z := (at_.dt h).dv; cases z; rfl
theorem pure__law_draw {vs : List V} {H : Hp} {Q : VK} {E : XK} (h : sp__law_draw K vs H Q E) : t__law_draw K W { nx := fun _ H' => Q .non H', rt := Q } (start ["pen", "many", "digit"] vs) H := by
  obtain ⟨p, ws, D0, F, l, N, ds, rfl, A, hv, hn, ⟨m, rfl, m0, m1⟩, k⟩ := h
  obtain rfl := InLs.int1 A hv
  refine (?_ : RD K D0 (star (pen K p) F) l (fun H => t__law_draw K W _ [some (.ref p), some (.int m), none] H)) N H A
  unfold t__law_draw
  refine RD.openPen fun ns i st => ?_
  walk_at "go"
  refine d_ixO (d := .int st) (by rfl) fun v hv => ?_
  cases hv
  walk_at "go"
  -- the last three steps, from any rest
  have fin : ∀ (ns : List Int) (i st : Int) (l' : List (V × PyData)), (∀ q ∈ l, InL l' q.1 q.2) → RD K D0 (star (own K p [.list (ns.map .int), .int i, .int st]) F) l'
      (fun H => tSeq (tAsg (tOp gMod (tOp (rIx K) (tVar 0) (tC (.int 2))) (tVar 1)) (gName 2)) (tSeq (tAsg (tOp gFdiv (tOp (rIx K) (tVar 0) (tC (.int 2))) (tVar 1)) (gSub (tVar 0) (tC (.int 2)) rSetL)) (tRet (tVar 2))) { nx := fun _ H' => Q .non H', rt := Q } [some (.ref p), some (.int m), none] H) := by
    intro ns i st l' hl
    walk_at "go"
    refine d_ixO (d := .int st) (by rfl) fun v hv => ?_
    cases hv
    walk_at "go"
    refine d_I m0 ?_
    walk_at "go"
    refine d_ixO (d := .int st) (by rfl) fun v hv => ?_
    cases hv
    walk_at "go"
    refine d_I ⟨m0, m1⟩ ?_
    refine d_gSub ?_
    walk_at "go"
    refine d_setO (j := 2) (.int _) (by rfl) ?_
    walk_at "go"
    refine RD.closePen (ns := ns) (i := i) (st := st / m) ?_
    refine RD.weak ?_ (k (.int (st % m)) (.int (st % m)) ⟨m, _, rfl, rfl, Int.emod_nonneg _ (by omega), Int.emod_lt_of_pos _ m0⟩ rfl)
    intro q hq
    rcases List.mem_cons.mp hq with rfl | hq
    · exact .int _
    · exact (hl q hq).tail.tail
  refine d_iteP (fun _ => ?_) (fun _ => ?_)
  · walk_at "go"
    refine RD.closePen ?_
    refine d_pen [] .nil rfl trivial fun v d hd hv => ?_
    obtain ⟨n, rfl⟩ := hd
    cases hv
    refine RD.openPen fun ns' i' st' => ?_
    refine d_gSub ?_
    walk_at "go"
    refine d_setO (j := 2) (.int _) (by rfl) ?_
    exact fin ns' i' n _ (by walk_at "sub")
  · refine d_next ?_
    exact fin ns i st _ (by walk_at "sub")
theorem atI_mod {α : Type} {xs : List α} (i : Int) (h : xs ≠ []) : ∃ x, atI xs (i % (xs.length : Int)) = some x ∧ x ∈ xs := by
  have hl : (0 : Int) < xs.length := by
    cases xs with
    | nil => exact absurd rfl h
    | cons a r => simp only [List.length_cons]; omega
  have h1 := Int.emod_nonneg i (show (xs.length : Int) ≠ 0 by omega)
  have h2 := Int.emod_lt_of_pos i hl
  obtain ⟨j, hj⟩ : ∃ j : Nat, i % (xs.length : Int) = (j : Int) := ⟨(i % (xs.length : Int)).toNat, by omega⟩
  have h3 : j < xs.length := by omega
  rw [hj]
  exact ⟨xs[j], atI_nat (List.getElem?_eq_getElem h3), List.getElem_mem h3⟩
theorem mem_ints {ns : List Int} {d : PyData} (h : d ∈ ns.map PyData.int) : ∃ n, d = .int n := by
  obtain ⟨n, _, rfl⟩ := List.mem_map.mp h
  exact ⟨n, rfl⟩
theorem p_mod (a : Int) : 0 ≤ a % 2305843009213693951 ∧ a % 2305843009213693951 < 2305843009213693951 := ⟨Int.emod_nonneg _ (by decide), Int.emod_lt_of_pos _ (by decide)⟩
theorem pure__law_fresh {vs : List V} {H : Hp} {Q : VK} {E : XK} (h : sp__law_fresh K vs H Q E) : t__law_fresh K W { nx := fun _ H' => Q .non H', rt := Q } (start ["pen", "at", "cell", "p", "state", "found", "turn"] vs) H := by
  obtain ⟨p, ws, D0, F, l, N, ds, rfl, A, hv, hn, _, k⟩ := h
  obtain rfl := List.length_eq_zero_iff.mp hn
  obtain rfl := hv.nil_of
  refine (?_ : RD K D0 (star (pen K p) F) l (fun H => t__law_fresh K W _ [some (.ref p), none, none, none, none, none, none] H)) N H A
  -- the end, from any rest
  have fin : ∀ (ns : List Int) (i st n : Int) (l' : List (V × PyData)), (∀ q ∈ l, InL l' q.1 q.2) → RD K D0 (star (own K p [.list (ns.map .int), .int i, .int st]) F) l' (Q (.int n)) := by
    intro ns i st n l' hl
    refine RD.closePen ?_
    refine RD.weak ?_ (k (.int n) (.int n) ⟨n, rfl⟩ rfl)
    intro q hq
    rcases List.mem_cons.mp hq with rfl | hq
    · exact .int _
    · exact hl q hq
  -- behind the cell's choice
  have mid : ∀ (ns : List Int) (i st at_ cell : Int) (l' : List (V × PyData)), (∀ q ∈ l, InL l' q.1 q.2) → RD K D0 (star (own K p [.list (ns.map .int), .int i, .int st]) F) l'
      (fun H => tSeq (tIfS (tAnd (tTest (tOp gLt (tVar 1) (tCB (gLen K) (tCons (tOp (rIx K) (tVar 0) (tC (.int 0))) tNil)))) (tTest (tOp gGe (tVar 2) (tOp gPow (tC (.int 10)) (tC (.int 18)))))) (tRet (tOp gSub' (tVar 2) (tOp gPow (tC (.int 10)) (tC (.int 18))))) tNext)
        (tSeq (tAsg (tC (.int 2305843009213693951)) (gName 3))
        (tSeq (tAsg (tOp gMod (tOp (gAdd K) (tOp (gAdd K) (tOp gMul (tVar 2) (tC (.int 48271))) (tOp gMul (tC (.int 40692)) (tVar 1))) (tC (.int 31))) (tVar 3)) (gName 4))
        (tSeq (tAsg (tVar 4) (gName 5))
        (tSeq (tFor (iRng1 (tCons (tC (.int 6)) tNil)) (gName 6) (tSeq (tAsg (tOp gMod (tOp (gAdd K) (tOp (gAdd K) (tOp gMul (tVar 4) (tVar 4)) (tOp gMul (tOp gMul (tC (.int 69621)) (tOp (gAdd K) (tVar 6) (tC (.int 1)))) (tOp (gAdd K) (tVar 1) (tC (.int 1))))) (tVar 2)) (tVar 3)) (gName 4))
          (tAsg (tOp (gAdd K) (tOp gMul (tVar 5) (tVar 3)) (tVar 4)) (gName 5))))
        (tRet (tVar 5)))))) { nx := fun _ H' => Q .non H', rt := Q } [some (.ref p), some (.int at_), some (.int cell), none, none, none, none] H) := by
    intro ns i st at_ cell l' hl
    have rest : ∀ l'' : List (V × PyData), (∀ q ∈ l, InL l'' q.1 q.2) → RD K D0 (star (own K p [.list (ns.map .int), .int i, .int st]) F) l'' (fun H =>
        (tSeq (tAsg (tC (.int 2305843009213693951)) (gName 3))
        (tSeq (tAsg (tOp gMod (tOp (gAdd K) (tOp (gAdd K) (tOp gMul (tVar 2) (tC (.int 48271))) (tOp gMul (tC (.int 40692)) (tVar 1))) (tC (.int 31))) (tVar 3)) (gName 4))
        (tSeq (tAsg (tVar 4) (gName 5))
        (tSeq (tFor (iRng1 (tCons (tC (.int 6)) tNil)) (gName 6) (tSeq (tAsg (tOp gMod (tOp (gAdd K) (tOp (gAdd K) (tOp gMul (tVar 4) (tVar 4)) (tOp gMul (tOp gMul (tC (.int 69621)) (tOp (gAdd K) (tVar 6) (tC (.int 1)))) (tOp (gAdd K) (tVar 1) (tC (.int 1))))) (tVar 2)) (tVar 3)) (gName 4))
          (tAsg (tOp (gAdd K) (tOp gMul (tVar 5) (tVar 3)) (tVar 4)) (gName 5))))
        (tRet (tVar 5)))))) { nx := fun _ H' => Q .non H', rt := Q } [some (.ref p), some (.int at_), some (.int cell), none, none, none, none] H) := by
      intro l'' hl
      walk_at "go"
      refine d_mulI (.inr ⟨by decide, by decide⟩) ?_
      walk_at "go"
      refine d_mulI (.inl ⟨by decide, by decide⟩) ?_
      walk_at "go"
      refine d_I (show (0 : Int) < 2305843009213693951 by decide) ?_
      walk_at "go"
      refine d_rng1 (j := 6) (by decide) (by decide) ?_
      refine d_forRange (fun _ R' σ' l1 => R' = star (own K p [.list (ns.map .int), .int i, .int st]) F ∧ l1 = l'' ∧ ∃ s f : Int, ∃ v, 0 ≤ s ∧ s < 2305843009213693951 ∧
        σ' = [some (.ref p), some (.int at_), some (.int cell), some (.int 2305843009213693951), some (.int s), some (.int f), v]) ?_ ?_ ?_
      · exact ⟨rfl, rfl, _, _, none, (p_mod _).1, (p_mod _).2, rfl⟩
      · rintro j R' σ' l1 hj ⟨rfl, rfl, s, f, v, s0, s1, rfl⟩
        walk_at "go"
        refine d_mulI (.inl ⟨by omega, by omega⟩) ?_
        walk_at "go"
        refine d_mulI (.inl ⟨by decide, by decide⟩) ?_
        walk_at "go"
        have hj' : j < 6 := hj
        refine d_mulI (.inl ⟨by omega, by omega⟩) ?_
        walk_at "go"
        refine d_I (show (0 : Int) < 2305843009213693951 by decide) ?_
        walk_at "go"
        refine d_mulI (.inr ⟨by decide, by decide⟩) ?_
        walk_at "go"
        dsimp only
        refine d_end (l' := l1) ?_ (by walk_at "sub")
        exact ⟨rfl, rfl, _, _, _, (p_mod _).1, (p_mod _).2, rfl⟩
      · rintro R' σ' l1 ⟨rfl, rfl, s, f, v, s0, s1, rfl⟩
        walk_at "go"
        exact fin _ _ _ _ _ hl
    walk_at "go"
    refine d_ixO (d := .list (ns.map .int)) (by rfl) fun v hv => ?_
    walk_at "go"
    refine d_lenL (ds := ns.map .int) (.mem (List.Mem.head _)) ?_
    walk_at "go"
    have hl1 : ∀ q ∈ l, InL ((v, .list (ns.map .int)) :: l') q.1 q.2 := fun q hq => (hl q hq).tail
    refine d_iteP (fun _ => ?_) (fun _ => ?_)
    · walk_at "go"
      refine d_I (show CPow 10 18 from ⟨by decide, by decide, by decide⟩) ?_
      walk_at "go"
      refine d_iteP (fun _ => ?_) (fun _ => ?_)
      · walk_at "go"
        refine d_I (show CPow 10 18 from ⟨by decide, by decide, by decide⟩) ?_
        walk_at "go"
        exact fin _ _ _ _ _ hl1
      · refine d_next ?_
        exact rest _ hl1
    · refine d_iteF ?_
      refine d_next ?_
      exact rest _ hl1
  unfold t__law_fresh
  refine RD.openPen fun ns i st => ?_
  walk_at "go"
  refine d_ixO (d := .int i) (by rfl) fun v hv => ?_
  cases hv
  walk_at "go"
  refine d_gSub ?_
  walk_at "go"
  refine d_setO (j := 1) (.int _) (by rfl) ?_
  walk_at "go"
  refine d_ixO (d := .list (ns.map .int)) (by rfl) fun v hv => ?_
  walk_at "go"
  refine d_newL (ds := []) (Nat.zero_le _) .nil fun e => ?_
  refine d_ne (d := .list (ns.map .int)) (e := .list []) (.mem (by walk_at "mem")) (.mem (by walk_at "mem")) (depth_ints ns) ?_
  walk_at "go"
  cases ns with
  | nil =>
    refine d_iteN rfl ?_
    refine d_next ?_
    exact mid _ _ _ _ _ _ (by walk_at "sub")
  | cons n ns =>
    refine d_iteY rfl ?_
    walk_at "go"
    refine d_ixO (d := .list ((n :: ns).map .int)) (by rfl) fun v hv => ?_
    walk_at "go"
    refine d_ixO (d := .list ((n :: ns).map .int)) (by rfl) fun v' hv' => ?_
    walk_at "go"
    refine d_lenL (ds := (n :: ns).map .int) (.mem (by walk_at "mem")) ?_
    refine d_I (show (0 : Int) < (((n :: ns).map PyData.int).length : Int) by simp only [List.map_cons, List.length_cons]; omega) ?_
    obtain ⟨d, hd, hm⟩ := atI_mod (xs := (n :: ns).map PyData.int) i (by simp)
    obtain ⟨c, rfl⟩ := mem_ints hm
    refine d_ixL (.mem (by walk_at "mem")) hd fun v2 hv2 => ?_
    cases hv2
    refine d_name (σ' := ?zs) ?zh ?_
    case zh => walk_at "set"
    exact mid _ _ _ _ _ _ (by walk_at "sub")
end
/-! ### how many values -/
theorem spPure_len {K : PySem.W.Frag} {n : Nat} {pre : List PyData → Prop} {post : List PyData → PyData → Prop} {vs : List V} {H : Hp} {Q : VK} {E : XK} (h : spPure K n pre post vs H Q E) : vs.length = n := by
  obtain ⟨_, _, _, _, _, _, hv, hn, _⟩ := h
  exact hv.len.trans hn
theorem spPen_len {K : PySem.W.Frag} {n : Nat} {pre : List PyData → Prop} {post : List PyData → PyData → Prop} {vs : List V} {H : Hp} {Q : VK} {E : XK} (h : spPen K n pre post vs H Q E) : vs.length = n + 1 := by
  obtain ⟨_, _, _, _, _, _, _, rfl, _, hv, hn, _⟩ := h
  exact congrArg (· + 1) (hv.len.trans hn)
theorem len__law_fresh {K : PySem.W.Frag} {vs : List V} {H : Hp} {Q : VK} {E : XK} (h : sp__law_fresh K vs H Q E) : vs.length = 1 := spPen_len h
theorem len__law_draw {K : PySem.W.Frag} {vs : List V} {H : Hp} {Q : VK} {E : XK} (h : sp__law_draw K vs H Q E) : vs.length = 2 := spPen_len h
end GL

/-! G6: drawn strings; signs. -/
namespace GL
open PySem PySem.Spec L2
open SX (S)
local macro_rules | `(tactic| walk_at "mem") => `(tactic| (first | exact List.Mem.head _ | exact List.Mem.tail _ (List.Mem.head _) | exact List.Mem.tail _ (List.Mem.tail _ (List.Mem.head _)) | ((repeat (first | exact List.Mem.head _ | apply List.Mem.tail)); done)))
local macro_rules | `(tactic| walk_at "inl") => `(tactic| (first | exact InL.int _ | exact InL.str _ | exact InL.bl _ | exact InL.non | (refine InL.mem ?zm; walk_at "mem") | assumption))
local macro_rules | `(tactic| walk_at "inls") => `(tactic| (repeat (first | exact InLs.nil | (refine InLs.cons ?zi ?_; case zi => walk_at "inl"))))
local macro_rules | `(tactic| walk_at "set") => `(tactic| (simp only [wipe, List.set_cons_succ, List.set_cons_zero]; rfl))
local macro_rules | `(tactic| walk_at "tails") => `(tactic| (first | exact sub_refl | exact sub_tail sub_refl | exact sub_tail (sub_tail sub_refl) | exact sub_nil | ((repeat (first | exact sub_refl | apply sub_tail)); done)))
local macro_rules | `(tactic| walk_at "sub") => `(tactic| (first | walk_at "tails" | ((repeat (refine sub_cons ?zi ?_; case zi => walk_at "inl")); walk_at "tails")))
local macro_rules | `(tactic| walk_at "g1") => `(tactic| (first
  | with_reducible refine d_seq ?_
  | with_reducible refine d_asg ?_
  | ((with_reducible refine d_name (σ' := ?zs) ?zh ?_); (case zh => walk_at "set"))
  | ((with_reducible refine d_var (v := ?zs) ?zh ?_); (case zh => rfl))
  | with_reducible refine d_C ?_
  | with_reducible refine d_op ?_
  | with_reducible refine d_cons ?_
  | with_reducible refine d_nil ?_
  | with_reducible refine d_cb ?_
  | with_reducible refine d_g ?_
  | with_reducible refine d_ifS ?_
  | with_reducible refine d_test ?_
  | with_reducible refine d_bl ?_
  | with_reducible refine d_addI ?_
  | with_reducible refine d_I0 ?_
  | with_reducible refine d_ret ?_
  | with_reducible refine d_retN ?_
  | with_reducible refine d_next ?_
  | with_reducible refine d_drop ?_
  | with_reducible refine d_and ?_
  | with_reducible refine d_or ?_
  | with_reducible refine d_not ?_
  | with_reducible refine d_andV ?_
  | with_reducible refine d_orV ?_
  | with_reducible refine d_notV ?_
  | with_reducible refine d_tru ?_
  | with_reducible refine d_truB ?_
  | with_reducible refine d_tif ?_
  | with_reducible refine d_iteT ?_
  | with_reducible refine d_iteF ?_
  | with_reducible refine d_iteNT ?_
  | with_reducible refine d_iteNF ?_
  | with_reducible refine d_eqI ?_
  | with_reducible refine d_neI ?_
  | with_reducible refine d_eqS ?_
  | with_reducible refine d_neS ?_
  | with_reducible refine d_eqB ?_
  | with_reducible refine d_neB ?_
  | with_reducible refine d_isN ?_
  | with_reducible refine d_notN ?_
  | with_reducible refine d_bm ?_
  | with_reducible refine d_tyS ?_
  | with_reducible refine d_tyO ?_
  | with_reducible refine d_find3 ?_
  | with_reducible refine d_tup ?_
  | with_reducible refine d_lst ?_
  | with_reducible refine d_for ?_
  | with_reducible refine d_iRng1 ?_
  | with_reducible refine d_gIt ?_
  | with_reducible refine d_lc ?_
  | with_reducible refine d_yes ?_
  | with_reducible refine d_tSl ?_
  | with_reducible refine d_noPart ?_
  | with_reducible refine d_part ?_
  | with_reducible refine d_int ?_
  | ((with_reducible refine d_wipe ?zh ?_); (case zh => rfl))
  | ((with_reducible refine d_aug (v := ?zs) ?zh ?_); (case zh => rfl))
  | with_reducible refine d_ipI ?_
  | ((with_reducible refine d_set (σ' := ?zs) ?zh ?_); (case zh => walk_at "set"))))
local macro_rules | `(tactic| walk_at "go") => `(tactic| (repeat walk_at "g1"))
theorem S_app (a b : List Nat) : S a ++ S b = S (a ++ b) := SX.S_cat a b
theorem S_tl (a : List Nat) : (S a).cps.toList = a := by simp
theorem S_len (a : List Nat) : (S a).length = a.length := SX.S_len a
theorem abc_S : ("abc" : Str) = S [97, 98, 99] := by decide +kernel
theorem emp_S : ("" : Str) = S [] := by decide +kernel
theorem line_big : 16777216 ≤ sizeLine := by rw [sizeLine_eq]; exact Nat.le_refl _
theorem joinL_ones : ∀ cs : List Nat, TL.joinL [] (cs.map fun c => [c]) = cs
  | [] => rfl
  | [a] => rfl
  | a :: b :: r => by
    show [a] ++ ([] ++ TL.joinL [] ((b :: r).map fun c => [c])) = a :: b :: r
    rw [joinL_ones (b :: r)]
    rfl
theorem join_signs (cs : List Nat) : Txt.join (S []) (cs.map fun c => S [c]) = S cs := by
  have h := SX.join_S [] (cs.map fun c => [c])
  rw [List.map_map, joinL_ones] at h
  exact h
theorem sum_ones (cs : List Nat) : ((cs.map fun c => S [c]).map (·.length)).sum = cs.length := by
  induction cs with
  | nil => rfl
  | cons a r ih =>
    simp only [List.map_cons, List.sum_cons, ih, S_len, List.length_cons, List.length_nil]
    omega
/-- the signs, from a's code on -/
def Signs (k : Nat) (cs : List Nat) : Prop := ∀ c ∈ cs, 97 ≤ c ∧ c < 97 + k
def sp__law_string (K : PySem.W.Frag) : Sp := spPen K 2 (fun ds => ∃ k m : Nat, ds = [.int k, .int m] ∧ 1 ≤ k ∧ k ≤ 3 ∧ m ≤ 1000000)
  (fun ds d => ∃ (k m : Nat) (cs : List Nat), ds = [.int k, .int m] ∧ d = .str (S cs) ∧ cs.length ≤ m ∧ Signs k cs)
def t__law_string (K : PySem.W.Frag) (W : WX) : TS := (tRet (tBM K "str" (gJoin K) (tC (.str "")) (tCons (tLc (iRng1 (tCons (tG (sp__law_draw K) W (tCons (tVar 0) (tCons (tOp (gAdd K) (tVar 2) (tC (.int 1))) tNil))) tNil)) (gName 3) tYes (tOp (rIx K) (tC (.str "abc")) (tG (sp__law_draw K) W0 (tCons (tVar 0) (tCons (tVar 1) tNil)))) [3]) tNil)))

section
variable {K : PySem.W.Frag} {W : WX}
theorem InLs.ints2 {l : List (V × PyData)} {A : List V} {D0 : Hp} {R : Res} {N : Addr → Prop} {H : Hp} {m n : Int} (at_ : At K D0 R l N H) (h : InLs l A [.int m, .int n]) : A = [.int m, .int n] := by
  cases h with
  | cons h t =>
    cases t with
    | cons h2 t =>
      cases t
      have z := (at_.dt h).dv; cases z
      have z := (at_.dt h2).dv; cases z
      rfl
theorem pure__law_string {vs : List V} {H : Hp} {Q : VK} {E : XK} (h : sp__law_string K vs H Q E) : t__law_string K W { nx := fun _ H' => Q .non H', rt := Q } (start ["pen", "signs", "most", "step"] vs) H := by
  obtain ⟨p, ws, D0, F, l, N, ds, rfl, A, hv, hn, ⟨k, m, rfl, k1, k3, hm⟩, kk⟩ := h
  obtain rfl := InLs.ints2 A hv
  refine (?_ : RD K D0 (star (pen K p) F) l (fun H => t__law_string K W _ [some (.ref p), some (.int k), some (.int m), none] H)) N H A
  unfold t__law_string
  walk_at "go"
  refine d_pen [.int (m + 1)] (.cons (.int _) .nil) rfl ⟨_, rfl, by omega, by omega⟩ fun v d hd hv => ?_
  obtain ⟨m', n, e, rfl, n0, n1⟩ := hd
  cases e
  cases hv
  refine RD.forget ?_
  refine d_rng1 (by omega) (by omega) ?_
  refine d_lcRange (fun i R' l' es => R' = star (pen K p) F ∧ l' = l ∧ ∃ cs : List Nat, es = cs.map (fun c => PyData.str (S [c])) ∧ cs.length = i ∧ Signs k cs) ?_ ?_ ?_
  · exact ⟨rfl, rfl, [], rfl, rfl, fun c h => nomatch h⟩
  · rintro i D R' l' es hi ⟨rfl, rfl, cs, rfl, rfl, sg⟩
    walk_at "go"
    refine d_pen2 [.int k] (.cons (.int _) .nil) rfl ⟨_, rfl, by omega, by omega⟩ fun v d hd hv => ?_
    obtain ⟨m', c, e, rfl, c0, c1⟩ := hd
    cases e
    cases hv
    refine RD.forget ?_
    rw [abc_S]
    have hc : atI (S [97, 98, 99]).cps.toList c = some (97 + c.toNat) := by
      have h3 : c = 0 ∨ c = 1 ∨ c = 2 := by omega
      rcases h3 with rfl | rfl | rfl <;> rfl
    refine d_ixS (by rw [S_len]; exact Nat.le_trans (by decide) line_big) hc ?_
    refine d_item (P := _) (l' := l') (d := .str (S [97 + c.toNat])) (.str _) ?_ ?_ (by walk_at "sub")
    · rw [List.length_map]; exact Nat.lt_of_lt_of_le (by omega) line_big
    · refine ⟨rfl, rfl, cs ++ [97 + c.toNat], by rw [List.map_append]; rfl, by rw [List.length_append]; rfl, ?_⟩
      intro x hx
      rcases List.mem_append.mp hx with hx | hx
      · exact sg x hx
      · have hx := List.mem_singleton.mp hx
        omega
  · rintro v R' l' es ⟨rfl, rfl, cs, rfl, hl, sg⟩
    walk_at "go"
    rw [emp_S]
    refine d_joinL (ys := cs.map fun c => S [c]) (.mem (by rw [List.map_map]; exact List.Mem.head _)) ?_ ?_
    · rw [sum_ones, List.length_map, S_len, List.length_nil]
      omega
    · rw [join_signs]
      refine RD.forget ?_
      refine RD.weak ?_ (kk (.str (S cs)) (.str (S cs)) ⟨k, m, cs, rfl, rfl, by omega, sg⟩ rfl)
      walk_at "sub"
end
/-! ### what is found from the left -/
/-- behind this much of a pattern: the places, and where the search goes on -/
inductive Gr (log : List Nat) : List Nat → List Nat → Nat → Prop
  | nil : Gr log [] [] 0
  | snoc {pre ps : List Nat} {i k c : Nat} (h : Gr log pre ps i) (h1 : i ≤ k) (h2 : log[k]? = some c) (h3 : ∀ v, i ≤ v → v < k → log[v]? ≠ some c) : Gr log (pre ++ [c]) (ps ++ [k]) (k + 1)
theorem Gr.len {log pre ps : List Nat} {i : Nat} (h : Gr log pre ps i) : ps.length = pre.length ∧ i ≤ log.length := by
  induction h with
  | nil => exact ⟨rfl, Nat.zero_le _⟩
  | snoc h h1 h2 h3 ih =>
    obtain ⟨hk, _⟩ := List.getElem?_eq_some_iff.mp h2
    exact ⟨by simp [ih.1], hk⟩
theorem drop_at {log : List Nat} {k c : Nat} (h : log[k]? = some c) : log.drop k = c :: log.drop (k + 1) := by
  obtain ⟨hk, e⟩ := List.getElem?_eq_some_iff.mp h
  rw [List.drop_eq_getElem_cons hk, e]
theorem sub_skip {log r : List Nat} {c : Nat} : ∀ (n i k : Nat), k = i + n → log[k]? = some c → (∀ v, i ≤ v → v < k → log[v]? ≠ some c) → ((c :: r).Sublist (log.drop i) ↔ r.Sublist (log.drop (k + 1)))
  | 0, i, k, e, h2, h3 => by
    have e' : k = i := by omega
    subst e'
    rw [drop_at h2]
    exact List.cons_sublist_cons
  | n + 1, i, k, e, h2, h3 => by
    obtain ⟨hk, _⟩ := List.getElem?_eq_some_iff.mp h2
    have hi : i < log.length := by omega
    have ih := sub_skip (r := r) n (i + 1) k (by omega) h2 (fun v a b => h3 v (by omega) b)
    rw [← ih, List.drop_eq_getElem_cons hi]
    have ne : log[i] ≠ c := fun z => h3 i (Nat.le_refl _) (by omega) (by rw [List.getElem?_eq_getElem hi, z])
    constructor
    · intro s
      cases s with
      | cons _ s => exact s
      | cons_cons _ s => exact absurd rfl ne
    · intro s
      exact s.cons _
theorem sub_fail {log r : List Nat} {c i : Nat} (h3 : ∀ v, i ≤ v → v < log.length → log[v]? ≠ some c) : ¬ (c :: r).Sublist (log.drop i) := by
  intro s
  have hm : c ∈ log.drop i := s.subset List.mem_cons_self
  obtain ⟨j, hj, e⟩ := List.getElem_of_mem hm
  rw [List.getElem_drop] at e
  rw [List.length_drop] at hj
  exact h3 (i + j) (by omega) (by omega) (by rw [List.getElem?_eq_getElem (by omega), e])
theorem getD_at {cs : List Nat} {v c : Nat} (hv : v < cs.length) : ((S cs).cps.getD v 0 = c) ↔ cs[v]? = some c := by
  have e : (S cs).cps.getD v 0 = cs[v] := by simp [Array.getD, hv]
  rw [e, List.getElem?_eq_getElem hv]
  exact ⟨fun h => by rw [h], fun h => Option.some.inj h⟩
theorem find_spec (cs : List Nat) (c i : Nat) (hi : i ≤ cs.length) : (Txt.find3 (S cs) (S [c]) (i : Int) = -1 ∧ ∀ v, i ≤ v → v < cs.length → cs[v]? ≠ some c) ∨
    ∃ k : Nat, Txt.find3 (S cs) (S [c]) (i : Int) = (k : Int) ∧ i ≤ k ∧ k < cs.length ∧ cs[k]? = some c ∧ ∀ v, i ≤ v → v < k → cs[v]? ≠ some c := by
  have ef : fromIndex (S cs).length (i : Int) = i := by
    unfold fromIndex
    rw [if_neg (by omega)]
    omega
  have hl := S_len cs
  rcases StrLaws.find3_spec (S cs) c (i : Int) with ⟨h1, h2⟩ | ⟨k, h1, h2, h3, h4, h5⟩
  · rw [ef] at h2
    exact .inl ⟨h1, fun v a b z => h2 v a (by rw [hl]; exact b) ((getD_at b).2 z)⟩
  · rw [ef] at h2 h5
    rw [hl] at h3
    exact .inr ⟨k, h1, h2, h3, (getD_at h3).1 h4, fun v a b z => h5 v a b ((getD_at (by omega)).2 z)⟩
def sp_positions (K : PySem.W.Frag) : Sp := spPure K 2 (fun ds => ∃ log pat : List Nat, ds = [.str (S log), .str (S pat)] ∧ log.length ≤ 1000000 ∧ pat.length ≤ 1000000)
  (fun ds d => ∃ log pat : List Nat, ds = [.str (S log), .str (S pat)] ∧ ((d = .none ∧ ¬ pat.Sublist log) ∨ ∃ (ps : List Nat) (i : Nat), d = .tuple (ps.map fun (k : Nat) => .int k) ∧ Gr log pat ps i ∧ pat.Sublist log))
def sp_contains (K : PySem.W.Frag) : Sp := spPure K 2 (fun ds => ∃ log pat : List Nat, ds = [.str (S log), .str (S pat)] ∧ log.length ≤ 1000000 ∧ pat.length ≤ 1000000)
  (fun ds d => ∃ (log pat : List Nat) (b : Bool), ds = [.str (S log), .str (S pat)] ∧ d = .bool b ∧ (b = true ↔ pat.Sublist log))
def stepP (pat : List Nat) (n : Nat) (c : Nat) : Nat := if pat[n]? = some c then n + 1 else n
theorem stepP_hit {pat : List Nat} {n c : Nat} (h : pat[n]? = some c) : stepP pat n c = n + 1 := if_pos h
theorem stepP_miss {pat : List Nat} {n c : Nat} (h : pat[n]? ≠ some c) : stepP pat n c = n := if_neg h
def progP (log pat : List Nat) : Nat := log.foldl (stepP pat) 0
def sp_progress_of (K : PySem.W.Frag) : Sp := spPure K 2 (fun ds => ∃ log pat : List Nat, ds = [.str (S log), .str (S pat)] ∧ log.length ≤ 1000000 ∧ pat.length ≤ 1000000)
  (fun ds d => ∃ log pat : List Nat, ds = [.str (S log), .str (S pat)] ∧ d = .int (progP log pat))
def t_positions (K : PySem.W.Frag) (W : WX) : TS := (tSeq (tAsg (tLst tNil) (gName 2))
  (tSeq (tAsg (tC (.int 0)) (gName 3))
  (tSeq (tFor (gIt K (tVar 1)) (gName 4) (tSeq (tAsg (tBM K "str" gFind3 (tVar 0) (tCons (tVar 4) (tCons (tVar 3) tNil))) (gName 5))
  (tSeq (tIfS (tTest (tOp gLt (tVar 5) (tC (.int 0)))) (tRet (tC .non)) tNext)
  (tSeq (tDrop (tBM K "list" rAppend (tVar 2) (tCons (tVar 5) tNil)))
  (tAsg (tOp (gAdd K) (tVar 5) (tC (.int 1))) (gName 3))))))
  (tRet (tCB (gTuple K) (tCons (tVar 2) tNil))))))

def t_contains (K : PySem.W.Frag) (W : WX) : TS := (tRet (tOp gNotN (tG (sp_positions K) W (tCons (tVar 0) (tCons (tVar 1) tNil))) (tC .non)))

def t_progress_of (K : PySem.W.Frag) (W : WX) : TS := (tSeq (tAsg (tC (.int 0)) (gName 2))
  (tSeq (tFor (gIt K (tVar 0)) (gName 3) (tIfS (tAnd (tTest (tOp gLt (tVar 2) (tCB (gLen K) (tCons (tVar 1) tNil)))) (tTest (tOp (gEq K) (tOp (rIx K) (tVar 1) (tVar 2)) (tVar 3)))) (tAug 2 (tC (.int 1)) (ipI fun i j => i + j)) tNext))
  (tRet (tVar 2))))

section
variable {K : PySem.W.Frag} {W : WX}
theorem InLs.str2 {l : List (V × PyData)} {A : List V} {D0 : Hp} {R : Res} {N : Addr → Prop} {H : Hp} {m n : Str} (at_ : At K D0 R l N H) (h : InLs l A [.str m, .str n]) : A = [.str m, .str n] := by
  cases h with
  | cons h t =>
    cases t with
    | cons h2 t =>
      cases t
      have z := (at_.dt h).dv; cases z
      have z := (at_.dt h2).dv; cases z
      rfl
theorem pure_contains {vs : List V} {H : Hp} {Q : VK} {E : XK} (h : sp_contains K vs H Q E) : t_contains K W { nx := fun _ H' => Q .non H', rt := Q } (start ["log", "pattern"] vs) H := by
  obtain ⟨D0, F, l, N, ds, A, hv, hn, ⟨log, pat, rfl, h1, h2⟩, kk⟩ := h
  obtain rfl := InLs.str2 A hv
  refine (?_ : RD K D0 F l (fun H => t_contains K W _ [some (.str (S log)), some (.str (S pat))] H)) N H A
  unfold t_contains
  walk_at "go"
  refine d_pure [.str (S log), .str (S pat)] (.cons (.str _) (.cons (.str _) .nil)) rfl ⟨log, pat, rfl, h1, h2⟩ fun v d hd hv => ?_
  obtain ⟨log', pat', e, hd⟩ := hd
  cases e
  walk_at "go"
  refine RD.forget ?_
  have nn : (v = .non) ↔ ¬ pat.Sublist log := by
    rcases hd with ⟨rfl, hs⟩ | ⟨ps, i, rfl, hg, hs⟩
    · exact ⟨fun _ => hs, fun _ => hv⟩
    · obtain ⟨a, rfl⟩ := hv
      exact ⟨fun z => (nomatch z), fun z => absurd hs z⟩
  refine RD.weak ?_ (kk (.bl (!decide (v = .non))) (.bool (!decide (v = .non))) ⟨log, pat, _, rfl, rfl, ?_⟩ rfl)
  · walk_at "sub"
  · rw [Bool.not_eq_true', decide_eq_false_iff_not, nn]
    exact Decidable.not_not
theorem pure_positions {vs : List V} {H : Hp} {Q : VK} {E : XK} (h : sp_positions K vs H Q E) : t_positions K W { nx := fun _ H' => Q .non H', rt := Q } (start ["log", "pattern", "found", "at", "sign", "place"] vs) H := by
  obtain ⟨D0, F, l, N, ds, A, hv, hn, ⟨log, pat, rfl, h1, h2⟩, kk⟩ := h
  obtain rfl := InLs.str2 A hv
  refine (?_ : RD K D0 F l (fun H => t_positions K W _ [some (.str (S log)), some (.str (S pat)), none, none, none, none] H)) N H A
  unfold t_positions
  walk_at "go"
  refine d_newO (ds := []) (Nat.zero_le _) .nil fun a => ?_
  walk_at "go"
  refine d_forStr (fun i R' σ' l' => l' = l ∧ ∃ (ps : List Nat) (j : Nat) (v4 v5 : Option V), R' = star (own K a (ps.map fun (k : Nat) => .int k)) F ∧ σ' = [some (.str (S log)), some (.str (S pat)), some (.ref a), some (.int j), v4, v5] ∧
    Gr log (pat.take i) ps j ∧ (pat.Sublist log ↔ (pat.drop i).Sublist (log.drop j))) ?_ ?_ ?_
  · exact ⟨rfl, [], 0, none, none, rfl, rfl, .nil, Iff.rfl⟩
  · rintro i c R' σ' l' hc ⟨rfl, ps, j, v4, v5, rfl, rfl, g, hs⟩
    rw [S_tl] at hc
    obtain ⟨hi, ec⟩ := List.getElem?_eq_some_iff.mp hc
    obtain ⟨gl, gj⟩ := g.len
    have hcp : pat.drop i = c :: pat.drop (i + 1) := drop_at hc
    walk_at "go"
    rcases find_spec log c j gj with ⟨e, hno⟩ | ⟨k, e, jk, kl, hk, hno⟩
    · rw [e]
      refine d_iteY (by decide) ?_
      walk_at "go"
      refine RD.freeze ?_
      refine RD.weak ?_ (kk .non .none ⟨log, pat, rfl, .inl ⟨rfl, ?_⟩⟩ rfl)
      · walk_at "sub"
      · rw [hs, hcp]
        exact sub_fail hno
    · rw [e]
      refine d_iteN (by simp) ?_
      walk_at "go"
      refine d_append (d := .int k) (.int _) ?_ ?_
      · rw [List.length_map, gl, List.length_take]
        exact Nat.lt_of_lt_of_le (by omega) line_big
      walk_at "go"
      dsimp only
      refine d_end (l' := l') ?_ (by walk_at "sub")
      refine ⟨rfl, ps ++ [k], k + 1, _, _, by rw [List.map_append]; rfl, rfl, ?_, ?_⟩
      · rw [List.take_succ, hc]
        exact .snoc g jk hk hno
      · rw [hs, hcp]
        exact sub_skip (k - j) j k (by omega) hk hno
  · rintro R' σ' l' ⟨rfl, ps, j, v4, v5, rfl, rfl, g, hs⟩
    rw [S_tl] at g hs
    rw [List.take_length] at g
    walk_at "go"
    refine d_tupleO fun v => RD.dv fun hv => ?_
    refine RD.freeze ?_
    refine RD.weak ?_ (kk v (.tuple (ps.map fun (k : Nat) => .int k)) ⟨log, pat, rfl, .inr ⟨ps, j, rfl, g, ?_⟩⟩ hv)
    · walk_at "sub"
    · rw [hs, List.drop_length]; exact List.nil_sublist _
theorem d_gLenS {z : List Nat} {D0 : Hp} {R : Res} {l : List (V × PyData)} {Q : VK} (hz : z.length ≤ 1000000) (k : RD K D0 R l (Q (.int z.length))) : RD K D0 R l (fun H => gLen K [.str (S z)] H Q) :=
  d_lenS (by rw [S_len]; exact Nat.le_trans (by omega) line_big) (by rw [S_len]; exact k)
theorem pure_progress_of {vs : List V} {H : Hp} {Q : VK} {E : XK} (h : sp_progress_of K vs H Q E) : t_progress_of K W { nx := fun _ H' => Q .non H', rt := Q } (start ["log", "pattern", "found", "sign"] vs) H := by
  obtain ⟨D0, F, l, N, ds, A, hv, hn, ⟨log, pat, rfl, h1, h2⟩, kk⟩ := h
  obtain rfl := InLs.str2 A hv
  refine (?_ : RD K D0 F l (fun H => t_progress_of K W _ [some (.str (S log)), some (.str (S pat)), none, none] H)) N H A
  unfold t_progress_of
  walk_at "go"
  refine d_forStr (fun i R' σ' l' => l' = l ∧ R' = F ∧ ∃ v3 : Option V, σ' = [some (.str (S log)), some (.str (S pat)), some (.int ((log.take i).foldl (stepP pat) 0 : Nat)), v3] ∧ (log.take i).foldl (stepP pat) 0 ≤ pat.length) ?_ ?_ ?_
  · exact ⟨rfl, rfl, none, rfl, Nat.zero_le _⟩
  · rintro i c R' σ' l' hc ⟨rfl, rfl, v3, rfl, hle⟩
    rw [S_tl] at hc
    have ht : (log.take (i + 1)).foldl (stepP pat) 0 = stepP pat ((log.take i).foldl (stepP pat) 0) c := by
      rw [List.take_succ, hc, List.foldl_append]; rfl
    walk_at "go"
    refine d_gLenS h2 ?_
    walk_at "go"
    refine d_iteP (fun hlt => ?_) (fun hge => ?_)
    · obtain ⟨x, hx⟩ : ∃ x, pat[(log.take i).foldl (stepP pat) 0]? = some x := ⟨_, List.getElem?_eq_getElem (by omega)⟩
      walk_at "go"
      refine d_ixS (c := x) (by rw [S_len]; exact Nat.le_trans (by omega) line_big) (atI_nat (by rw [S_tl]; exact hx)) ?_
      walk_at "go"
      refine d_iteP (fun he => ?_) (fun hne => ?_)
      · have ex : x = c := by have := SX.S_inj he; simpa using this
        walk_at "go"
        dsimp only
        refine d_end (l' := l') ?_ (by walk_at "sub")
        have hs : stepP pat ((log.take i).foldl (stepP pat) 0) c = (log.take i).foldl (stepP pat) 0 + 1 := stepP_hit (by rw [hx, ex])
        refine ⟨rfl, rfl, _, by rw [ht, hs]; rfl, by rw [ht, hs]; omega⟩
      · have ex : x ≠ c := fun z => hne (by rw [z])
        walk_at "go"
        dsimp only
        refine d_end (l' := l') ?_ (by walk_at "sub")
        have hs : stepP pat ((log.take i).foldl (stepP pat) 0) c = (log.take i).foldl (stepP pat) 0 := stepP_miss (by rw [hx]; exact fun z => ex (Option.some.inj z))
        refine ⟨rfl, rfl, _, by rw [ht, hs], by rw [ht, hs]; omega⟩
    · walk_at "go"
      dsimp only
      refine d_end (l' := l') ?_ (by walk_at "sub")
      have hs : stepP pat ((log.take i).foldl (stepP pat) 0) c = (log.take i).foldl (stepP pat) 0 := stepP_miss (by rw [List.getElem?_eq_none (by omega)]; exact fun z => nomatch z)
      refine ⟨rfl, rfl, _, by rw [ht, hs], by rw [ht, hs]; omega⟩
  · rintro R' σ' l' ⟨rfl, rfl, v3, rfl, hle⟩
    rw [S_tl, List.take_length]
    walk_at "go"
    refine RD.weak ?_ (kk (.int (progP log pat)) (.int (progP log pat)) ⟨log, pat, rfl, rfl⟩ rfl)
    walk_at "sub"
end
/-! ### the law's pen, the law's frame -/
def sp__law_pen (K : PySem.W.Frag) : Sp := fun vs H Q _ => ∃ a ns D0 F l N, vs = [.ref a] ∧ At K D0 F l N H ∧ SqL K H a (List.map V.int ns) ∧ ns.length ≤ 63 ∧ ∀ p, RD K D0 (star (pen K p) F) l (Q (.ref p))
def spLaw (K : PySem.W.Frag) : Sp := fun vs H Q _ => ∃ (a : Addr) (ns : List Int), vs = [.ref a] ∧ SqL K H a (ns.map V.int) ∧ ns.length ≤ 63 ∧ ∀ H', Q (.bl true) H'
def t__law_pen (K : PySem.W.Frag) (W : WX) : TS := (tRet (tLst (tCons (tCB (gList K) (tCons (tSl (gSl K) (tVar 0) tNoPart (tPart (tC (.int 63)))) tNil)) (tCons (tC (.int 0)) (tCons (tC (.int 0)) tNil)))))

theorem same_sqL {K : PySem.W.Frag} {H H' : Hp} {a : Addr} {xs : List V} (e : Same H H') (h : SqL K H a xs) : SqL K H' a xs := Same.seq e h
theorem cutV_ints (ns : List Int) (lo hi : Option Int) : ∃ ms : List Int, cutV (ns.map V.int) lo hi = ms.map V.int ∧ ms.length ≤ ns.length := by
  refine ⟨(ns.drop (HT.sIx ns.length 0 lo)).take (HT.sIx ns.length ns.length hi - HT.sIx ns.length 0 lo), ?_, ?_⟩
  · unfold cutV
    rw [List.length_map, List.map_take, List.map_drop]
  · rw [List.length_take, List.length_drop]
    omega
section
variable {K : PySem.W.Frag} {W : WX}
theorem pure__law_pen {vs : List V} {H : Hp} {Q : VK} {E : XK} (h : sp__law_pen K vs H Q E) : t__law_pen K W { nx := fun _ H' => Q .non H', rt := Q } (start ["script"] vs) H := by
  obtain ⟨a, ns, D0, F, l, N, rfl, A, hS, hl, k⟩ := h
  obtain ⟨ms, em, hm⟩ := cutV_ints ns none (some 63)
  unfold t__law_pen
  refine ⟨.ref a, rfl, ?_⟩
  refine ⟨63, rfl, ?_⟩
  refine .inl ⟨a, _, rfl, hS, fun p hp => ?_⟩
  rw [em]
  obtain ⟨A1, e1⟩ := A.new (.lst (ms.map V.int)) hp
  refine ⟨p, _, rfl, .inl (SqL.of upd_same), fun q hq => ?_⟩
  obtain ⟨A2, e2⟩ := A1.new (.lst (ms.map V.int)) hq
  refine ⟨Nat.le_trans (show 3 ≤ 16777216 by decide) line_big, fun r hr => ?_⟩
  have A3 := A2.newOwn (xs := [.ref q, .int 0, .int 0]) (ds := [.list (ms.map .int), .int 0, .int 0]) hr (.cons (.lst e2 (DtAll.ofInts ms)) (.cons (.int 0) (.cons (.int 0) .nil)))
  exact RD.closePen (k r) _ _ A3
/-- a law that begins by its pen -/
theorem law_start {D : Ends} {σ : St} {Q : VK} {H : Hp} {a : Addr} {ns : List Int} {W : WX} {rest : TS} {i : Nat} (h0 : σ[0]? = some (some (.ref a))) (hS : SqL K H a (ns.map V.int)) (hl : ns.length ≤ 63)
    (k : ∀ p, RD K (fun _ => none) (star (pen K p) emp) [] (fun H => rest D (σ.set i (some (.ref p))) H)) : tSeq (tAsg (tG (sp__law_pen K) W (tCons (tVar 0) tNil)) (gName i)) rest D σ H := by
  refine ⟨.ref a, h0, ?_⟩
  have A : At K (fun _ => none) emp [] (fun _ => False) H := ⟨fun _ h => h.elim, fun _ h => h, (fun _ _ h => by cases h), (fun _ h => absurd h List.not_mem_nil)⟩
  exact ⟨a, ns, fun _ => none, emp, [], fun _ => False, rfl, A, hS, hl, fun p => k p⟩
end
section
variable {K : PySem.W.Frag} {W : WX} {D0 : Hp} {R : Res} {l : List (V × PyData)} {Q : VK}
theorem d_contains {log pat : List Nat} {E : XK} (h1 : log.length ≤ 1000000) (h2 : pat.length ≤ 1000000) (k : ∀ b : Bool, (b = true ↔ pat.Sublist log) → RD K D0 R l (Q (.bl b))) : RD K D0 R l (fun H => sp_contains K [.str (S log), .str (S pat)] H Q E) := by
  refine d_pure [.str (S log), .str (S pat)] (.cons (.str _) (.cons (.str _) .nil)) rfl ⟨log, pat, rfl, h1, h2⟩ fun v d hd hv => ?_
  obtain ⟨log', pat', b, e, rfl, hb⟩ := hd
  cases e
  cases hv
  exact RD.forget (k b hb)
theorem d_containsY {log pat : List Nat} {E : XK} (h1 : log.length ≤ 1000000) (h2 : pat.length ≤ 1000000) (h : pat.Sublist log) (k : RD K D0 R l (Q (.bl true))) : RD K D0 R l (fun H => sp_contains K [.str (S log), .str (S pat)] H Q E) :=
  d_contains h1 h2 fun b hb => by
    have e : b = true := hb.2 h
    subst e
    exact k
theorem d_progress {log pat : List Nat} {E : XK} (h1 : log.length ≤ 1000000) (h2 : pat.length ≤ 1000000) (k : RD K D0 R l (Q (.int (progP log pat)))) : RD K D0 R l (fun H => sp_progress_of K [.str (S log), .str (S pat)] H Q E) := by
  refine d_pure [.str (S log), .str (S pat)] (.cons (.str _) (.cons (.str _) .nil)) rfl ⟨log, pat, rfl, h1, h2⟩ fun v d hd hv => ?_
  obtain ⟨log', pat', e, rfl⟩ := hd
  cases e
  cases hv
  exact RD.forget k
theorem d_string {p : Addr} {k m : Nat} {E : XK} (k1 : 1 ≤ k) (k3 : k ≤ 3) (hm : m ≤ 1000000) (kk : ∀ cs : List Nat, cs.length ≤ m → Signs k cs → RD K D0 (star (pen K p) R) l (Q (.str (S cs)))) : RD K D0 (star (pen K p) R) l (fun H => sp__law_string K [.ref p, .int k, .int m] H Q E) := by
  refine d_pen [.int k, .int m] (.cons (.int _) (.cons (.int _) .nil)) rfl ⟨k, m, rfl, k1, k3, hm⟩ fun v d hd hv => ?_
  obtain ⟨k', m', cs, e, rfl, hl, sg⟩ := hd
  have e1 : k' = k := by have := e; simp at this; omega
  have e2 : m' = m := by have := e; simp at this; omega
  subst e1 e2
  cases hv
  exact RD.forget (kk cs hl sg)
theorem d_draw {p : Addr} {m : Int} {E : XK} (h0 : 0 < m) (h1 : m < 1073741824) (kk : ∀ n : Int, 0 ≤ n → n < m → RD K D0 (star (pen K p) R) l (Q (.int n))) : RD K D0 (star (pen K p) R) l (fun H => sp__law_draw K [.ref p, .int m] H Q E) := by
  refine d_pen [.int m] (.cons (.int _) .nil) rfl ⟨m, rfl, h0, h1⟩ fun v d hd hv => ?_
  obtain ⟨m', n, e, rfl, n0, n1⟩ := hd
  cases e
  cases hv
  exact RD.forget (kk n n0 n1)
theorem d_draw2 {S' : Res} {p : Addr} {m : Int} {E : XK} (h0 : 0 < m) (h1 : m < 1073741824) (kk : ∀ n : Int, 0 ≤ n → n < m → RD K D0 (star S' (star (pen K p) R)) l (Q (.int n))) : RD K D0 (star S' (star (pen K p) R)) l (fun H => sp__law_draw K [.ref p, .int m] H Q E) :=
  RD.rot (d_draw h0 h1 fun n n0 n1 => RD.rot (kk n n0 n1))
theorem d_joinSigns {ds : List Nat} {x : V} (hx : InL l x (.list (ds.map fun c => .str (S [c])))) (h : ds.length ≤ 16777216) (k : RD K D0 R l (Q (.str (S ds)))) : RD K D0 R l (fun H => gJoin K (.str "") [x] H Q) := by
  refine d_joinL (ys := ds.map fun c => S [c]) (by rw [List.map_map]; exact hx) (by rw [sum_ones, emp_S, S_len]; simpa using h) ?_
  rw [emp_S, join_signs]
  exact k
theorem cutS_take {cs : List Nat} {n : Nat} (h : n ≤ cs.length) : cutS (S cs) none (some (n : Int)) = S (cs.take n) := by
  unfold cutS
  rw [HT.sIx_none, HT.sIx_nat, S_tl, S_len, Nat.min_eq_left h]
  rfl
theorem cutS_drop {cs : List Nat} {n : Nat} (h : n ≤ cs.length) : cutS (S cs) (some (n : Int)) none = S (cs.drop n) := by
  unfold cutS
  rw [HT.sIx_none, HT.sIx_nat, S_tl, S_len, Nat.min_eq_left h, List.take_of_length_le (by rw [List.length_drop]; omega)]
theorem progP_le (log pat : List Nat) : progP log pat ≤ pat.length := by
  suffices ∀ m, m ≤ pat.length → log.foldl (stepP pat) m ≤ pat.length from this 0 (Nat.zero_le _)
  induction log with
  | nil => exact fun m h => h
  | cons c cs ih =>
    intro m h
    rw [List.foldl_cons]
    refine ih _ ?_
    unfold stepP
    split
    · rename_i h2
      have := (List.getElem?_eq_some_iff.1 h2).1
      omega
    · exact h
theorem d_cat {a b : List Nat} (h : a.length + b.length ≤ 1000000) (k : RD K D0 R l (Q (.str (S (a ++ b))))) : RD K D0 R l (fun H => gAdd K (.str (S a)) (.str (S b)) H Q) :=
  d_addS (by rw [S_len, S_len]; exact Nat.le_trans (Nat.le_trans h (by decide)) line_big) (by rw [S_app]; exact k)
theorem d_len {a : List Nat} (h : a.length ≤ 1000000) (k : RD K D0 R l (Q (.int a.length))) : RD K D0 R l (fun H => gLen K [.str (S a)] H Q) :=
  d_lenS (by rw [S_len]; exact Nat.le_trans (Nat.le_trans h (by decide)) line_big) (by rw [S_len]; exact k)
theorem d_takeS {cs : List Nat} {n : Nat} (h : cs.length ≤ 1000000) (hn : n ≤ cs.length) (k : RD K D0 R l (Q (.str (S (cs.take n))))) : RD K D0 R l (fun H => gSl K (.str (S cs)) none (some (n : Int)) H Q) :=
  d_slS (by rw [S_len]; exact Nat.le_trans (Nat.le_trans h (by decide)) line_big) (by rw [cutS_take hn]; exact k)
theorem d_dropS {cs : List Nat} {n : Nat} (h : cs.length ≤ 1000000) (hn : n ≤ cs.length) (k : RD K D0 R l (Q (.str (S (cs.drop n))))) : RD K D0 R l (fun H => gSl K (.str (S cs)) (some (n : Int)) none H Q) :=
  d_slS (by rw [S_len]; exact Nat.le_trans (Nat.le_trans h (by decide)) line_big) (by rw [cutS_drop hn]; exact k)
/-- signs of a text, each kept or not -/
theorem d_pick {p : Addr} {cs : List Nat} {σ : L2.St} {i : Nat} (hl : cs.length ≤ 1000) (hp : (wipe σ [i])[1]? = some (some (.ref p)))
    (hi : i ≠ 1) (hi2 : i < σ.length) (kk : ∀ (v : V) (ds : List Nat), ds.Sublist cs → RD K D0 (star (pen K p) R) ((v, .list (ds.map fun c => .str (S [c]))) :: l) (Q v)) :
    RD K D0 (star (pen K p) R) l (fun H => wIt K (.str (S cs)) H fun J H1 => LcK (gName i) (tTest (tOp gGt (tG (sp__law_draw K) W0 (tCons (tVar 1) (tCons (tC (.int 3)) tNil))) (tC (.int 0)))) (tVar i) [i] σ Q J H1) := by
  have hw' : ∀ v : V, wipe ((wipe σ [i]).set i (some v)) [i] = wipe σ [i] := fun v => by
    show ((σ.set i none).set i (some v)).set i none = σ.set i none
    rw [List.set_set, List.set_set]
  have h1 : ∀ v : V, ((wipe σ [i]).set i (some v))[1]? = some (some (.ref p)) := fun v => by
    rw [List.getElem?_set_ne hi]; exact hp
  have h2 : ∀ v : V, ((wipe σ [i]).set i (some v))[i]? = some (some v) := fun v => by
    rw [List.getElem?_set_self]
    rw [wipe_length]; exact hi2
  refine d_lcStr (fun n R' l' es => R' = star (pen K p) R ∧ l' = l ∧ ∃ ds : List Nat, es = ds.map (fun c => PyData.str (S [c])) ∧ ds.Sublist (cs.take n)) ?_ ?_ ?_
  · exact ⟨rfl, rfl, [], rfl, List.nil_sublist _⟩
  · rintro n c D R' l' es hc ⟨rfl, rfl, ds, rfl, hs⟩
    rw [S_tl] at hc
    have hdl : ds.length ≤ 1000 := Nat.le_trans hs.length_le (by rw [List.length_take]; omega)
    refine d_name rfl ?_
    refine d_wipe (hw' _) ?_
    refine d_test (d_op (d_g (d_cons (d_var (h1 _) (d_cons (d_C (d_nil ?_)))))))
    refine d_draw2 (by decide) (by decide) fun m m0 m1 => ?_
    refine d_C (d_I0 (d_bl ?_))
    refine d_iteP (fun _ => ?_) (fun _ => ?_)
    · refine d_var (h2 _) ?_
      refine d_item (l' := l') (d := .str (S [c])) (.str _) ?_ ?_ (by walk_at "sub")
      · rw [List.length_map]; exact Nat.lt_of_lt_of_le (by omega) line_big
      · refine ⟨rfl, rfl, ds ++ [c], by rw [List.map_append]; rfl, ?_⟩
        rw [List.take_succ, hc]
        exact hs.append (List.Sublist.refl _)
    · refine d_noItem (l' := l') ?_ (by walk_at "sub")
      refine ⟨rfl, rfl, ds, rfl, hs.trans ?_⟩
      rw [List.take_succ]
      exact List.sublist_append_left _ _
  · rintro v R' l' es ⟨rfl, rfl, ds, rfl, hs⟩
    rw [S_tl, List.take_length] at hs
    exact kk v ds hs
end
section
variable {K : PySem.W.Frag} {vs : List V} {H : Hp} {Q : VK} {E : XK}
theorem len__law_string (h : sp__law_string K vs H Q E) : vs.length = 3 := spPen_len h
theorem len_positions (h : sp_positions K vs H Q E) : vs.length = 2 := spPure_len h
theorem len_contains (h : sp_contains K vs H Q E) : vs.length = 2 := spPure_len h
theorem len_progress_of (h : sp_progress_of K vs H Q E) : vs.length = 2 := spPure_len h
theorem len__law_pen (h : sp__law_pen K vs H Q E) : vs.length = 1 := by
  obtain ⟨_, _, _, _, _, _, rfl, _⟩ := h
  rfl
theorem len_law (h : spLaw K vs H Q E) : vs.length = 1 := by
  obtain ⟨_, _, rfl, _⟩ := h
  rfl
end
end GL

/-! G7: zip over lists, tuples, texts; list of a text; a text many times; isinstance; is of bools. -/
namespace GL
open PySem PySem.Spec L2
open PyProof.Rows hiding St
open SX (S)
theorem vals_back : ∀ {xs : List V} {us : List Value} {j : Nat} {u : Value}, Vals xs us → us[j]? = some u → ∃ x, xs[j]? = some x ∧ RelV x u
  | _, _, j, u, .nil, h => by simp at h
  | _, _, 0, u, .cons r _, h => by
    simp at h
    subst h
    exact ⟨_, rfl, r⟩
  | _, _, j + 1, u, .cons _ t, h => by
    simp at h
    simpa using vals_back t h
/-! ### what zip is asked to walk -/
inductive Sc where
  | lst (a : Addr)
  | tup (a : Addr)
  | txt (z : Str)
def Sc.v : Sc → V
  | .lst a => .ref a
  | .tup a => .ref a
  | .txt z => .str z
def ones (z : Str) : List V := z.cps.toList.map fun c => .str ⟨#[c]⟩
def Sc.has (K : PySem.W.Frag) (H : Hp) : Sc → List V → Prop
  | .lst a, xs => SqL K H a xs
  | .tup a, xs => SqT K H a xs
  | .txt z, xs => xs = ones z
def Sc.cell (it : Addr) (i : Nat) (h : Heap) : Sc → Prop
  | .lst a => h.IsListIter it a i
  | .tup a => h.IsTupleIter it a i
  | .txt z => ∃ t, h.IsStrIter it (strIterType z) z t i
def Sc.below (n : Nat) : Sc → Prop
  | .lst a => a < n
  | .tup a => a < n
  | .txt _ => True
section
variable {X : Cx} {pins : List (Addr × Obj)} {σ : L2.St} {H : Hp} {s : Shared} {A : Around}
theorem Sc.inj (I : Inv X pins σ H s) (c : Sc) {xs ys : List V} (h1 : c.has X.K H xs) (h2 : c.has X.K H ys) : xs = ys := by
  cases c with
  | lst a => exact I.list_inj h1 h2
  | tup a => exact I.tuple_inj h1 h2
  | txt z => exact Eq.trans h1 (Eq.symm h2)
theorem Sc.live (c : Sc) {it : Addr} {i : Nat} {h : Heap} (hc : c.cell it i h) : ∃ o, h.get? it = some o ∧ ∀ v, o.data ≠ .cell v := by
  cases c with
  | lst a => obtain ⟨o, e, _, d⟩ := hc; exact ⟨o, e, fun v q => by rw [d] at q; cases q⟩
  | tup a => obtain ⟨o, e, _, d⟩ := hc; exact ⟨o, e, fun v q => by rw [d] at q; cases q⟩
  | txt z => obtain ⟨t, o, e, _, d⟩ := hc; exact ⟨o, e, fun v q => by rw [d] at q; cases q⟩
theorem Sc.stay (c : Sc) {it : Addr} {i : Nat} {h h' : Heap} (hc : c.cell it i h) (k : ∀ o, h.get? it = some o → h'.get? it = some o) : c.cell it i h' := by
  cases c with
  | lst a => obtain ⟨o, e, r⟩ := hc; exact ⟨o, k o e, r⟩
  | tup a => obtain ⟨o, e, r⟩ := hc; exact ⟨o, k o e, r⟩
  | txt z => obtain ⟨t, o, e, r⟩ := hc; exact ⟨t, o, k o e, r⟩
/-- the source as the library's walks take it -/
structure Drawn1 (X : Cx) (A : Around) (c : Sc) (it n i : Nat) (xs : List V) (h : Heap) (fp : List Addr) (P : Nat → Value → Prop) (T : Nat → Heap → Prop) : Prop where
  d : Draws X.prog X.w A it fp xs.length P T
  st : T i h
  rel : ∀ j v, P j v → ∃ x, xs[j]? = some x ∧ RelV x v
  cell : ∀ j h', T j h' → c.cell it j h'
  mem : it ∈ fp
  lt : ∀ b ∈ fp, b = it ∨ b < n
theorem Sc.draws (hh : A.handled = none) (I : Inv X pins σ H s) (c : Sc) {it n i : Nat} {xs : List V} (hx : c.has X.K H xs) (hb : c.below n) (hn : n ≤ it) (hc : c.cell it i s.heap) : ∃ fp P T, Drawn1 X A c it n i xs s.heap fp P T := by
  cases c with
  | lst a =>
    obtain ⟨its, rv, p, _⟩ := I.list hx
    have e := Draws.list (prog := X.prog) (w := X.w) hh it a (Nat.ne_of_lt (Nat.lt_of_lt_of_le hb hn)) its.toArray
    have el : its.toArray.size = xs.length := by rw [List.size_toArray, rv.length]
    rw [el] at e
    refine ⟨_, _, _, e, ⟨hc, p.isList⟩, fun j v h => ?_, fun j h' t => t.1, List.mem_cons_self, fun b hb' => ?_⟩
    · exact vals_back rv (by simpa using h)
    · simp at hb'
      rcases hb' with rfl | rfl
      · exact .inl rfl
      · exact .inr hb
  | tup a =>
    obtain ⟨its, rv, p, _⟩ := I.tuple hx
    have e := Draws.tuple (prog := X.prog) (w := X.w) hh it a (Nat.ne_of_lt (Nat.lt_of_lt_of_le hb hn)) its.toArray
    have el : its.toArray.size = xs.length := by rw [List.size_toArray, rv.length]
    rw [el] at e
    refine ⟨_, _, _, e, ⟨hc, p⟩, fun j v h => ?_, fun j h' t => t.1, List.mem_cons_self, fun b hb' => ?_⟩
    · exact vals_back rv (by simpa using h)
    · simp at hb'
      rcases hb' with rfl | rfl
      · exact .inl rfl
      · exact .inr hb
  | txt z =>
    obtain ⟨t, hc⟩ := hc
    have e := Draws.text (prog := X.prog) (w := X.w) hh it z t
    have ex : xs = ones z := hx
    have el : z.cps.size = xs.length := by rw [ex]; simp [ones]
    rw [el] at e
    refine ⟨_, _, _, e, hc, fun j v h => ?_, fun j h' q => ⟨t, q⟩, List.mem_cons_self, fun b hb' => .inl (by simpa using hb')⟩
    obtain ⟨c, u, hc', rfl⟩ := h
    refine ⟨.str ⟨#[c]⟩, ?_, ⟨u, rfl⟩⟩
    rw [ex]
    simp [ones, hc']
/-- iter(v) of a source -/
theorem Sc.begins (I : Inv X pins σ H s) (c : Sc) {xs : List V} {u : Value} (hx : c.has X.K H xs) (r : RelV c.v u) :
    ∃ o Hd, Begins u o Hd ∧ Hd s.heap ∧ c.below s.heap.objs.size ∧ ∀ it h, h.get? it = some o → c.cell it 0 h := by
  cases c with
  | lst a =>
    cases (show u = Value.ref a from r)
    obtain ⟨its, rv, p, _⟩ := I.list hx
    exact ⟨_, _, begins_list a its.toArray, p.isList, p.lt, fun it h e => ⟨_, e, rfl, rfl⟩⟩
  | tup a =>
    cases (show u = Value.ref a from r)
    obtain ⟨its, rv, p, _⟩ := I.tuple hx
    obtain ⟨o, e, _⟩ := id p
    exact ⟨_, _, begins_tuple a its.toArray, p, Heap.lt_size e, fun it h e => ⟨_, e, rfl, rfl⟩⟩
  | txt z =>
    obtain ⟨t, q⟩ := (show ∃ t, u = Value.str z t from r)
    subst q
    exact ⟨_, _, begins_text z t, trivial, trivial, fun it h e => ⟨t, _, e, rfl, rfl⟩⟩
end
/-- zip(c1, c2): new pairs, as many as the shorter one has -/
def Itzg (K : PySem.W.Frag) (c1 c2 : Sc) : It :=
  ⟨fun i H => ∃ xs ys : List V, c1.has K H xs ∧ c2.has K H ys ∧ i < xs.length ∧ i < ys.length,
    fun i H v H' => ∃ T x y, v = .ref T ∧ H T = none ∧ H' = upd H T (.tup [x, y]) ∧ (∀ xs, c1.has K H xs → xs[i]? = some x) ∧ ∀ ys, c2.has K H ys → ys[i]? = some y,
    fun i H => ∃ xs ys : List V, c1.has K H xs ∧ c2.has K H ys ∧ i = min xs.length ys.length⟩
abbrev zfp (n : Nat) : List Addr := [n + 4, n + 2, n + 3, n, n + 1]
def zst (c1 c2 : Sc) (n i : Nat) (h : Heap) : Prop := IsZip h (n + 4) (n + 2) (n + 3) .none ∧ IsTupOf2 h (n + 2) (.ref n) (.ref (n + 1)) ∧ (∃ x y, IsTupOf2 h (n + 3) x y) ∧ c1.cell n i h ∧ c2.cell (n + 1) i h
theorem zsep {X : Cx} {A : Around} {c1 c2 : Sc} {n i j : Nat} {xs ys : List V} {h : Heap} {f1 f2 : List Addr} {P1 P2 : Nat → Value → Prop} {T1 T2 : Nat → Heap → Prop} (D1 : Drawn1 X A c1 n n i xs h f1 P1 T1) (D2 : Drawn1 X A c2 (n + 1) n i ys h f2 P2 T2) :
    ZipSep2 (n + 4) (n + 2) (n + 3) n (n + 1) f1 f2 := by
  have ne : ∀ a b : Nat, a ≠ b → (show Addr from a) ≠ (show Addr from b) := fun _ _ h => h
  have o1 : ∀ b : Nat, (b ≠ n ∧ n ≤ b) → (show Addr from b) ∉ f1 := fun b hb q => by
    rcases D1.lt _ q with e | e
    · exact hb.1 e
    · exact absurd (show b < n from e) (by omega)
  have o2 : ∀ b : Nat, (b ≠ n + 1 ∧ n ≤ b) → (show Addr from b) ∉ f2 := fun b hb q => by
    rcases D2.lt _ q with e | e
    · exact hb.1 e
    · exact absurd (show b < n from e) (by omega)
  exact ⟨ne _ _ (by omega), ne _ _ (by omega), ne _ _ (by omega), ne _ _ (by omega), D1.mem, o1 _ (by omega), o1 _ (by omega), ne _ _ (by omega), D2.mem, o2 _ (by omega), o2 _ (by omega), o2 _ (by omega), o1 _ (by omega)⟩
theorem turn_zipg {P : Program} {w : World} {K : PySem.W.Frag} {elts : List Expr} {kk : Nat} {tpos : Pos} {c1 c2 : Sc} {n : Nat} (b1 : c1.below n) (b2 : c2.below n) :
    Turn P w K (.Tuple elts kk tpos) (Itzg K c1 c2) (zfp n) (n + 4) (zst c1 c2 n) where
  mem := List.mem_cons_self
  obj := fun i h st c hc => by
    obtain ⟨hz, hTI, ⟨x, y, hTO⟩, h1, h2⟩ := st
    have q : c = n + 4 ∨ c = n + 2 ∨ c = n + 3 ∨ c = n ∨ c = n + 1 := by simpa using hc
    rcases q with rfl | rfl | rfl | rfl | rfl
    · exact ⟨_, hz, nofun⟩
    · exact ⟨_, hTI, nofun⟩
    · exact ⟨_, hTO, nofun⟩
    · exact c1.live h1
    · exact c2.live h2
  keep := fun i h h' st k => by
    obtain ⟨hz, hTI, ⟨x, y, hTO⟩, h1, h2⟩ := st
    refine ⟨k _ (by simp) _ hz, k _ (by simp) _ hTI, ⟨x, y, k _ (by simp) _ hTO⟩, c1.stay h1 fun o e => k _ (by simp) o e, c2.stay h2 fun o e => k _ (by simp) o e⟩
  item := by
    intro X hP hw hK hc i pins s σ H E I hf st hg
    subst hP hw hK
    have lv : ∀ c, c ∈ zfp n → ∃ o, s.heap.get? c = some o := fun c hcm => (by
      obtain ⟨hz, hTI, ⟨x, y, hTO⟩, h1, h2⟩ := st
      have q : c = n + 4 ∨ c = n + 2 ∨ c = n + 3 ∨ c = n ∨ c = n + 1 := by simpa using hcm
      rcases q with rfl | rfl | rfl | rfl | rfl
      · exact ⟨_, hz⟩
      · exact ⟨_, hTI⟩
      · exact ⟨_, hTO⟩
      · obtain ⟨o, e, _⟩ := c1.live h1; exact ⟨o, e⟩
      · obtain ⟨o, e, _⟩ := c2.live h2; exact ⟨o, e⟩)
    obtain ⟨hz, hTI, ⟨a0, b0, hTO⟩, h1, h2⟩ := st
    obtain ⟨xs, ys, hx, hy, l1, l2⟩ := hg
    have hh : X.A.in1.handled = none := I.ok.hd hc
    obtain ⟨f1, P1, T1, D1⟩ := c1.draws (A := X.A.in1) hh I hx b1 (Nat.le_refl _) h1
    obtain ⟨f2, P2, T2, D2⟩ := c2.draws (A := X.A.in1) hh I hy b2 (Nat.le_succ n) h2
    have W := GoesN.zip2 (elts := elts) (x1 := kk) (pos := tpos) (zsep (j := 0) D1 D2) D1.d D2.d
    refine W.goes i s _ E (Nat.lt_min.2 ⟨l1, l2⟩) ⟨hz, hTI, ⟨_, _, hTO⟩, D1.st, D2.st⟩ fun v h' tk hY st' hk _ => ?_
    obtain ⟨T, a, b, rfl, hT, p1, p2, hTup⟩ := hY
    obtain ⟨x, ex, rx⟩ := D1.rel _ _ p1
    obtain ⟨y, ey, ry⟩ := D2.rel _ _ p2
    have new : ObjOk X.prog X.w (upd H T (.tup [x, y])) h' T (.tup [x, y]) := ⟨by show 2 ≤ sizeLine; decide, [a, b], .cons rx (.cons ry .nil), hTup⟩
    have I1 : Inv X pins σ (upd H T (.tup [x, y])) { s with heap := h', toks := tk } :=
      I.turnedNew (t' := tk) (ch := [n + 4, n + 3, n, n + 1]) hk (fun c hcm => hf c (by
        have q : c = n + 4 ∨ c = n + 3 ∨ c = n ∨ c = n + 1 := by simpa using hcm
        rcases q with rfl | rfl | rfl | rfl <;> simp)) hT new
    refine ⟨.ref T, _, I1, rfl, ⟨T, x, y, rfl, I.hok.fresh hT, rfl, fun zs hz' => by rw [c1.inj I hz' hx]; exact ex, fun zs hz' => by rw [c2.inj I hz' hy]; exact ey⟩, ?_, fun c hcm => ?_⟩
    · obtain ⟨g1, g2, g3, g4, g5⟩ := st'
      exact ⟨g1, g2, g3, D1.cell _ _ g4, D2.cell _ _ g5⟩
    · obtain ⟨o, e⟩ := lv c hcm
      rw [upd_ne (Nat.ne_of_lt (Nat.lt_of_lt_of_le (Heap.lt_size e) hT))]
      exact (hf c hcm).1
  done := by
    intro X hP hw hK hc i pins s σ H E I hf st hg
    subst hP hw hK
    obtain ⟨hz, hTI, ⟨a0, b0, hTO⟩, h1, h2⟩ := st
    obtain ⟨xs, ys, hx, hy, rfl⟩ := hg
    have hh : X.A.in1.handled = none := I.ok.hd hc
    obtain ⟨f1, P1, T1, D1⟩ := c1.draws (A := X.A.in1) hh I hx b1 (Nat.le_refl _) h1
    obtain ⟨f2, P2, T2, D2⟩ := c2.draws (A := X.A.in1) hh I hy b2 (Nat.le_succ n) h2
    have W := GoesN.zip2 (elts := elts) (x1 := kk) (pos := tpos) (zsep (j := 0) D1 D2) D1.d D2.d
    refine W.stops s _ E ⟨hz, hTI, ⟨_, _, hTO⟩, D1.st, D2.st⟩ fun h' tk hk _ => ?_
    exact I.turnedL (t' := tk) (ch := [n + 4, n + 3, n, n + 1]) hk fun c hcm => hf c (by
      have q : c = n + 4 ∨ c = n + 3 ∨ c = n ∨ c = n + 1 := by simpa using hcm
      rcases q with rfl | rfl | rfl | rfl <;> simp)
  self := fun A i s Q E st h => wpAny_pyIter_zip st.1 h
def gZip (K : PySem.W.Frag) (ta : TA) : TI := fun σ H R => ta σ H fun vs H1 => ∃ (c1 c2 : Sc) (xs ys : List V), vs = [c1.v, c2.v] ∧ c1.has K H1 xs ∧ c2.has K H1 ys ∧ R (Itzg K c1 c2) H1
theorem pi_gzip {X : Cx} {e e2 : Expr} {ta : TA} {p pos tpos : Pos} {elts : List Expr} {kk : Nat} (hg : Gl X "zip") (hm : X.mg "zip" = none) (ha : PA X [e, e2] ta)
    (hs : starEach [e, e2] X.env = (false, eval e X.env) :: starEach [e2] X.env := by rfl) (hpl : (backTo pos (starEach [e2] X.env)).any (·.1) = false := by rfl) :
    PI X (.Tuple elts kk tpos) (.Call (.Name "zip" p) [e, e2] [] pos) (gZip X.K ta) := by
  constructor
  intro pins s σ H R I h
  refine Call_ ?_
  refine ld_blt I hg hm PyProof.Rows.boot_zip ?_
  refine PyProof.Rows.callWith_type1 ?_ hs hpl
  apply thn (ha.run pos pins s σ H _ I h)
  rintro us s1 ⟨vs, H1, I1, r1, c1, c2, xs, ys, rfl, hx, hy, q⟩
  obtain ⟨u1, u2, rfl, r1, r2⟩ := vals2 r1
  obtain ⟨o1, Hd1, B1, q1, b1, k1⟩ := c1.begins I1 hx r1
  obtain ⟨o2, Hd2, B2, q2, b2, k2⟩ := c2.begins I1 hy r2
  apply zip_begins2 B1 B2 q1 q2
  intro h' hz hTI hTO e1 e2 hsz hk
  apply wpAny_pyIter_zip hz
  refine ⟨_, zfp s1.heap.objs.size, zst c1 c2 s1.heap.objs.size, Itzg X.K c1 c2, H1, rfl, I1.kept (t' := s1.toks) hk, turn_zipg b1 b2, ⟨hz, hTI, ⟨_, _, hTO⟩, k1 _ _ e1, k2 _ _ e2⟩, fun c hcm => ?_, q⟩
  have hle : s1.heap.objs.size ≤ c := by
    have q : c = s1.heap.objs.size + 4 ∨ c = s1.heap.objs.size + 2 ∨ c = s1.heap.objs.size + 3 ∨ c = s1.heap.objs.size ∨ c = s1.heap.objs.size + 1 := by simpa using hcm
    rcases q with rfl | rfl | rfl | rfl | rfl
    · exact Nat.le_add_right _ _
    · exact Nat.le_add_right _ _
    · exact Nat.le_add_right _ _
    · exact Nat.le_refl _
    · exact Nat.le_add_right _ _
  exact I1.fpOk hle (I1.hok.fresh hle)
/-! ### list(text), text * n, isinstance, is -/
theorem vals_of_get : ∀ {xs : List V} {us : List Value}, xs.length = us.length → (∀ (j : Nat) (v : Value), us[j]? = some v → ∃ x, xs[j]? = some x ∧ RelV x v) → Vals xs us
  | [], [], _, _ => .nil
  | [], _ :: _, h, _ => by simp at h
  | _ :: _, [], h, _ => by simp at h
  | x :: xs, u :: us, h, k => by
    obtain ⟨y, ey, r⟩ := k 0 u rfl
    cases ey
    exact .cons r (vals_of_get (by simpa using h) fun j v e => k (j + 1) v e)
def gListA (K : PySem.W.Frag) : List V → Hp → VK → Prop := fun xs H Q => gList K xs H Q ∨ ∃ z : Str, xs = [.str z] ∧ z.length ≤ sizeLine ∧ ∀ l, H l = none → Q (.ref l) (upd H l (.lst (ones z)))
theorem call_glistA {X : Cx} (hc : X.calm = true) : CallR X (.type "list") (gListA X.K) := by
  intro pins s σ H xs us Q I r h
  rcases h with h | ⟨z, rfl, hz, q⟩
  · exact call_glist pins s σ H xs us Q I r h
  obtain ⟨u, rfl, ru⟩ := vals1 r
  obtain ⟨t, rfl⟩ := (show ∃ t, u = Value.str z t from ru)
  refine call_list_str (I.ok.hd hc) z t (fun h' tk acc c hk hS hacc => ?_) hz
  have hv : Vals (ones z) acc.toList := by
    refine vals_of_get (by rw [show acc.toList.length = acc.size from Array.length_toList, hacc.1]; exact (List.length_map _).trans Array.length_toList) fun j v e => ?_
    obtain ⟨c, u, hc', rfl⟩ := hacc.2 j v (by simpa using e)
    exact ⟨.str ⟨#[c]⟩, by simp [ones, hc'], ⟨u, rfl⟩⟩
  have hn : H s.heap.objs.size = none := I.hok.fresh (Nat.le_refl _)
  have new : ObjOk X.prog X.w (upd H s.heap.objs.size (.lst (ones z))) h' s.heap.objs.size (.lst (ones z)) :=
    ⟨Nat.le_trans (Nat.le_of_eq ((List.length_map _).trans Array.length_toList)) hz, acc.toList, c, hv, by simpa using hS⟩
  exact ⟨.ref _, _, I.laid (t' := tk) hk (Nat.le_refl _) new, rfl, q _ hn⟩
def gMulA : R2 := fun x y H Q => gMul x y H Q ∨ ∃ (z : Str) (n : Int), x = .str z ∧ y = .int n ∧ MulOk z n ∧ Q (.str (Txt.mul z n)) H
theorem op_gmulA {X : Cx} : OpR X (binaryOp .Mult) gMulA := by
  intro pins s σ H x y v u Q I rx ry h
  rcases h with h | ⟨z, n, rfl, rfl, hm, q⟩
  · exact op_gmul pins s σ H x y v u Q I rx ry h
  obtain ⟨t, rfl⟩ := (show ∃ t, v = Value.str z t from rx)
  obtain ⟨t2, rfl⟩ := (show ∃ t, u = Value.int n t from ry)
  exact SB.mul hm fun t' k => ⟨.str _, H, I.tok k, ⟨t', rfl⟩, q⟩
end GL

/-! G8: derived rules for G7's readings. -/
namespace GL
open PySem PySem.Spec L2
open SX (S)
local macro_rules | `(tactic| walk_at "mem") => `(tactic| (first | exact List.Mem.head _ | exact List.Mem.tail _ (List.Mem.head _) | exact List.Mem.tail _ (List.Mem.tail _ (List.Mem.head _)) | ((repeat (first | exact List.Mem.head _ | apply List.Mem.tail)); done)))
local macro_rules | `(tactic| walk_at "inl") => `(tactic| (first | exact InL.int _ | exact InL.str _ | exact InL.bl _ | exact InL.non | (refine InL.mem ?zm; walk_at "mem") | assumption))
local macro_rules | `(tactic| walk_at "inls") => `(tactic| (repeat (first | exact InLs.nil | (refine InLs.cons ?zi ?_; case zi => walk_at "inl"))))
local macro_rules | `(tactic| walk_at "set") => `(tactic| (simp only [wipe, List.set_cons_succ, List.set_cons_zero]; rfl))
local macro_rules | `(tactic| walk_at "tails") => `(tactic| (first | exact sub_refl | exact sub_tail sub_refl | exact sub_tail (sub_tail sub_refl) | exact sub_nil | ((repeat (first | exact sub_refl | apply sub_tail)); done)))
local macro_rules | `(tactic| walk_at "sub") => `(tactic| (first | walk_at "tails" | ((repeat (refine sub_cons ?zi ?_; case zi => walk_at "inl")); walk_at "tails")))
local macro_rules | `(tactic| walk_at "g1") => `(tactic| (first
  | with_reducible refine d_seq ?_
  | with_reducible refine d_asg ?_
  | ((with_reducible refine d_name (σ' := ?zs) ?zh ?_); (case zh => walk_at "set"))
  | ((with_reducible refine d_var (v := ?zs) ?zh ?_); (case zh => rfl))
  | with_reducible refine d_C ?_
  | with_reducible refine d_op ?_
  | with_reducible refine d_cons ?_
  | with_reducible refine d_nil ?_
  | with_reducible refine d_cb ?_
  | with_reducible refine d_g ?_
  | with_reducible refine d_ifS ?_
  | with_reducible refine d_test ?_
  | with_reducible refine d_bl ?_
  | with_reducible refine d_addI ?_
  | with_reducible refine d_I0 ?_
  | with_reducible refine d_ret ?_
  | with_reducible refine d_retN ?_
  | with_reducible refine d_next ?_
  | with_reducible refine d_drop ?_
  | with_reducible refine d_and ?_
  | with_reducible refine d_or ?_
  | with_reducible refine d_not ?_
  | with_reducible refine d_andV ?_
  | with_reducible refine d_orV ?_
  | with_reducible refine d_notV ?_
  | with_reducible refine d_tru ?_
  | with_reducible refine d_truB ?_
  | with_reducible refine d_tif ?_
  | with_reducible refine d_iteT ?_
  | with_reducible refine d_iteF ?_
  | with_reducible refine d_iteNT ?_
  | with_reducible refine d_iteNF ?_
  | with_reducible refine d_eqI ?_
  | with_reducible refine d_neI ?_
  | with_reducible refine d_eqS ?_
  | with_reducible refine d_neS ?_
  | with_reducible refine d_eqB ?_
  | with_reducible refine d_neB ?_
  | with_reducible refine d_isN ?_
  | with_reducible refine d_notN ?_
  | with_reducible refine d_bm ?_
  | with_reducible refine d_tyS ?_
  | with_reducible refine d_tyO ?_
  | with_reducible refine d_find3 ?_
  | with_reducible refine d_tup ?_
  | with_reducible refine d_lst ?_
  | with_reducible refine d_for ?_
  | with_reducible refine d_iRng1 ?_
  | with_reducible refine d_gIt ?_
  | with_reducible refine d_lc ?_
  | with_reducible refine d_yes ?_
  | with_reducible refine d_tSl ?_
  | with_reducible refine d_noPart ?_
  | with_reducible refine d_part ?_
  | with_reducible refine d_int ?_
  | ((with_reducible refine d_wipe ?zh ?_); (case zh => rfl))
  | ((with_reducible refine d_aug (v := ?zs) ?zh ?_); (case zh => rfl))
  | with_reducible refine d_ipI ?_
  | ((with_reducible refine d_set (σ' := ?zs) ?zh ?_); (case zh => walk_at "set"))))
local macro_rules | `(tactic| walk_at "go") => `(tactic| (repeat walk_at "g1"))
def kPar (i j : Nat) (vs : List V) (D : Ends) (σ : L2.St) (H1 : Hp) : Prop := ∃ v w, vs = [v, w] ∧ D.nx ((σ.set i (some v)).set j (some w)) H1
theorem dt_ones {K : PySem.W.Frag} {H : Hp} : ∀ cs : List Nat, DtAll K H (cs.map fun c => V.str ⟨#[c]⟩) (cs.map fun c => PyData.str ⟨#[c]⟩)
  | [] => .nil
  | c :: cs => .cons (.str _) (dt_ones cs)
/-- the name of the data's type (the plain ones) -/
def tyD : PyData → String
  | .none => "NoneType"
  | .bool _ => "bool"
  | .int _ => "int"
  | .str _ => "str"
  | .list _ => "list"
  | .tuple _ => "tuple"
  | _ => ""
theorem Dt.ty {K : PySem.W.Frag} {H : Hp} {x : V} {d : PyData} (h : Dt K H x d) : ∃ t, TyX K H x (.type t) ∧ t = tyD d := by
  cases h with
  | non => exact ⟨_, .base .non, rfl⟩
  | bl b => exact ⟨_, .base (.bl b), rfl⟩
  | int i => exact ⟨_, .base (.int i), rfl⟩
  | str x => exact ⟨_, .base (.str x), rfl⟩
  | lst e _ => exact ⟨_, .base (.lst e), rfl⟩
  | tup e _ =>
    rcases e with (e | ⟨o, e⟩) | ⟨o, its, n, e, c, _⟩
    · exact ⟨_, .base (.tup e), rfl⟩
    · exact ⟨_, .fTuple e, rfl⟩
    · exact ⟨_, .kTuple e c, rfl⟩
section
variable {K : PySem.W.Frag} {D0 : Hp} {R : Res} {l : List (V × PyData)} {σ : L2.St} {D : Ends} {Q : VK}
def kZip (K : PySem.W.Frag) (vs : List V) (H1 : Hp) (Ri : It → Hp → Prop) : Prop := ∃ (c1 c2 : Sc) (xs ys : List V), vs = [c1.v, c2.v] ∧ c1.has K H1 xs ∧ c2.has K H1 ys ∧ Ri (Itzg K c1 c2) H1
theorem d_gZip {ta : TA} {Ri : It → Hp → Prop} (k : RD K D0 R l (fun H => ta σ H fun vs H1 => kZip K vs H1 Ri)) : RD K D0 R l (fun H => gZip K ta σ H Ri) := k
theorem d_gcons {t : TG} {u : TGs} {v : V} {r : List V} {Qn : L2.St → Hp → Prop} (k : RD K D0 R l (fun H => t v σ H fun σ' H' => u r σ' H' Qn)) : RD K D0 R l (fun H => gCons t u (v :: r) σ H Qn) := fun N H A => ⟨v, r, rfl, k N H A⟩
theorem d_gnil {Qn : L2.St → Hp → Prop} (k : RD K D0 R l (Qn σ)) : RD K D0 R l (fun H => gNil [] σ H Qn) := fun N H A => ⟨rfl, k N H A⟩
/-- for a, b in zip(a tuple, a text) -/
theorem d_forZipTS {g : TGs} {tb : TS} {v : V} {z : Str} {ds : List PyData} (hv : InL l v (.tuple ds)) (P : Nat → Res → L2.St → List (V × PyData) → Prop) (hkeep : ∀ i R' σ' l', P i R' σ' l' → InL l' v (.tuple ds)) (h0 : P 0 R σ l)
    (hs : ∀ i d x c R' σ' l', ds[i]? = some d → z.cps.toList[i]? = some c → Dv x d → P i R' σ' l' → RD K D0 R' ((x, d) :: l') (fun H => g [x, .str ⟨#[c]⟩] σ' H fun σ2 H2 => tb { D with nx := Cont K D0 (P (i + 1)), ct := Cont K D0 (P (i + 1)), bk := D.nx } σ2 H2))
    (hd : ∀ R' σ' l', P (min ds.length z.cps.toList.length) R' σ' l' → RD K D0 R' l' (fun H => D.nx σ' H)) :
    RD K D0 R l (fun H => kZip K [v, .str z] H fun J H1 => ForK (gTup K 2 g) tb D σ J H1) := fun N H A => by
  obtain ⟨a, xs, rfl, ha, hd0⟩ := (A.dt hv).tuple
  have hl : ∀ {i R' σ' l' N' H'}, P i R' σ' l' → At K D0 R' l' N' H' → ∃ xs', SqT K H' a xs' ∧ DtAll K (off H' N') xs' ds := fun p A' => by
    obtain ⟨a', xs', e, h', d'⟩ := (A'.dt (hkeep _ _ _ _ p)).tuple
    cases e
    exact ⟨xs', same_sqT off_same h', d'⟩
  have lz : (ones z).length = z.cps.toList.length := List.length_map _
  refine ⟨.tup a, .txt z, xs, ones z, rfl, same_sqT off_same ha, rfl, fun i m σ H => m = min ds.length z.cps.toList.length - i ∧ i ≤ min ds.length z.cps.toList.length ∧ Cont K D0 (P i) σ H, ⟨_, rfl, Nat.zero_le _, R, l, N, h0, A⟩, ?_⟩
  rintro i m σ' H' ⟨rfl, hi, R', l', N', p, A'⟩
  obtain ⟨xs', hq, d'⟩ := hl p A'
  by_cases hlt : i < min ds.length z.cps.toList.length
  · have l1 : i < ds.length := by omega
    have l2 : i < z.cps.toList.length := by omega
    refine .inr ⟨⟨xs', ones z, hq, rfl, by rw [d'.len]; exact l1, by rw [lz]; exact l2⟩, Cont K D0 (P (i + 1)), fun σ2 H2 p => ⟨min ds.length z.cps.toList.length - (i + 1), by omega, rfl, hlt, p⟩, ?_⟩
    rintro u H2 ⟨T, x, y, rfl, hT, rfl, hx, hy⟩
    obtain ⟨d, e1, e2⟩ := d'.get (hx xs' hq)
    have ey := hy (ones z) rfl
    obtain ⟨c, hc⟩ : ∃ c, z.cps.toList[i]? = some c := ⟨_, List.getElem?_eq_getElem l2⟩
    have ey2 : y = .str ⟨#[c]⟩ := by
      rw [show (ones z)[i]? = (z.cps.toList[i]?).map (fun c => V.str ⟨#[c]⟩) from List.getElem?_map .., hc] at ey
      exact (Option.some.inj ey).symm
    subst ey2
    obtain ⟨A2, e⟩ := A'.new (.tup [x, .str ⟨#[c]⟩]) hT
    have e3 : Dt K (off (upd H' T (.tup [x, .str ⟨#[c]⟩])) N') x d := by
      have A3 := (A'.facts e2).new (.tup [x, .str ⟨#[c]⟩]) hT
      exact A3.1.dt (.mem List.mem_cons_self)
    have r := hs i d x c R' σ' l' e1 hc e2.dv p N' _ (A2.facts e3)
    exact ⟨T, [x, .str ⟨#[c]⟩], rfl, .inl (.inl upd_same), rfl, r⟩
  · have e : i = min ds.length z.cps.toList.length := by omega
    subst e
    exact .inl ⟨⟨xs', ones z, hq, rfl, by rw [d'.len, lz]⟩, hd R' σ' l' p N' H' A'⟩
/-! ### list(text), text * n, isinstance, is, a, b = .. -/
theorem d_listT {z : Str} (hz : z.length ≤ sizeLine) (k : ∀ v, RD K D0 R ((v, .list (z.cps.toList.map fun c => .str ⟨#[c]⟩)) :: l) (Q v)) : RD K D0 R l (fun H => gListA K [.str z] H Q) :=
  fun N H A => .inr ⟨z, rfl, hz, RD.new (fun D p _ e => .lst e (dt_ones _)) k N H A⟩
theorem d_mulIA {i j : Int} (c : CMul i j) (k : RD K D0 R l (Q (.int (i * j)))) : RD K D0 R l (fun H => gMulA (.int i) (.int j) H Q) := fun N H A => .inl (d_mulI c k N H A)
theorem mulN {cs : List Nat} {n : Nat} (h : cs.length * n ≤ 1000000) (hn : n ≤ 1000000) : MulOk (S cs) (n : Int) ∧ Txt.mul (S cs) (n : Int) = S (List.replicate n cs).flatten := by
  have hl : (S cs).length = cs.length := S_len cs
  have hc : (n : Int).toNat = n := rfl
  refine ⟨⟨?_, ?_, ?_⟩, ?_⟩
  · have h1 : ¬ ((n : Int) < -(2 ^ 63 : Int)) := by omega
    have h2 : ¬ ((n : Int) ≥ 2 ^ 63) := by omega
    rw [decide_eq_false h1, decide_eq_false h2]
    rfl
  · intro a _
    rw [hl]
    have hm : (cs.length : Int) * (n : Int) ≤ 2 ^ 63 - 1 := by
      have : ((cs.length * n : Nat) : Int) ≤ 1000000 := by omega
      rw [Int.natCast_mul] at this
      omega
    have := Int.le_ediv_of_mul_le (show (0 : Int) < n by omega) hm
    omega
  · intro _ _
    rw [hl, hc]
    have h3 : ¬ (cs.length * n > sizeLine) := Nat.not_lt.2 (Nat.le_trans (Nat.le_trans h (by decide)) line_big)
    exact decide_eq_false h3
  · unfold Txt.mul
    have hf : ∀ (m : Nat) (acc : List Nat), ((List.replicate m (S cs).cps).foldl (· ++ ·) acc.toArray) = (acc ++ (List.replicate m cs).flatten).toArray := by
      intro m
      induction m with
      | zero => intro acc; simp
      | succ m ih =>
        intro acc
        rw [List.replicate_succ, List.foldl_cons, List.replicate_succ, List.flatten_cons]
        have e : acc.toArray ++ (S cs).cps = (acc ++ cs).toArray := by
          show acc.toArray ++ cs.toArray = _
          simp
        rw [e, ih, List.append_assoc]
    rw [hc]
    by_cases h1 : (n : Int) < 1
    · rw [if_pos h1]
      have : n = 0 := by omega
      subst this
      rfl
    · rw [if_neg h1]
      by_cases h2 : ((n : Int) == 1 || (S cs).length == 0) = true
      · rw [if_pos h2]
        rcases Bool.or_eq_true_iff.1 h2 with q | q
        · have q2 : (n : Int) = 1 := by simpa using q
          have : n = 1 := by omega
          subst this
          simp
        · have : cs = [] := by
            rw [hl] at q
            exact List.length_eq_zero_iff.1 (by simpa using q)
          subst this
          simp
      · rw [if_neg h2]
        exact congrArg Str.mk (by simpa using hf n [])
theorem d_mulS {cs : List Nat} {n : Nat} (h : cs.length * n ≤ 1000000) (hn : n ≤ 1000000) (k : RD K D0 R l (Q (.str (S (List.replicate n cs).flatten)))) : RD K D0 R l (fun H => gMulA (.str (S cs)) (.int (n : Int)) H Q) :=
  fun N H A => .inr ⟨S cs, n, rfl, rfl, (mulN h hn).1, by rw [(mulN h hn).2]; exact k N H A⟩
theorem d_isB {a b : Bool} (k : RD K D0 R l (Q (.bl (decide (a = b))))) : RD K D0 R l (fun H => L2.rIsB (.bl a) (.bl b) H Q) := fun N H A => ⟨a, b, rfl, rfl, k N H A⟩
theorem d_notB {a b : Bool} (k : RD K D0 R l (Q (.bl (!decide (a = b))))) : RD K D0 R l (fun H => L2.rNotB (.bl a) (.bl b) H Q) := fun N H A => ⟨a, b, rfl, rfl, k N H A⟩
theorem d_par {i j : Nat} {ta : TA} (k : RD K D0 R l (fun H => ta σ H fun vs H1 => kPar i j vs D σ H1)) : RD K D0 R l (fun H => tPar i j ta D σ H) := k
theorem d_kPar {i j : Nat} {v w : V} (k : RD K D0 R l (fun H => D.nx ((σ.set i (some v)).set j (some w)) H)) : RD K D0 R l (fun H => kPar i j [v, w] D σ H) := fun N H A => ⟨v, w, rfl, k N H A⟩
/-- isinstance(x, T) -/
theorem d_isi {x : V} {d : PyData} {n : String} {b : Bool} (hx : InL l x d) (hk : ∀ t, t = tyD d → PySem.W.kitOne K (.type t) (.type n) = some b) (k : RD K D0 R l (Q (.bl b))) : RD K D0 R l (fun H => rIsi K [x, .ty n] H Q) := fun N H A => by
  obtain ⟨t, ht, e⟩ := (A.dH hx).ty
  exact ⟨x, .ty n, .type t, .type n, b, rfl, .ty n, ht, hk t e, k N H A⟩
theorem d_repr {x : V} {d : PyData} (hx : InL l x d) (h1 : d.showable = true) (h2 : d.depth ≤ 60) (h3 : d.shown.length ≤ sizeLine) (h4 : d.hasDict = false) (k : RD K D0 R l (Q (.str d.shown))) : RD K D0 R l (fun H => rRepr K [x] H Q) :=
  fun N H A => ⟨x, d, rfl, (A.dH hx).dp, h1, h4, h2, h3, k N H A⟩
theorem d_un {r : V → Hp → VK → Prop} {t : TE} (k : RD K D0 R l (fun H => t σ H fun x H1 => r x H1 Q)) : RD K D0 R l (fun H => tUn r t σ H Q) := k
theorem d_negI {i : Int} (k : RD K D0 R l (Q (.int (-i)))) : RD K D0 R l (fun H => gNeg (.int i) H Q) := fun N H A => ⟨i, rfl, k N H A⟩
theorem d_takeA {cs : List Nat} {n : Nat} (h : cs.length ≤ 1000000) (k : RD K D0 R l (Q (.str (S (cs.take n))))) : RD K D0 R l (fun H => gSl K (.str (S cs)) none (some (n : Int)) H Q) := by
  have e : cutS (S cs) none (some (n : Int)) = S (cs.take n) := by
    unfold cutS
    rw [HT.sIx_none, HT.sIx_nat, S_tl, S_len]
    by_cases hn : n ≤ cs.length
    · rw [Nat.min_eq_left hn]
      rfl
    · rw [Nat.min_eq_right (by omega), List.take_of_length_le (show cs.length ≤ n by omega)]
      show S ((cs.drop 0).take (cs.length - 0)) = S cs
      simp
  exact d_slS (by rw [S_len]; exact Nat.le_trans (Nat.le_trans h (by decide)) line_big) (by rw [e]; exact k)
theorem d_lcTup {v : V} {ds : List PyData} {g : TG} {tt : TT} {te : TE} {vs : List Nat} (hv : InL l v (.tuple ds)) (P : Nat → Res → List (V × PyData) → List PyData → Prop) (hkeep : ∀ i R' l' es, P i R' l' es → InL l' v (.tuple ds)) (h0 : P 0 R l [])
    (hs : ∀ i d x D R' l' es, ds[i]? = some d → Dv x d → P i R' l' es → RD K D0 (star (own K D es) R') ((x, d) :: l') (fun H => g x (wipe σ vs) H fun σ2 H2 => kWipe σ2 vs σ H2 fun H2 => tt σ2 H2 fun b H3 =>
      if b = true then te σ2 H3 fun y H4 => kItem D y H4 (ContC K D0 D (P (i + 1))) else ContC K D0 D (P (i + 1)) H3))
    (hd : ∀ v R' l' es, P ds.length R' l' es → RD K D0 R' ((v, .list es) :: l') (Q v)) :
    RD K D0 R l (fun H => wIt K v H fun J H1 => LcK g tt te vs σ Q J H1) := fun N H A => by
  obtain ⟨a, xs, rfl, ha, hd0⟩ := (A.dt hv).tuple
  have hl : ∀ {i D R' l' es N' H'}, P i R' l' es → At K D0 (star (own K D es) R') l' N' H' → ∃ xs', SqT K H' a xs' ∧ DtAll K (off H' N') xs' ds := fun p A' => by
    obtain ⟨a', xs', e, h', d'⟩ := (A'.dt (hkeep _ _ _ _ p)).tuple
    cases e
    exact ⟨xs', same_sqT off_same h', d'⟩
  refine .inr (.inl ⟨a, rfl, ⟨xs, same_sqT off_same ha⟩, fun D hD => ⟨fun i m H => m = ds.length - i ∧ i ≤ ds.length ∧ ContC K D0 D (P i) H, ⟨_, rfl, Nat.zero_le _, R, l, [], _, h0, A.newOwn hD .nil⟩, ?_⟩⟩)
  rintro i m H' ⟨rfl, hi, R', l', es, N', p, A'⟩
  obtain ⟨xs', hq, d'⟩ := hl p A'
  by_cases hlt : i < ds.length
  · have hx : i < xs'.length := by rw [d'.len]; exact hlt
    refine .inr ⟨⟨xs', xs'[i], hq, by simp [hx]⟩, ContC K D0 D (P (i + 1)), fun H2 p => ⟨ds.length - (i + 1), by omega, rfl, hlt, p⟩, ?_⟩
    rintro x H2 ⟨rfl, hy⟩
    obtain ⟨d, e1, e2⟩ := d'.get (hy xs' hq)
    exact hs i d x D R' l' es e1 e2.dv p N' _ (A'.facts e2)
  · have e : i = ds.length := by omega
    subst e
    obtain ⟨N2, A2⟩ := A'.freeze
    exact .inl ⟨⟨xs', hq, by rw [d'.len]; exact Nat.le_refl _⟩, hd (.ref D) R' l' es p N2 H' A2⟩
/-- signs of a text, each kept or not: any test that draws alone -/
theorem d_pickG {p : Addr} {cs : List Nat} {i j : Nat} {tt : TT} (ht : ∀ (R2 : Res) (σ2 : L2.St) (l2 : List (V × PyData)) (Qb : Bool → Hp → Prop), σ2[j]? = some (some (.ref p)) → (∀ b, RD K D0 (star R2 (star (pen K p) R)) l2 (Qb b)) → RD K D0 (star R2 (star (pen K p) R)) l2 (fun H => tt σ2 H Qb))
    (hl : cs.length ≤ 1000) (hp : (wipe σ [i])[j]? = some (some (.ref p))) (hi : i ≠ j) (hi2 : i < σ.length) (kk : ∀ (v : V) (ds : List Nat), ds.Sublist cs → RD K D0 (star (pen K p) R) ((v, .list (ds.map fun c => .str (S [c]))) :: l) (Q v)) :
    RD K D0 (star (pen K p) R) l (fun H => wIt K (.str (S cs)) H fun J H1 => LcK (gName i) tt (tVar i) [i] σ Q J H1) := by
  have hw' : ∀ v : V, wipe ((wipe σ [i]).set i (some v)) [i] = wipe σ [i] := fun v => by
    show ((σ.set i none).set i (some v)).set i none = σ.set i none
    rw [List.set_set, List.set_set]
  have h1 : ∀ v : V, ((wipe σ [i]).set i (some v))[j]? = some (some (.ref p)) := fun v => by
    rw [List.getElem?_set_ne hi]; exact hp
  have h2 : ∀ v : V, ((wipe σ [i]).set i (some v))[i]? = some (some v) := fun v => by
    rw [List.getElem?_set_self]
    rw [wipe_length]; exact hi2
  refine d_lcStr (fun n R' l' es => R' = star (pen K p) R ∧ l' = l ∧ ∃ ds : List Nat, es = ds.map (fun c => PyData.str (S [c])) ∧ ds.Sublist (cs.take n)) ?_ ?_ ?_
  · exact ⟨rfl, rfl, [], rfl, List.nil_sublist _⟩
  · rintro n c D R' l' es hc ⟨rfl, rfl, ds, rfl, hs⟩
    rw [S_tl] at hc
    have hdl : ds.length ≤ 1000 := Nat.le_trans hs.length_le (by rw [List.length_take]; omega)
    refine d_name rfl ?_
    refine d_wipe (hw' _) ?_
    refine ht _ _ _ _ (h1 _) fun b => ?_
    refine d_ite (fun _ => ?_) (fun _ => ?_)
    · refine d_var (h2 _) ?_
      refine d_item (l' := l') (d := .str (S [c])) (.str _) ?_ ?_ (by walk_at "sub")
      · rw [List.length_map]; exact Nat.lt_of_lt_of_le (by omega) line_big
      · refine ⟨rfl, rfl, ds ++ [c], by rw [List.map_append]; rfl, ?_⟩
        rw [List.take_succ, hc]
        exact hs.append (List.Sublist.refl _)
    · refine d_noItem (l' := l') ?_ (by walk_at "sub")
      refine ⟨rfl, rfl, ds, rfl, hs.trans ?_⟩
      rw [List.take_succ]
      exact List.sublist_append_left _ _
  · rintro v R' l' es ⟨rfl, rfl, ds, rfl, hs⟩
    rw [S_tl, List.take_length] at hs
    exact kk v ds hs
theorem d_positions {log pat : List Nat} {E : XK} (h1 : log.length ≤ 1000000) (h2 : pat.length ≤ 1000000) (k1 : ¬ pat.Sublist log → RD K D0 R l (Q .non))
    (k2 : ∀ (v : V) (ps : List Nat) (i : Nat), (∃ a, v = .ref a) → Gr log pat ps i → pat.Sublist log → RD K D0 R ((v, .tuple (ps.map fun (k : Nat) => .int k)) :: l) (Q v)) : RD K D0 R l (fun H => sp_positions K [.str (S log), .str (S pat)] H Q E) := by
  refine d_pure [.str (S log), .str (S pat)] (.cons (.str _) (.cons (.str _) .nil)) rfl ⟨log, pat, rfl, h1, h2⟩ fun v d hd hv => ?_
  obtain ⟨log', pat', e, h⟩ := hd
  cases e
  rcases h with ⟨rfl, hn⟩ | ⟨ps, i, rfl, hg, hs⟩
  · cases hv
    exact RD.forget (k1 hn)
  · exact k2 v ps i hv hg hs
theorem cutS_mid {cs : List Nat} {a b : Nat} : cutS (S cs) (some (a : Int)) (some (b : Int)) = S ((cs.drop a).take (b - a)) := by
  unfold cutS
  rw [HT.sIx_nat, HT.sIx_nat, S_tl, S_len]
  have e : (cs.drop (min a cs.length)).take (min b cs.length - min a cs.length) = (cs.drop a).take (b - a) := by
    by_cases ha : a ≤ cs.length
    · rw [Nat.min_eq_left ha]
      by_cases hb : b ≤ cs.length
      · rw [Nat.min_eq_left hb]
      · rw [Nat.min_eq_right (by omega), List.take_of_length_le (by rw [List.length_drop]; omega), List.take_of_length_le (by rw [List.length_drop]; omega)]
    · have h1 : min a cs.length = cs.length := Nat.min_eq_right (by omega)
      rw [h1, List.drop_of_length_le (Nat.le_refl _), List.drop_of_length_le (show cs.length ≤ a by omega)]
      simp
  rw [e]
theorem d_midS {cs : List Nat} {a b : Nat} (h : cs.length ≤ 1000000) (k : RD K D0 R l (Q (.str (S ((cs.drop a).take (b - a)))))) : RD K D0 R l (fun H => gSl K (.str (S cs)) (some (a : Int)) (some (b : Int)) H Q) :=
  d_slS (by rw [S_len]; exact Nat.le_trans (Nat.le_trans h (by decide)) line_big) (by rw [cutS_mid]; exact k)
theorem d_atS {cs : List Nat} {i : Int} {c : Nat} (h : cs.length ≤ 1000000) (hi : atI cs i = some c) (k : RD K D0 R l (Q (.str (S [c])))) : RD K D0 R l (fun H => rIx K (.str (S cs)) (.int i) H Q) :=
  d_ixS (by rw [S_len]; exact Nat.le_trans (Nat.le_trans h (by decide)) line_big) (by rw [S_tl]; exact hi) k
theorem depth_signs (cs : List Nat) : (PyData.list (cs.map fun c => PyData.str (S [c]))).depth ≤ 60 := by
  have h : PyData.depthAll (cs.map fun c => PyData.str (S [c])) = 0 := by
    induction cs with
    | nil => simp only [List.map_nil, PyData.depthAll]
    | cons c cs ih => simp only [List.map_cons, PyData.depthAll, PyData.depth, ih]; rfl
  simp only [PyData.depth, h]
  omega
theorem eqv_signs (cs : List Nat) : PyData.eqvAll (cs.map fun c => PyData.str (S [c])) (cs.map fun c => PyData.str (S [c])) = true := by
  induction cs with
  | nil => simp only [List.map_nil, PyData.eqvAll]
  | cons c cs ih => simp only [List.map_cons, PyData.eqvAll, PyData.eqv, ih, beq_self_eq_true, Bool.and_self]
end
end GL

/-! G9: own exceptions over ValueError with a field: what the head tells of them, raise, except as, the field. -/
namespace GL
open PySem PySem.Spec L2
open PyProof.Rows hiding St
/-! ### more that the head tells -/
def hookX (n : Nat) (fa : List He.Fa) (fn : List He.DefD) (ex : PySem.W.Frag → Bool) : PySem.W.Hook where
  α := He.AlD × Bool
  obs := fun s => (He.obsDG n fa fn s.heap.get?, ex (He.frG s.heap.get? (He.asD s.heap.get? n)))
  val := fun _ => (He.valD fn, true)
  says := fun _ h => ∃ K : PySem.W.Frag, K.In h ∧ He.SaysD fa fn K ∧ ex K = true
  of := fun _ _ e => ⟨_, He.frG_in, congrArg Prod.fst e, congrArg Prod.snd e⟩
  keeps := fun _ _ _ ⟨K, hK, c⟩ k => ⟨K, PySem.W.Frag.In.keeps hK k, c⟩
def obsX (n : Nat) (fa : List He.Fa) (fn : List He.DefD) (ex : PySem.W.Frag → Bool) (g : Addr → Option Obj) : He.AlD × Bool := (He.obsDG n fa fn g, ex (He.frG g (He.asD g n)))
theorem obsX_eq {n : Nat} {fa : List He.Fa} {fn : List He.DefD} {ex : PySem.W.Frag → Bool} {g : Addr → Option Obj} {s : Shared} (h : ∀ a, g a = s.heap.get? a) : obsX n fa fn ex g = (hookX n fa fn ex).obs s := by
  have e : g = s.heap.get? := funext h
  rw [e]
  rfl
def clsVE (K : PySem.W.Frag) (C : Addr) : Bool := match K.lookup C with
  | some ⟨.type "type", _, .cls cd, sl⟩ => (match cd.mro, sl.toList with
    | .ref D :: bm, [_, _, _, _, some (.builtin n), _] => (D == C && n == "ValueError.__new__") && ((!cd.hasDel && cd.hasDict) && PySem.HandSPX.refsVE bm)
    | _, _ => false)
  | _ => false
theorem clsVE_ok {K : PySem.W.Frag} {C : Addr} (h : clsVE K C = true) :
    ∃ nm q N bs bm sn sub ab col dd k0 k1 k2 k3 k5, K.lookup C = some (excClassObj nm q C N bs bm true sn sub ab col dd k0 k1 k2 k3 k5 "ValueError.__new__") ∧ PySem.HandSPX.refsVE bm = true := by
  unfold clsVE at h
  split at h
  · rename_i dd cd sl ho
    split at h
    · rename_i D bm k0 k1 k2 k3 n k5 e1 e2
      obtain ⟨nm, bs, mro, ns, qn, hd, sn, sub, ab, col, del⟩ := cd
      obtain ⟨sl⟩ := sl
      dsimp only at e1 e2 h
      subst e1 e2
      simp only [Bool.and_eq_true, beq_iff_eq, Bool.not_eq_true'] at h
      obtain ⟨⟨rfl, rfl⟩, ⟨rfl, rfl⟩, hb⟩ := h
      exact ⟨nm, qn, ns, bs, bm, sn, sub, ab, col, dd, k0, k1, k2, k3, k5, ho, hb⟩
    · cases h
  · cases h
/-- the class x (at C), over ValueError, keeps its one argument in the field n -/
structure ExT (K : PySem.W.Frag) (C fI : Addr) (n : Str) : Prop where
  T : OexC K C
  X : XfC K C
  no : PySem.W.findIn K (.ref C) n = some none
  iC : PySem.W.findIn K (.ref C) "__init__" = some (some (.ref fI))
  tI : PySem.W.typeIn K (.ref fI) = some (.type "function")
  te : PySem.W.exmOne K (.ref C) (.ref C) = some true
def exT (x n : Str) (K : PySem.W.Frag) : Bool :=
  (clsVE K (He.ga K x) && (xfB K (He.ga K x) && PySem.W.keepIn K (.ref (He.ga K x)))) &&
  ((decide (PySem.W.findIn K (.ref (He.ga K x)) "__setattr__" = some (some (.builtin "object.__setattr__"))) && decide (PySem.W.typeIn K (.ref (He.ga K x)) = some (.type "type"))) &&
  ((decide (PySem.W.findIn K (.ref (He.ga K x)) n = some none) && decide (PySem.W.findIn K (.ref (He.ga K x)) "__init__" = some (some (.ref (He.ma K (He.ga K x) "__init__"))))) &&
  (decide (PySem.W.typeIn K (.ref (He.ma K (He.ga K x) "__init__")) = some (.type "function")) && decide (PySem.W.exmOne K (.ref (He.ga K x)) (.ref (He.ga K x)) = some true))))
theorem exT_ok {K : PySem.W.Frag} {x n : Str} (h : exT x n K = true) : ExT K (He.ga K x) (He.ma K (He.ga K x) "__init__") n := by
  unfold exT at h
  simp only [Bool.and_eq_true, decide_eq_true_eq] at h
  obtain ⟨⟨h1, h2, h3⟩, ⟨h4, h5⟩, ⟨h6, h7⟩, h8, h9⟩ := h
  have X := xfB_ok h2
  exact ⟨⟨clsVE_ok h1, h4, X.exC, h5, h3⟩, X, h6, h7, h8, h9⟩
/-! ### its __init__ -/
def spInit (C : Addr) (n : Str) : Sp := fun vs H Q _ => ∃ a y, vs = [.ref a, y] ∧ H a = some (exo a C none) ∧ ∀ dx, H dx = none → dx ≠ a → Q .non (upd (upd H dx (exd dx [(n, y)])) a (exo a C (some dx)))
section
variable {P : Program} {w : World} {K : PySem.W.Frag} {mg : Str → Option Value} {base : Heap} {f C fI : Addr} {fd : FuncData} {n : Str}
theorem pure_init {vs : List V} {H : Hp} {Q : VK} {E : XK} {s1 s2 : Str} (T : ExT K C fI n) (h : spInit C n vs H Q E) :
    tOst K n (tVar 0) (tVar 1) { nx := fun _ H' => Q .non H', rt := Q } (start [s1, s2] vs) H := by
  obtain ⟨a, y, rfl, ha, k⟩ := h
  exact ⟨y, rfl, .ref a, rfl, a, C, rfl, T.T, T.no, .inl ⟨ha, fun dx hd ne => k dx hd ne⟩⟩
theorem len_init {vs : List V} {H : Hp} {Q : VK} {E : XK} (h : spInit C n vs H Q E) : vs.length = 2 := by
  obtain ⟨_, _, rfl, _⟩ := h
  rfl
end
section
variable {X : Cx} {C fI : Addr} {n x : Str} {W : WX} {fdI : FuncData} {ps : List Str} {e : Expr} {ta : TA} {p pos pos2 : Pos} {k : Nat}
def tRz (C : Addr) (n : Str) (W : WX) (ta : TA) : TS := fun _ σ H => tMkO C (spInit C n) [] ta σ H fun cls d H' => W cls d σ H'
theorem g_raise (T : ExT X.K C fI n) (F1 : FnOk X.prog X.w X.K X.mg X.base CX0 k fI fdI ps (spInit C n)) (hr : Room (k + 1) X.A) (hb : Binds X.K fdI ps []) (hc : X.calm = true) (tk : Takes X W) (hg : Gl X x) (hm : X.mg x = some (.ref C)) (ha : PA X [e] ta)
    (hdb : (x == ("__debug__" : Str)) = false := by decide) (he : starEach [e] X.env = (false, eval e X.env) :: starEach [] X.env := by rfl) (hpl : (backTo pos (starEach [] X.env)).any (·.1) = false := by rfl) :
    PS X (.Raise (some (.Call (.Name x p) [e] [] pos)) none pos2) (tRz C n W ta) :=
  ps_raise hc tk (pmk_oex T.T T.iC T.tI F1 hr hb .nil pass0 hg hm ha hdb he hpl)
end
/-! ### derived -/
/-- at dx: an exception's own fields -/
def xdo (dx : Addr) (fs : List (Str × V)) : Res where
  h := fun N D H => (∀ b, N b ↔ b = dx) ∧ H dx = some (.xd fs)
  st := fun ⟨e, h⟩ _ k => ⟨e, (k dx ((e dx).2 rfl)).trans h⟩
section
variable {K : PySem.W.Frag} {D0 : Hp} {R : Res} {l : List (V × PyData)} {σ : L2.St} {D : Ends} {Q : VK}
theorem At.newX {N : Addr → Prop} {H : Hp} (A : At K D0 R l N H) {p : Addr} {fs : List (Str × V)} (hp : H p = none) : At K D0 (star (xdo p fs) R) l (fun b => b = p ∨ N b) (upd H p (.xd fs)) := by
  have away : ∀ b, N b → b ≠ p := fun b hb z => A.nn b hb (z ▸ hp)
  have sm : Same (off H N) (off (upd H p (.xd fs)) fun b => b = p ∨ N b) := fun b u h => by
    by_cases hb : N b
    · unfold off at h
      rw [if_pos hb] at h
      cases h
    · rw [off_ne hb] at h
      have nb : b ≠ p := ne_of_none h hp
      have nn : ¬ (b = p ∨ N b) := fun z => z.elim nb hb
      rw [off_ne nn, upd_ne nb]
      exact h
  have rest : R.h N (off (upd H p (.xd fs)) fun b => b = p ∨ N b) (upd H p (.xd fs)) := R.st A.r sm fun b hb => upd_ne (away b hb)
  refine ⟨?_, ⟨fun b => b = p, N, fun b => Iff.rfl, fun b x y => away b y x, ⟨fun b => Iff.rfl, upd_same⟩, rest⟩, A.d0.trans sm, fun q hq => (A.f q hq).mono sm⟩
  intro b hb
  by_cases z : b = p
  · rw [z]
    exact ⟨_, upd_same, fun _ z => by cases z⟩
  · rw [upd_ne z]
    exact A.nt b (hb.resolve_left z)
theorem At.xd {N : Addr → Prop} {H : Hp} {p : Addr} {fs : List (Str × V)} (A : At K D0 (star (xdo p fs) R) l N H) : H p = some (.xd fs) := by
  obtain ⟨_, _, _, _, ⟨_, h⟩, _⟩ := A.r
  exact h
/-- the exception is forgotten -/
theorem At.dropX {N : Addr → Prop} {H : Hp} {p : Addr} {fs : List (Str × V)} (A : At K D0 (star (xdo p fs) R) l N H) : ∃ N', At K D0 R l N' H := by
  obtain ⟨N1, N2, e, dj, ⟨e1, hx⟩, h2⟩ := A.r
  have sm : Same (off H N) (off H N2) := fun b u h => by
    by_cases hb : N b
    · unfold off at h
      rw [if_pos hb] at h
      cases h
    · rw [off_ne hb] at h
      rw [off_ne fun z => hb ((e b).2 (.inr z))]
      exact h
  exact ⟨N2, fun b hb => A.nt b ((e b).2 (.inr hb)), R.st h2 sm fun _ _ => rfl, A.d0.trans sm, fun q hq => (A.f q hq).mono sm⟩
theorem RD.dropX {p : Addr} {fs : List (Str × V)} {T : Hp → Prop} (k : RD K D0 R l T) : RD K D0 (star (xdo p fs) R) l T := fun N H A => by
  obtain ⟨N', A'⟩ := A.dropX
  exact k N' H A'
def kRz (C : Addr) (n : Str) (vs : List V) (H1 : Hp) (Q : XK) : Prop := vs.length ≤ 1000 ∧ ∀ a, H1 a = none → spInit C n (.ref a :: (vs ++ [])) (upd H1 a (exo a C none))
  (fun v H2 => v = .non ∧ ∃ (d : Addr) (fs : List (Str × V)), H2 a = some (exo a C (some d)) ∧ H2 d = some (exd d fs) ∧ H1 d = none ∧ Q (.ref C) (some d) (upd (del H2 a) d (.xd fs))) (fun _ _ _ => False)
theorem d_rz {C : Addr} {n : Str} {W : WX} {ta : TA} (k : RD K D0 R l (fun H => ta σ H fun vs H1 => kRz C n vs H1 fun cls d H' => W cls d σ H')) : RD K D0 R l (fun H => tRz C n W ta D σ H) := k
theorem d_kRz {C : Addr} {n : Str} {v : V} {Qx : XK} (k : ∀ d, RD K D0 (star (xdo d [(n, v)]) R) l (Qx (.ref C) (some d))) : RD K D0 R l (fun H => kRz C n [v] H Qx) := fun N H A => by
  refine ⟨Nat.le_of_lt (show 1 < 1000 by decide), fun a ha => ⟨a, v, rfl, upd_same, fun dx hd ne => ⟨rfl, dx, [(n, v)], upd_same, ?_, ?_, ?_⟩⟩⟩
  · rw [upd_ne ne, upd_same]
  · rw [upd_ne ne] at hd
    exact hd
  · have hd' : H dx = none := by rw [upd_ne ne] at hd; exact hd
    have e : upd (del (upd (upd (upd H a (exo a C none)) dx (exd dx [(n, v)])) a (exo a C (some dx))) a) dx (.xd [(n, v)]) = upd H dx (.xd [(n, v)]) := by
      funext b
      by_cases h1 : b = dx
      · rw [h1, upd_same, upd_same]
      · rw [upd_ne h1, upd_ne h1]
        by_cases h2 : b = a
        · rw [h2, del_same, ha]
        · rw [del_ne h2, upd_ne h2, upd_ne h1, upd_ne h2]
    rw [e]
    exact k dx _ _ (A.newX hd')
/-- e.n in the suite -/
theorem d_xf {a C dd : Addr} {n : Str} {v : V} {te : TE} (h : ∀ {N H}, At K D0 (star (xdo dd [(n, v)]) R) l N H → True) (k : RD K D0 (star (xdo dd [(n, v)]) R) l (Q v)) (hx : ∀ {Q' : VK}, RD K D0 (star (xdo dd [(n, v)]) R) l (Q' (.ref a)) → RD K D0 (star (xdo dd [(n, v)]) R) l (fun H => te σ H Q')) :
    RD K D0 (star (xdo dd [(n, v)]) R) l (fun H => tXf a (.ref C) (some dd) C n te σ H Q) :=
  hx (Q' := fun x H1 => x = .ref a ∧ Value.ref C = .ref C ∧ ∃ (d2 : Addr) (fs : List (Str × V)) (v : V), some dd = some d2 ∧ H1 d2 = some (.xd fs) ∧ fs.lookup n = some v ∧ Q v H1)
    fun N H A => ⟨rfl, rfl, dd, [(n, v)], v, rfl, A.xd, by simp [List.lookup], k N H A⟩
end
end GL

/-! G10: repr of data or of an empty dict; try in readings. -/
namespace GL
open PySem PySem.Spec L2
open PyProof.Rows hiding St
def gShow (K : PySem.W.Frag) : List V → Hp → VK → Prop := fun vs H Q => rRepr K vs H Q ∨ ∃ a, vs = [.ref a] ∧ H a = some (.dK []) ∧ Q (.str "{}") H
theorem call_show {X : Cx} (hg : NoG X.A) (hu : X.A.units + 64 < cLine) : CallR X (.builtin "repr") (gShow X.K) := by
  intro pins s σ H xs us Q I r h
  rcases h with h | ⟨a, rfl, ha, q⟩
  · exact call_repr hg hu pins s σ H xs us Q I r h
  obtain ⟨u, rfl, ru⟩ := vals1 r
  cases (show u = Value.ref a from ru)
  obtain ⟨_, hm, vs, kv, o, es, ep, e1, e2, e3, e4⟩ := (show ObjOk X.prog X.w H s.heap a (.dK []) from I.hok a _ ha)
  have ev : vs = [] := by cases kv; rfl
  subst ev
  have ee : es.toList = [] := by
    have z := e4.2.1
    generalize es.toList = es' at z ⊢
    cases es' with
    | nil => rfl
    | cons x r => cases z
  have rd : Reads s.heap (.ref a) (.dict []) [a] := .dict (kvs := []) (as := []) (bs := []) e1 e2.1 e3 (by rw [ee]; exact ReadsAll.nil) (by rw [ee]; exact ReadsAll.nil)
  have sh : (PyData.dict []).shown = "{}" := by decide +kernel
  have dz : (PyData.dict []).depth ≤ 60 := by decide +kernel
  refine repr_of_reads' rd (by decide +kernel) (fun _ z => ?_) hg (by omega) (fun _ _ z => z) (fun h' t tk k => ?_) (by rw [sh]; exact Nat.le_trans (by decide) line_big)
  · have z' : sysModules = a := by simpa using z
    rw [← z'] at hm
    simp at hm
  · rw [sh]
    exact ⟨.str "{}", H, I.kept (t' := tk) k, ⟨t, rfl⟩, q⟩
def tTry (K : PySem.W.Frag) (C : Addr) (i : Nat) (tb : WX → TS) (ts : Addr → Value → Option Addr → TS) (W : WX) : TS := fun D σ H => tb (wAs K (.ref C) i ts W D) D σ H
/-- at p: this object, and nothing else is said of it -/
def fxo (p : Addr) (o : HO) : Res where
  h := fun N D H => (∀ b, N b ↔ b = p) ∧ H p = some o
  st := fun ⟨e, h⟩ _ k => ⟨e, (k p ((e p).2 rfl)).trans h⟩
section
variable {K : PySem.W.Frag} {D0 : Hp} {R : Res} {l : List (V × PyData)} {σ : L2.St} {D : Ends} {Q : VK}
theorem d_try {C : Addr} {i : Nat} {tb : WX → TS} {ts : Addr → Value → Option Addr → TS} {W : WX} (k : RD K D0 R l (fun H => tb (wAs K (.ref C) i ts W D) D σ H)) : RD K D0 R l (fun H => tTry K C i tb ts W D σ H) := k
theorem d_caught {C d : Addr} {i : Nat} {ts : Addr → Value → Option Addr → TS} {W : WX} (te : PySem.W.exmOne K (.ref C) (.ref C) = some true)
    (k : ∀ a, RD K D0 R l (fun H => ts a (.ref C) (some d) { nx := fun σ' H' => D.nx (σ'.set i none) H', rt := D.rt, bk := fun σ' H' => D.bk (σ'.set i none) H', ct := fun σ' H' => D.ct (σ'.set i none) H' } (σ.set i (some (.ref a))) H)) :
    RD K D0 R l (fun H => wAs K (.ref C) i ts W D (.ref C) (some d) σ H) := fun N H A => ⟨true, te, fun _ a _ => k a N H A, fun z => by cases z⟩
def kXf (a : Addr) (cls : Value) (d : Option Addr) (C : Addr) (f : Str) (x : V) (H1 : Hp) (Q : VK) : Prop := x = .ref a ∧ cls = .ref C ∧ ∃ (dd : Addr) (fs : List (Str × V)) (v : V), d = some dd ∧ H1 dd = some (.xd fs) ∧ fs.lookup f = some v ∧ Q v H1
theorem d_tXf {a : Addr} {cls : Value} {d : Option Addr} {C : Addr} {f : Str} {te : TE} (k : RD K D0 R l (fun H => te σ H fun x H1 => kXf a cls d C f x H1 Q)) : RD K D0 R l (fun H => tXf a cls d C f te σ H Q) := k
theorem d_kXf {a C dd : Addr} {n : Str} {v : V} (k : RD K D0 (star (xdo dd [(n, v)]) R) l (Q v)) : RD K D0 (star (xdo dd [(n, v)]) R) l (fun H => kXf a (.ref C) (some dd) C n (.ref a) H Q) :=
  fun N H A => ⟨rfl, rfl, dd, [(n, v)], v, rfl, A.xd, by simp [List.lookup], k N H A⟩
theorem d_show {v : V} {z : Str} (h : ∀ (N : Addr → Prop) (H : Hp) (Q' : VK), At K D0 R l N H → Q' (.str z) H → gShow K [v] H Q') (k : RD K D0 R l (Q (.str z))) : RD K D0 R l (fun H => gShow K [v] H Q) := fun N H A => h N H Q A (k N H A)
theorem d_ty {v : V} {t n : String} {b : Bool} (h : ∀ (N : Addr → Prop) (H : Hp), At K D0 R l N H → TyX K H v (.type t)) (hk : PySem.W.kitOne K (.type t) (.type n) = some b) (k : RD K D0 R l (Q (.bl b))) : RD K D0 R l (fun H => rIsi K [v, .ty n] H Q) :=
  fun N H A => ⟨v, .ty n, .type t, .type n, b, rfl, .ty n, h N H A, hk, k N H A⟩
theorem At.newF {N : Addr → Prop} {H : Hp} (A : At K D0 R l N H) {p : Addr} {o : HO} (ho : NotTup o) (hp : H p = none) : At K D0 (star (fxo p o) R) l (fun b => b = p ∨ N b) (upd H p o) := by
  have away : ∀ b, N b → b ≠ p := fun b hb z => A.nn b hb (z ▸ hp)
  have sm : Same (off H N) (off (upd H p o) fun b => b = p ∨ N b) := fun b u h => by
    by_cases hb : N b
    · unfold off at h
      rw [if_pos hb] at h
      cases h
    · rw [off_ne hb] at h
      have nb : b ≠ p := ne_of_none h hp
      have nn : ¬ (b = p ∨ N b) := fun z => z.elim nb hb
      rw [off_ne nn, upd_ne nb]
      exact h
  have rest : R.h N (off (upd H p o) fun b => b = p ∨ N b) (upd H p o) := R.st A.r sm fun b hb => upd_ne (away b hb)
  refine ⟨?_, ⟨fun b => b = p, N, fun b => Iff.rfl, fun b x y => away b y x, ⟨fun b => Iff.rfl, upd_same⟩, rest⟩, A.d0.trans sm, fun q hq => (A.f q hq).mono sm⟩
  intro b hb
  by_cases z : b = p
  · rw [z]
    exact ⟨_, upd_same, ho⟩
  · rw [upd_ne z]
    exact A.nt b (hb.resolve_left z)
theorem At.fx {N : Addr → Prop} {H : Hp} {p : Addr} {o : HO} (A : At K D0 (star (fxo p o) R) l N H) : H p = some o := by
  obtain ⟨_, _, _, _, ⟨_, h⟩, _⟩ := A.r
  exact h
theorem At.second {N : Addr → Prop} {H : Hp} {P S : Res} (A : At K D0 (star P (star S R)) l N H) : ∃ N', S.h N' (off H N) H := by
  obtain ⟨_, _, _, _, _, _, N2, _, _, h, _⟩ := A.r
  exact ⟨_, h⟩
theorem At.third {N : Addr → Prop} {H : Hp} {P S U : Res} (A : At K D0 (star P (star S (star U R))) l N H) : ∃ N', U.h N' (off H N) H := by
  obtain ⟨_, _, _, _, _, _, _, _, _, _, _, N2, _, _, h, _⟩ := A.r
  exact ⟨_, h⟩
/-- {} -/
theorem d_dnewP {P : Res} (k : ∀ q, RD K D0 (star P (star (fxo q (.dK [])) R)) l (Q (.ref q))) : RD K D0 (star P R) l (fun H => tDNewK σ H Q) := fun N H A q hq => RD.rot (k q) _ _ (A.newF (fun _ z => by cases z) hq)
/-- a list that is only indexed -/
theorem d_newV {P : Res} {vs : List V} (hl : vs.length ≤ sizeLine) (k : ∀ a, RD K D0 (star P (star (fxo a (.lst vs)) R)) l (Q (.ref a))) : RD K D0 (star P R) l (fun H => kLst vs H Q) := fun N H A => ⟨hl, fun a ha => RD.rot (k a) _ _ (A.newF (fun _ z => by cases z) ha)⟩
theorem d_ixV {P : Res} {a : Addr} {vs : List V} {n : Int} {v : V} (hv : atI vs n = some v) (k : RD K D0 (star P (star (fxo a (.lst vs)) R)) l (Q v)) : RD K D0 (star P (star (fxo a (.lst vs)) R)) l (fun H => rIx K (.ref a) (.int n) H Q) := fun N H A => by
  obtain ⟨_, _, h⟩ := A.second
  exact .inl ⟨a, vs, n, v, rfl, rfl, SqL.of h, hv, k N H A⟩
end
end GL

/-! G11: own exceptions with one field over any plain built-in error. -/
namespace PySem
namespace GLX
open PySem.W PySem.Calls PyProof.Rows PySem.HandSPX
section
open Builtin Builtin.ObjectAttr
variable {prog : Program} {w : World} {A : Around} {E : Value → Shared → Prop} {R : Result → Shared → Prop} {hp : Heap} {g : Array GenState} {d : Drawn} {t : Nat} {os : OsState} {B : String} {bmB : List Value}
theorem tail_some {l : List Value} (SF : StoreFacts B bmB "object.__setattr__" "object") (e : excTail bmB l = true) : l.isEmpty = false := by
  cases l with
  | cons x r => rfl
  | nil =>
    have z : ([] : List Value) = bmB := beq_iff_eq.mp e
    have h := SF.hasOwner
    rw [← z] at h
    exact absurd h (by decide)
/-- the first field of a fresh exception -/
theorem first_store {K : W.Frag} {f : Str} {tk : Tok} {v : Value} {x C : Addr} {fv : Array Value} {cd : ClassData} (SF : StoreFacts B bmB "object.__setattr__" "object") (KI : K.In hp)
    (hx : hp.get? x = some { cls := .ref C, data := .fields fv }) (hcd : W.clsIn K C = some cd) (tl : excTail bmB cd.mro = true) (dct : cd.hasDict = true) (own : W.findIn K (.ref C) f = some none)
    (k : ∀ h2 tk2 dx, (∀ b o, b ≠ x → hp.get? b = some o → h2.get? b = some o) → hp.objs.size ≤ dx → dx ≠ x →
      h2.get? x = some { cls := .ref C, dict := some dx, data := .fields fv } → h2.Ns1 dx (fun y => if y = f then some v else none) → R (.ok (.ret .none)) ⟨h2, g, d, tk2, os⟩) :
    codeAny (model prog w) A (.call (.builtin "object.__setattr__") ⟨[.ref x, .str f tk, v], []⟩) R ⟨hp, g, d, t, os⟩ := by
  have at_ : W.InstAt hp x { cls := .ref C, data := .fields fv } C none :=
    ⟨hx, rfl, rfl, trivial⟩
  have obj : cd.mro.contains (.type "object") = true :=
    (excTail_contains "object" _ tl).trans SF.hasOwner
  have x_old : x ≠ hp.objs.size :=
    Nat.ne_of_lt (Heap.lt_size hx)
  have inM : W.mroIn K C (.type "object") = some true := by
    unfold W.mroIn
    rw [hcd, Option.bind_some, if_neg (by rw [tail_some SF tl]; decide), obj]
  have isO : W.Looks (model prog w) hp (isInstance (.ref x) (.type "object")) true :=
    at_.type.andThen (W.looks_mroIn KI inM)
  have OF := F.store_object
  apply codeAny_call_builtin OF.slot.plain OF.entry
  apply @W.check_slot (model prog w) _ _ ⟨hp, g, d, t, os⟩ "object.__setattr__" "object" "__setattr__" (.ref x) [.str f tk, v] [] _ OF.kind OF.split isO (OF.args (.ref x) (.str f tk) v)
  have mr : W.Looks (model prog w) hp (mroOf (.ref C)) cd.mro :=
    (W.looks_clsIn KI hcd).andThen .now
  have tk0 : W.Looks (model prog w) hp (storeTaker? none) none :=
    .now
  have cl : W.Looks (model prog w) hp (classData C) cd :=
    W.looks_clsIn KI hcd
  rw [W.osa_eq, refuse_eq]
  apply wpAny_bind
  apply wpAny_bind
  apply at_.type.at
  apply wpAny_bind
  apply mr.at
  rw [excTail_pass _ (SF.passes _) _ tl]
  apply wpAny_pure
  apply wpAny_bind
  apply at_.type.at
  apply wpAny_bind
  apply (W.looks_findIn KI own).at
  apply wpAny_bind
  apply tk0.at
  show wpAny _ _ (storeInOwnDict (.ref x) (.ref C) (.str f tk) f v false) _ _ _
  obtain ⟨c1, c2, c3, c4, c5, c6, c7, c8, c9, c10, c11⟩ := cd
  have dct : c6 = true := dct
  subst dct
  unfold storeInOwnDict
  unfold ownDictForStores
  repeat (first
    | with_reducible refine store_in_new ?_ ?_
    | with_reducible refine wpAny_loadPart_at hx ?_
    | with_reducible refine cl.at ?_
    | wp_step)
  · have here : ((hp.push { cls := .type "dict", data := .dict #[] }).get? hp.objs.size) = some { cls := .type "dict", data := .dict #[] } :=
      Heap.get?_push_at rfl rfl
    exact ⟨_, #[], _, (Heap.get?_update_ne _ _ _ _ x_old.symm).trans here, rfl, fun e he => absurd he (by simp), fun _ => rfl⟩
  · intro h2 tk2 nsx same
    have hx2 : (hp.push { cls := .type "dict", data := .dict #[] }).get? x = some { cls := .ref C, data := .fields fv } :=
      Heap.get?_push_of_some _ hx
    have upx := Heap.get?_update_self (fun o => { o with dict := some hp.objs.size }) hx2 rfl
    refine k h2 tk2 hp.objs.size (fun b o hb ho => ?_) (Nat.le_refl _) x_old.symm ?_ nsx
    · have old := Heap.get?_push_of_some { cls := .type "dict", data := .dict #[] } ho
      exact (same.2 b (Nat.ne_of_lt (Heap.lt_size ho))).trans ((Heap.get?_update_ne _ _ _ _ hb).trans old)
    · exact (same.2 x x_old).trans upx
end
end GLX
end PySem
namespace GL
open PySem PySem.Spec L2
open PyProof.Rows hiding St
/-- the class at C over the built-in error B (mro bmB), one field n kept by its own __init__ at fI -/
structure ExB (B newId : String) (bmB : List Value) (K : PySem.W.Frag) (C fI : Addr) (n : Str) : Prop where
  cls : ∃ nm q N bs bm sn sub ab col dd k0 k1 k2 k3 k5, K.lookup C = some (excClassObj nm q C N bs bm true sn sub ab col dd k0 k1 k2 k3 k5 newId) ∧ PySem.W.excTail bmB bm = true
  sa : PySem.W.findIn K (.ref C) "__setattr__" = some (some (.builtin "object.__setattr__"))
  tyC : PySem.W.typeIn K (.ref C) = some (.type "type")
  kC : PySem.W.keepIn K (.ref C) = true
  X : XfC K C
  no : PySem.W.findIn K (.ref C) n = some none
  iC : PySem.W.findIn K (.ref C) "__init__" = some (some (.ref fI))
  tI : PySem.W.typeIn K (.ref fI) = some (.type "function")
  te : PySem.W.exmOne K (.ref C) (.ref C) = some true
theorem ExB.data {B newId : String} {bmB : List Value} {K : PySem.W.Frag} {C fI : Addr} {n : Str} (T : ExB B newId bmB K C fI n) : ∃ cd, PySem.W.clsIn K C = some cd ∧ PySem.W.excTail bmB cd.mro = true ∧ cd.hasDict = true := by
  obtain ⟨nm, q, N, bs, bm, sn, sub, ab, col, dd, k0, k1, k2, k3, k5, e, tl⟩ := T.cls
  refine ⟨_, by unfold PySem.W.clsIn; rw [e], ?_, rfl⟩
  exact tl
section
variable {X : Cx} {pins : List (Addr × Obj)} {σ : L2.St} {H : Hp} {s : Shared} {a C fI : Addr} {n : Str} {B newId initId : String} {bmB : List Value}
theorem ostB {y : V} {u : Value} {Q : Unit → Shared → Prop} {E : Value → Shared → Prop} {A : Around} (SF : StoreFacts B bmB "object.__setattr__" "object") (T : ExB B newId bmB X.K C fI n) (I : Inv X pins σ H s) (ha : H a = some (exo a C none)) (ry : RelV y u)
    (k : ∀ dx s', H dx = none → dx ≠ a → Inv X pins σ (upd (upd H dx (exd dx [(n, y)])) a (exo a C (some dx))) s' → Q () s') : wpAny (model X.prog X.w) A (setAttr (.ref a) n u) Q E s := by
  obtain ⟨cd, hcd, tl, dct⟩ := T.data
  obtain ⟨t1, at_a⟩ := exo_at I.hok ha
  obtain ⟨hp, g, d, t, os⟩ := s
  apply PySem.W.set_plain I.kIn (ox := { cls := .ref C, dict := none, data := .fields #[.ref t1, .none, .none, .none, .bool false, .none] }) (od := none) ⟨at_a, rfl, rfl, trivial⟩ T.sa
  apply PySem.GLX.first_store SF I.kIn at_a hcd tl dct T.no
  intro h2 tk2 dx keep ge ne hx2 ns2
  have fr : H dx = none := I.hok.fresh ge
  have nx : ∀ {b : Addr} {o : Obj}, hp.get? b = some o → b ≠ dx :=
    fun q => Nat.ne_of_lt (Nat.lt_of_lt_of_le (Heap.lt_size q) ge)
  have off_a : ∀ {b : Addr}, H b = none → b ≠ a := fun z q => by
    subst q
    rw [ha] at z
    cases z
  have new_at : ∀ {b : Addr} {o : HO}, H b = some o → o ≠ exo a C none → upd (upd H dx (exd dx [(n, y)])) a (exo a C (some dx)) b = some o := fun {b o} q z => by
    have hb : b ≠ a := fun e => z (by subst e; exact Option.some.inj (q.symm.trans ha))
    rw [upd_ne hb, upd_ne (ne_of_none q fr)]
    exact q
  have U : Un X.fs [] H (upd (upd H dx (exd dx [(n, y)])) a (exo a C (some dx))) hp h2 := by
    constructor
    · intro b o q z _ _
      exact keep b o (off_a z) q
    · intro b o q z _ _
      exact ⟨o.slots, keep b o (off_a z) q⟩
    · intro b o q z _
      rw [upd_ne (off_a z), upd_ne (nx q)]
      exact z
    · intro b o q _
      by_cases hb : b = a
      · subst hb
        exact ⟨_, hx2⟩
      · exact ⟨o, keep b o hb q⟩
    · intro b xs q
      exact new_at q (Ne.symm exo_tup)
    · intro b o xs q
      exact new_at q (Ne.symm exo_frz)
    · intro b ps q
      exact ⟨#[], by simpa using new_at q (Ne.symm exo_tbl)⟩
  refine k dx _ fr ne (I.un (t' := tk2) U fun b o q => ?_)
  by_cases hb : b = a
  · subst hb
    rw [upd_same] at q
    cases q
    exact exo_ok hx2
  rw [upd_ne hb] at q
  by_cases hd : b = dx
  · subst hd
    rw [upd_same] at q
    cases q
    exact exd_ok ns2 (relO_put (fs := []) ry fun _ => trivial)
  rw [upd_ne hd] at q
  refine (I.hok b o q).stay (fun c v hc z => keep c v ?_ z) (fun c hc => new_at hc (Ne.symm exo_own)) fun c xs hc => new_at hc (Ne.symm exo_tup)
  rcases hc with rfl | hc
  · exact hb
  · exact fun e => by
      subst e
      exact exo_own (Option.some.inj (ha.symm.trans hc))
def tOstB (K : PySem.W.Frag) (C : Addr) (n : Str) (to te : TE) : TS := fun D σ H => te σ H fun y H1 => to σ H1 fun x H2 => ∃ a, x = .ref a ∧ H2 a = some (exo a C none) ∧
  ∀ dx, H2 dx = none → dx ≠ a → D.nx σ (upd (upd H2 dx (exd dx [(n, y)])) a (exo a C (some dx)))
theorem ps_ostB {o e : Expr} {to te : TE} {p' pos : Pos} (SF : StoreFacts B bmB "object.__setattr__" "object") (T : ExB B newId bmB X.K C fI n) (ho : PE X o to) (he : PE X e te) (hs : swapsWith e (some (.Attribute o n p')) pos.line X.env = pure false := by rfl) :
    PS X (.Assign [.Attribute o n p'] e pos) (tOstB X.K C n to te) := by
  constructor
  intro pins s σ H D I h
  refine plainObj_wpAny_Assign_Attribute (thn (he.run pins s σ H _ I h) ?_) hs
  rintro v s1 ⟨y, H1, I1, r1, q1⟩
  refine thn (ho.run pins s1 σ H1 _ I1 q1) ?_
  rintro u s2 ⟨x, H2, I2, r2, a, rfl, ha, q⟩
  obtain rfl : u = Value.ref a := r2
  exact ostB SF T I2 ha r1 fun dx s' hd ne J => ⟨σ, _, J, q dx hd ne⟩
/-- C(e, ..), C's own __init__ keeping sp -/
theorem pmkB {CX : CXT} {x : Str} {k : Nat} {fdI : FuncData} {ps : List Str} {sp : Sp} {e : Expr} {es : List Expr} {ta : TA} {p pos : Pos} (FB : ExcBaseFacts B newId initId bmB) (T : ExB B newId bmB X.K C fI n) (F1 : FnOk X.prog X.w X.K X.mg X.base CX k fI fdI ps sp)
    (hr : Room (k + 1) X.A) (hb : Binds X.K fdI ps []) (hx : Passes CX X (fun _ _ _ => False)) (hg : Gl X x) (hm : X.mg x = some (.ref C)) (ha : PA X (e :: es) ta)
    (hdb : (x == ("__debug__" : Str)) = false := by decide) (he : starEach (e :: es) X.env = (false, eval e X.env) :: starEach es X.env := by rfl) (hpl : (backTo pos (starEach es X.env)).any (·.1) = false := by rfl) :
    PMk X (.Call (.Name x p) (e :: es) [] pos) (tMkO C sp [] ta) := by
  intro pins s σ H Q I h
  obtain ⟨nm, q, N, bs, bm, sn, sub, ab, col, dd, k0, k1, k2, k3, k5, hC, tl⟩ := T.cls
  apply wpAny_Call_Name_kw
  apply ld_glob I hg hm _ hdb
  apply PySem.W.callWith_K (h₀ := X.base) I.ok.mod.kin T.kC _ he hpl
  apply thn (ha.run pos pins s σ H _ I h)
  rintro us s1 ⟨vs, H1, I1, r1, hz, q1⟩
  refine ⟨I1.kIn, ?_⟩
  obtain ⟨hp, g, dr, tk, os⟩ := s1
  have up : hp.objs.size ≤ hp.objs.size + 1 := Nat.le_succ _
  have fr : H1 (hp.objs.size + 1) = none := I1.hok.fresh up
  have made : ∀ b o, hp.get? b = some o → ((hp.push (PySem.W.kdv_tup us)).push (PySem.HandSPX.excO C hp.objs.size)).get? b = some o :=
    fun b o e => Heap.get?_push_of_some _ (Heap.get?_push_of_some _ e)
  have there : ((hp.push (PySem.W.kdv_tup us)).push (PySem.HandSPX.excO C hp.objs.size)).get? (hp.objs.size + 1) = some (PySem.HandSPX.excO C hp.objs.size) := by
    heap_get
  have J : Inv X pins σ (upd H1 (hp.objs.size + 1) (exo (hp.objs.size + 1) C none)) ⟨(hp.push (PySem.W.kdv_tup us)).push (PySem.HandSPX.excO C hp.objs.size), g, dr, tk, os⟩ :=
    I1.laid (t' := tk) made up (exo_ok there)
  have sp1 := q1 (hp.objs.size + 1) fr
  rw [List.append_nil] at sp1
  have rv : Vals (V.ref (hp.objs.size + 1) :: vs) (Value.ref (hp.objs.size + 1) :: us) := .cons rfl r1
  have hlen : (Value.ref (hp.objs.size + 1) :: us).length = ps.length := rv.length.symm.trans (F1.len _ _ _ _ sp1)
  have hus : us.length ≤ sizeLine := by
    rw [← r1.length, sizeLine_eq]
    omega
  have bnd := hb ⟨(hp.push (PySem.W.kdv_tup us)).push (PySem.HandSPX.excO C hp.objs.size), g, dr, tk, os⟩ (Value.ref (hp.objs.size + 1) :: us) J.kIn (by rw [List.append_nil]; exact hlen)
  rw [List.append_nil] at bnd
  apply wpAny_call
  apply PySem.HandSPX.call_own FB (fun Y => PySem.W.excTail_contains Y bm tl) (I1.kIn _ _ hC) (PySem.W.looks_findIn I1.kIn T.iC) (fun self => PySem.W.bind_fn I1.kIn self T.tI) hus
  apply codeAny_mono (F1.run _ X.stack _ _ ⟨Value.ref (hp.objs.size + 1) :: us, []⟩ _ _ _ (fun _ _ _ => False) (hr.make C us []) (J.env0.make C us []) bnd rv sp1)
  intro r s' h'
  cases r with
  | error er => exact hx pins σ _ _ er s' J h'
  | ok fl => cases fl with
    | next => exact h'.elim
    | brk => exact h'.elim
    | cont => exact h'.elim
    | ret u =>
      obtain ⟨v, H2, e1, e2, un, hok, r3, rfl, d2, fs, ea, ed, hd, q2⟩ := h'
      obtain ⟨h2, g2, dr2, t2, os2⟩ := s'
      exact ⟨r3, mk_end (raises_own T.X.exC T.tyC) I1 up made un hok e1 e2 ea ed hd q2⟩
/-- raise C(e) -/
theorem g_raiseB {W : WX} {x : Str} {k : Nat} {fdI : FuncData} {ps : List Str} {e : Expr} {ta : TA} {p pos pos2 : Pos} (FB : ExcBaseFacts B newId initId bmB) (T : ExB B newId bmB X.K C fI n) (F1 : FnOk X.prog X.w X.K X.mg X.base CX0 k fI fdI ps (spInit C n))
    (hr : Room (k + 1) X.A) (hb : Binds X.K fdI ps []) (hc : X.calm = true) (tk : Takes X W) (hg : Gl X x) (hm : X.mg x = some (.ref C)) (ha : PA X [e] ta)
    (hdb : (x == ("__debug__" : Str)) = false := by decide) (he : starEach [e] X.env = (false, eval e X.env) :: starEach [] X.env := by rfl) (hpl : (backTo pos (starEach [] X.env)).any (·.1) = false := by rfl) :
    PS X (.Raise (some (.Call (.Name x p) [e] [] pos)) none pos2) (tRz C n W ta) :=
  ps_raise hc tk (pmkB FB T F1 hr hb pass0 hg hm ha hdb he hpl)
theorem pure_initB {K : PySem.W.Frag} {vs : List V} {H : Hp} {Q : VK} {E : XK} {s1 s2 : Str} (h : spInit C n vs H Q E) :
    tOstB K C n (tVar 0) (tVar 1) { nx := fun _ H' => Q .non H', rt := Q } (start [s1, s2] vs) H := by
  obtain ⟨a, y, rfl, ha, k⟩ := h
  exact ⟨y, rfl, .ref a, rfl, a, rfl, ha, k⟩
end
end GL
namespace GL
open PySem PySem.Spec L2
open PyProof.Rows hiding St
def clsB (newId : String) (bmB : List Value) (K : PySem.W.Frag) (C : Addr) : Bool := match K.lookup C with
  | some ⟨.type "type", _, .cls cd, sl⟩ => (match cd.mro, sl.toList with
    | .ref D :: bm, [_, _, _, _, some (.builtin n), _] => (D == C && n == newId) && ((!cd.hasDel && cd.hasDict) && PySem.W.excTail bmB bm)
    | _, _ => false)
  | _ => false
theorem clsB_ok {newId : String} {bmB : List Value} {K : PySem.W.Frag} {C : Addr} (h : clsB newId bmB K C = true) :
    ∃ nm q N bs bm sn sub ab col dd k0 k1 k2 k3 k5, K.lookup C = some (excClassObj nm q C N bs bm true sn sub ab col dd k0 k1 k2 k3 k5 newId) ∧ PySem.W.excTail bmB bm = true := by
  unfold clsB at h
  split at h
  · rename_i dd cd sl ho
    split at h
    · rename_i D bm k0 k1 k2 k3 n k5 e1 e2
      obtain ⟨nm, bs, mro, ns, qn, hd, sn, sub, ab, col, del⟩ := cd
      obtain ⟨sl⟩ := sl
      dsimp only at e1 e2 h
      subst e1 e2
      simp only [Bool.and_eq_true, beq_iff_eq, Bool.not_eq_true'] at h
      obtain ⟨⟨rfl, rfl⟩, ⟨rfl, rfl⟩, hb⟩ := h
      exact ⟨nm, qn, ns, bs, bm, sn, sub, ab, col, dd, k0, k1, k2, k3, k5, ho, hb⟩
    · cases h
  · cases h
def exB (newId : String) (bmB : List Value) (x n : Str) (K : PySem.W.Frag) : Bool :=
  (clsB newId bmB K (He.ga K x) && (xfB K (He.ga K x) && PySem.W.keepIn K (.ref (He.ga K x)))) &&
  ((decide (PySem.W.findIn K (.ref (He.ga K x)) "__setattr__" = some (some (.builtin "object.__setattr__"))) && decide (PySem.W.typeIn K (.ref (He.ga K x)) = some (.type "type"))) &&
  ((decide (PySem.W.findIn K (.ref (He.ga K x)) n = some none) && decide (PySem.W.findIn K (.ref (He.ga K x)) "__init__" = some (some (.ref (He.ma K (He.ga K x) "__init__"))))) &&
  (decide (PySem.W.typeIn K (.ref (He.ma K (He.ga K x) "__init__")) = some (.type "function")) && decide (PySem.W.exmOne K (.ref (He.ga K x)) (.ref (He.ga K x)) = some true))))
theorem exB_ok {B newId : String} {bmB : List Value} {K : PySem.W.Frag} {x n : Str} (h : exB newId bmB x n K = true) : ExB B newId bmB K (He.ga K x) (He.ma K (He.ga K x) "__init__") n := by
  unfold exB at h
  simp only [Bool.and_eq_true, decide_eq_true_eq] at h
  obtain ⟨⟨h1, h2, h3⟩, ⟨h4, h5⟩, ⟨h6, h7⟩, h8, h9⟩ := h
  exact ⟨clsB_ok h1, h4, h5, h3, xfB_ok h2, h6, h7, h8, h9⟩
abbrev bmLE : List Value := [.type "LookupError", .type "Exception", .type "BaseException", .type "object"]
abbrev bmRE : List Value := [.type "RuntimeError", .type "Exception", .type "BaseException", .type "object"]
abbrev bmOE : List Value := [.type "OverflowError", .type "ArithmeticError", .type "Exception", .type "BaseException", .type "object"]
end GL

/-! G13: try with several clauses, each with or without a name. -/
namespace GL
open PySem PySem.Spec L2
open PyProof.Rows hiding St
/-- the suite's ends, the name's slot emptied behind it -/
def endsOf : Option Nat → Ends → Ends
  | none, D => D
  | some i, D => { nx := fun σ' H' => D.nx (σ'.set i none) H', rt := D.rt, bk := fun σ' H' => D.bk (σ'.set i none) H', ct := fun σ' H' => D.ct (σ'.set i none) H' }
def slotOf (a : Addr) : Option Nat → L2.St → L2.St
  | none, σ => σ
  | some i, σ => σ.set i (some (.ref a))
abbrev Cl : Type := Value × Option Nat × (Addr → Value → Option Addr → TS)
def wMix (K : PySem.W.Frag) (Wout : WX) (D : Ends) : List Cl → WX
  | [] => Wout
  | (c, o, ts) :: r => fun cls d σ H => ∃ b, PySem.W.exmOne K cls c = some b ∧
      (b = true → ∀ a, H a = none → ts a cls d (endsOf o D) (slotOf a o σ) H) ∧
      (b = false → wMix K Wout D r cls d σ H)
inductive ClsOk (X : Cx) : List ExceptHandler → List Cl → Prop
  | nil : ClsOk X [] []
  | plain {x : Str} {c : Value} {ts : Addr → Value → Option Addr → TS} {b0 : Stmt} {su : List Stmt} {np ps : Pos} {hs : List ExceptHandler} {l : List Cl} (hc : Names X x c)
      (run : ∀ (e : Addr) (ob : Obj) (cls : Value) (d : Option Addr) (pn : List (Addr × Obj)), Zc cls d ob → (∃ vs, ob.data = .fields vs) → PSs (X.suite e ((e, ob) :: pn)) (b0 :: su) (ts e cls d))
      (rest : ClsOk X hs l) : ClsOk X (.ExceptHandler (some (.Name x np)) none (b0 :: su) ps :: hs) ((c, none, ts) :: l)
  | named {x n : Str} {i : Nat} {c : Value} {ts : Addr → Value → Option Addr → TS} {b0 : Stmt} {su : List Stmt} {np ps : Pos} {hs : List ExceptHandler} {l : List Cl} (hN : X.N.Nodup) (hi : X.N[i]? = some n) (hl : X.env.kindOf n = some .local) (hc : Names X x c)
      (run : ∀ (e : Addr) (ob : Obj) (cls : Value) (d : Option Addr) (pn : List (Addr × Obj)), Zc cls d ob → (∃ vs, ob.data = .fields vs) → PSs (X.suite e ((e, ob) :: pn)) (b0 :: su) (ts e cls d))
      (rest : ClsOk X hs l) : ClsOk X (.ExceptHandler (some (.Name x np)) (some n) (b0 :: su) ps :: hs) ((c, some i, ts) :: l)
section
variable {X : Cx} {body : List Stmt} {h0 : ExceptHandler} {hs : List ExceptHandler} {l : List Cl} {pos : Pos} {tb : WX → TS} {Wout : WX}
theorem ps_mix (st : X.stack = X.env :: X.outer) (fr : X.env.frame = some X.env.locals) (tk : Takes X Wout)
    (hb : ∀ (W : WX) (pn : List (Addr × Obj)) (xe : Value → Shared → Prop), Takes (X.tr pn xe) W → PassesOwn (model X.prog X.w) X.A X.env xe → PSs (X.tr pn xe) body (tb W)) (cl : ClsOk X (h0 :: hs) l) :
    PS X (.Try body (h0 :: hs) [] [] pos) (fun D σ H => tb (wMix X.K Wout D l) D σ H) := by
  constructor
  intro pins s σ H D I h
  have lim := I.ok
  have frames : X.A.frames = some (X.env :: X.outer) := by
    rw [lim.frames, st]
  apply wpAny_Try_except
  have B1 := hb (wMix X.K Wout D l) (X.pn ++ pins)
    (fun e s1 => wpAny (model X.prog X.w) X.A (noteFrame e X.env) (fun _ s2 => wpAny (model X.prog X.w) X.A (setFlight e none)
      (fun _ s3 => wpAny (model X.prog X.w) X.A (handleBy e X.env (h0 :: hs)) (SP X pins D) X.xe s3) X.xe s2) X.xe s1)
  refine wpAny_mono ((B1 (fun u s' air => ?_) PassesOwn.looking).run [] s σ H D (I.toTry _) h) (fun f s1 sp => ?_) fun _ _ z => z
  · obtain ⟨e, B, sI, pins2, σ2, H2, cls, d, rfl, J0, nb, up, sky, new, os, bare, w⟩ := air
    have J : Inv X pins σ2 H2 sI := J0.ofTry lim
    rw [show X.stack = X.env :: X.outer from st] at sky
    show wpAny (model X.prog X.w) X.A (noteFrame (.ref e) X.env) _ _ _
    apply Sky.land Zc.steady frames fr sky
    intro g3 fly up3
    have J3 : Inv X pins σ2 H2 { s' with heap := g3 } :=
      J.landed nb fly.1 (up.trans up3) os bare
    obtain ⟨ob, vs, at3, z3, dt3⟩ := fly.there
    have out : e ∉ frs (X.env :: X.outer) := fun hm => by
      obtain ⟨_, ob', at', nf⟩ := fly.2.2.1.mem hm
      rw [at3] at at'
      cases at'
      exact nf _ dt3
    have notL : e ≠ X.env.locals := fun z =>
      out (List.mem_filterMap.2 ⟨X.env, List.mem_cons_self, by rw [fr, z]⟩)
    have notF : e ∉ X.fs := fun hm => by
      obtain ⟨x, hx, q⟩ := List.mem_filterMap.1 hm
      exact out (List.mem_filterMap.2 ⟨x, List.mem_cons_of_mem _ hx, q⟩)
    have S3 := J3.suite at3 dt3 new notL notF
    have looks : PySem.W.Looks (model X.prog X.w) g3 (typeOf (.ref e)) cls := fun A Q E s k q =>
      wpAny_typeOf_ref (k _ _ at3) (by rw [z3.1]; exact q)
    have ask : ∀ {x : Str} {c : Value} {np : Pos} {Q : Value → Shared → Prop} {E : Value → Shared → Prop}, Names X x c → Q c { s' with heap := g3 } →
        wpAny (model X.prog X.w) (X.A.mark (some (.ref e))) (eval (.Name x np) X.env) Q E { s' with heap := g3 } := fun nm q => by
      obtain ⟨gl, db, m | ⟨m, v, nn⟩⟩ := nm
      · exact ld_glob (X := X.suite e ((e, ob) :: (X.pn ++ pins))) S3 gl m q db
      · exact ld_blt (X := X.suite e ((e, ob) :: (X.pn ++ pins))) S3 gl m v q nn db
    have walk : ∀ {hs' : List ExceptHandler} {l' : List Cl}, ClsOk X hs' l' → wMix X.K Wout D l' cls d σ2 H2 →
        wpAny (model X.prog X.w) X.A (handleBy (.ref e) X.env hs') (SP X pins D) X.xe { s' with heap := g3 } := by
      intro hs' l' ok
      induction ok with
      | nil =>
        intro w
        apply wpAny_handleBy_nil
        obtain ⟨_, _, _, ob2, vs2, T, oT, ts2, a1, _, a3, a4, _⟩ := id fly
        unfold PySem.passOn
        apply wpAny_bind
        apply wpAny_field a1 a3 a4
        have nn : ¬ ((Value.ref T == Value.none) = true) := by
          simp
        rw [if_neg nn]
        have last : wpAny (model X.prog X.w) X.A (setFlight (.ref e) X.env.frame) (fun _ s4 => wpAny (model X.prog X.w) X.A (throw (.ref e) : Sem Flow) (SP X pins D) X.xe s4) X.xe
            { s' with heap := g3 } := by
          rw [fr]
          apply HandSPX.setFlight_upZ fly
          intro g4 held up4
          apply wpAny_throw
          apply tk
          exact ⟨e, B, sI, pins, σ2, H2, cls, d, rfl, J, nb, (up.trans up3).trans up4, .inr (.inr (by rw [st]; exact held)), new, os, bare, w⟩
        first
          | exact wpAny_bind (wpAny_pure (wpAny_bind last))
          | exact wpAny_bind last
      | plain nm run rest ih =>
        rintro ⟨b, hb1, yes, no⟩
        have M := PySem.W.exm_one (M := model X.prog X.w) J3.kIn looks hb1
        refine wpAny_handleBy_cons (codeAny_handlers_test (ask nm (M.here ?_))) (by intro q; cases q)
        cases b with
        | false => exact ih (no rfl)
        | true =>
          apply codeAny_handlers_suite
          apply HandSPX.lands_againZ fly
          intro g4 fly4 up4
          have J4 : Inv X pins σ2 H2 { s' with heap := g4 } :=
            J.landed nb fly4.1 ((up.trans up3).trans up4) os bare
          obtain ⟨ob4, vs4, at4, z4, dt4⟩ := fly4.there
          have S4 := J4.suite at4 dt4 new notL notF
          refine wpAny_mono ((run e ob4 cls d (X.pn ++ pins) z4 ⟨_, dt4⟩).run [] _ _ H2 _ S4 (yes rfl e new)) (fun f s6 sp => ?_) (fun _ _ z => False.elim z)
          cases f with
          | ret u =>
            obtain ⟨v6, σ6, H6, S6, r6, q6⟩ := sp
            exact ⟨v6, σ6, H6, S6.unsuite lim, r6, q6⟩
          | next =>
            obtain ⟨σ6, H6, S6, q6⟩ := sp
            exact ⟨σ6, H6, S6.unsuite lim, q6⟩
          | brk =>
            obtain ⟨σ6, H6, S6, q6⟩ := sp
            exact ⟨σ6, H6, S6.unsuite lim, q6⟩
          | cont =>
            obtain ⟨σ6, H6, S6, q6⟩ := sp
            exact ⟨σ6, H6, S6.unsuite lim, q6⟩
      | @named x n i c ts b0 su np ps hs2 l2 hN hi hl nm run rest ih =>
        rintro ⟨b, hb1, yes, no⟩
        have M := PySem.W.exm_one (M := model X.prog X.w) J3.kIn looks hb1
        refine wpAny_handleBy_cons (codeAny_handlers_test (ask nm (M.here ?_))) (by intro q; cases q)
        cases b with
        | false => exact ih (no rfl)
        | true =>
          apply codeAny_handlers_suite_as
          apply HandSPX.lands_againZ fly
          intro g4 fly4 up4
          have J4 : Inv X pins σ2 H2 { s' with heap := g4 } :=
            J.landed nb fly4.1 ((up.trans up3).trans up4) os bare
          obtain ⟨ob4, vs4, at4, z4, dt4⟩ := fly4.there
          have S4 := J4.suite at4 dt4 new notL notF
          refine store_ok (X := X.suite e ((e, ob4) :: (X.pn ++ pins))) (v := .ref e) S4 hN hi (.inl hl) rfl (fun s5 S5 => ?_) (.inr hl)
          refine wpAny_mono ((run e ob4 cls d (X.pn ++ pins) z4 ⟨_, dt4⟩).run [] s5 _ H2 _ S5 (yes rfl e new)) (fun f s6 sp => ?_) (fun _ _ z => False.elim z)
          have tidy : ∀ {σ6 : L2.St} {H6 : Hp} {Q : Shared → Prop}, Inv (X.suite e ((e, ob4) :: (X.pn ++ pins))) [] σ6 H6 s6 → (∀ s7, Inv X pins (σ6.set i none) H6 s7 → Q s7) →
              wpAny (model X.prog X.w) X.A (do bindName X.env n .none; unbindBehindTheSuite X.env n ps) (fun _ s7 => Q s7) X.xe s6 :=
            fun S6 hq => gone_ok (S6.unsuite lim) hN hi hl hq
          cases f with
          | ret u =>
            obtain ⟨v6, σ6, H6, S6, r6, q6⟩ := sp
            exact tidy S6 fun s7 J7 => ⟨v6, _, H6, J7, r6, q6⟩
          | next =>
            obtain ⟨σ6, H6, S6, q6⟩ := sp
            exact tidy S6 fun s7 J7 => ⟨_, H6, J7, q6⟩
          | brk =>
            obtain ⟨σ6, H6, S6, q6⟩ := sp
            exact tidy S6 fun s7 J7 => ⟨_, H6, J7, q6⟩
          | cont =>
            obtain ⟨σ6, H6, S6, q6⟩ := sp
            exact tidy S6 fun s7 J7 => ⟨_, H6, J7, q6⟩
    exact walk cl w
  · cases f with
    | ret u =>
      obtain ⟨v, σ2, H2, J2, r, q⟩ := sp
      exact ⟨v, σ2, H2, J2.ofTry lim, r, q⟩
    | next =>
      obtain ⟨σ2, H2, J2, q⟩ := sp
      exact wpAny_execs_nil ⟨σ2, H2, J2.ofTry lim, q⟩
    | brk =>
      obtain ⟨σ2, H2, J2, q⟩ := sp
      exact ⟨σ2, H2, J2.ofTry lim, q⟩
    | cont =>
      obtain ⟨σ2, H2, J2, q⟩ := sp
      exact ⟨σ2, H2, J2.ofTry lim, q⟩
def tMix (K : PySem.W.Frag) (tb : WX → TS) (l : List Cl) (W : WX) : TS := fun D σ H => tb (wMix K W D l) D σ H
end
end GL

/-! G12: sorted of a list or a tuple's data, any length. -/
namespace GL
open PySem PySem.Spec L2
open PyProof.Rows hiding St
open PySem.W (EachIs AllAlike Sortable dataLe)
def byD : V × PyData → PyData := fun p => p.2
def gSorted (K : PySem.W.Frag) : List V → Hp → VK → Prop := fun vs H Q => ∃ (a : Addr) (ps : List (V × PyData)), vs = [.ref a] ∧ SqL K H a (ps.map (·.1)) ∧ (∀ p ∈ ps, Dp K H p.1 p.2) ∧ AllAlike (ps.map byD) ∧ Sortable (ps.map byD) ∧ (∀ p ∈ ps, p.2.depth ≤ 60) ∧
  ∀ q, H q = none → Q (.ref q) (upd H q (.lst ((ps.mergeSort (dataLe false byD)).map (·.1))))
theorem each_of : ∀ {ps : List (V × PyData)} {us : List Value}, Vals (ps.map (·.1)) us → EachIs (fun u (p : V × PyData) => RelV p.1 u) us ps
  | [], _, h => by
    cases h
    exact .nil
  | p :: ps, _, h => by
    cases h with
    | cons r t => exact .cons r (each_of t)
theorem vals_each : ∀ {ps : List (V × PyData)} {us : List Value}, EachIs (fun u (p : V × PyData) => RelV p.1 u) us ps → Vals (ps.map (·.1)) us
  | _, _, .nil => .nil
  | _, _, .cons r t => .cons r (vals_each t)
theorem each_in {α β : Type} {R S : α → β → Prop} : ∀ {us : List α} {ps : List β}, EachIs R us ps → (∀ u p, p ∈ ps → R u p → S u p) → EachIs S us ps
  | _, _, .nil, _ => .nil
  | _, _, .cons r t, h => .cons (h _ _ List.mem_cons_self r) (each_in t fun u p hp => h u p (List.mem_cons_of_mem _ hp))
theorem call_gsorted {X : Cx} (hu : X.A.units + 64 < cLine) : CallR X (.builtin "sorted") (gSorted X.K) := by
  intro pins s σ H xs us Q I r h
  obtain ⟨a, ps, rfl, hq, hd, al, so, dp, q⟩ := h
  obtain ⟨u, rfl, ru⟩ := vals1 r
  cases (show u = Value.ref a from ru)
  obtain ⟨its, rv, pl, hz⟩ := I.list hq
  have e := each_of rv
  have er := each_in (S := fun v p => ∃ as, Reads s.heap v (byD p) as) e fun u p hp r => Dp.reads I p.2 p.1 u (hd p hp) r
  have hlen : ps.length ≤ sizeLine := by simpa using hz
  refine PySem.W.sorted_data pl.isList e er al so hlen (fun p hp => ?_) fun out hl eo => ?_
  · have := dp p hp
    show X.A.units + 2 + p.2.depth < cLine
    omega
  obtain ⟨n, at_⟩ := sortedAll_at s.heap its out.toArray
  have ov := vals_each eo
  have ol : ((ps.mergeSort (dataLe false byD)).map (·.1)).length ≤ sizeLine := by
    rw [List.length_map, List.length_mergeSort]
    exact hlen
  have new : ObjOk X.prog X.w (upd H (s.heap.objs.size + 1) (.lst ((ps.mergeSort (dataLe false byD)).map (·.1)))) (PyProof.Rows.sortedAll s.heap its out.toArray) (s.heap.objs.size + 1) (.lst ((ps.mergeSort (dataLe false byD)).map (·.1))) :=
    ⟨ol, out, n, ov, at_⟩
  have J := I.laid (t' := s.toks) (fun b u => sortedAll_old) (Nat.le_succ _) new
  exact ⟨.ref _, _, J, rfl, q _ (I.hok.fresh (Nat.le_succ _))⟩
section
variable {K : PySem.W.Frag} {D0 : Hp} {R : Res} {l : List (V × PyData)} {σ : L2.St} {D : Ends} {Q : VK}
theorem dt_pairs {H : Hp} : ∀ {xs : List V} {ds : List PyData}, DtAll K H xs ds → ∃ ps : List (V × PyData), ps.map (·.1) = xs ∧ ps.map byD = ds ∧ ∀ p ∈ ps, Dt K H p.1 p.2
  | _, _, .nil => ⟨[], rfl, rfl, fun p hp => by cases hp⟩
  | _, _, .cons (v := v) (d := d) a b => by
    obtain ⟨ps, e1, e2, h⟩ := dt_pairs b
    refine ⟨(v, d) :: ps, by rw [List.map_cons, e1], by rw [List.map_cons, e2]; rfl, fun p hp => ?_⟩
    rcases List.mem_cons.1 hp with rfl | hp
    · exact a
    · exact h p hp
theorem pairs_dt {H : Hp} : ∀ {ps : List (V × PyData)}, (∀ p ∈ ps, Dt K H p.1 p.2) → DtAll K H (ps.map (·.1)) (ps.map byD)
  | [], _ => .nil
  | p :: ps, h => .cons (h p List.mem_cons_self) (pairs_dt fun q hq => h q (List.mem_cons_of_mem _ hq))
/-- sorted(xs) of a list -/
theorem d_sorted {x : V} {ds : List PyData} (hx : InL l x (.list ds)) (al : AllAlike ds) (so : Sortable ds) (dp : ∀ d ∈ ds, d.depth ≤ 60) (k : ∀ v, RD K D0 R ((v, .list (ds.mergeSort (dataLe false id))) :: l) (Q v)) : RD K D0 R l (fun H => gSorted K [x] H Q) := fun N H A => by
  obtain ⟨a, xs, rfl, ha, hd⟩ := (A.dt hx).list
  obtain ⟨ps, rfl, rfl, hp⟩ := dt_pairs hd
  refine ⟨a, ps, rfl, SqL.of (off_same a _ ha), fun p hm => ((hp p hm).mono off_same).dp, al, so, fun p hm => dp _ (List.mem_map.2 ⟨p, hm, rfl⟩), fun q hq => ?_⟩
  obtain ⟨A', e⟩ := A.new (.lst ((ps.mergeSort (dataLe false byD)).map (·.1))) hq
  have hp2 : ∀ p ∈ ps, Dt K (off (upd H q (.lst ((ps.mergeSort (dataLe false byD)).map (·.1)))) N) p.1 p.2 := fun p hm =>
    ((A.facts (hp p hm)).new (.lst ((ps.mergeSort (dataLe false byD)).map (·.1))) hq).1.dt (.mem List.mem_cons_self)
  have hs : DtAll K (off (upd H q (.lst ((ps.mergeSort (dataLe false byD)).map (·.1)))) N) ((ps.mergeSort (dataLe false byD)).map (·.1)) ((ps.mergeSort (dataLe false byD)).map byD) :=
    pairs_dt fun p hm => hp2 p ((List.mergeSort_perm _ _).mem_iff.1 hm)
  have em : (ps.mergeSort (dataLe false byD)).map byD = (ps.map byD).mergeSort (dataLe false id) := List.map_mergeSort fun _ _ _ _ => rfl
  rw [em] at hs
  exact k _ N _ (A'.facts (.lst e hs))
end
end GL

/-! G14: objects owned by name (instances, dicts), tuples that stand by name. -/
namespace GL
open PySem PySem.Spec L2
open PyProof.Rows hiding St
/-- these objects, each as it says, and no others, are owned -/
def objs (L : List (Addr × HO)) : Res where
  h := fun N D H => (∀ b, N b ↔ ∃ o, (b, o) ∈ L) ∧ ∀ p ∈ L, H p.1 = some p.2
  st := fun ⟨e, h⟩ _ k => ⟨e, fun p hp => (k p.1 ((e p.1).2 ⟨p.2, hp⟩)).trans (h p hp)⟩
def putO (L : List (Addr × HO)) (a : Addr) (o : HO) : List (Addr × HO) := L.map fun p => if p.1 = a then (a, o) else p
section
variable {K : PySem.W.Frag} {D0 D1 : Hp} {R : Res} {l : List (V × PyData)} {σ : L2.St} {D : Ends} {Q : VK} {L : List (Addr × HO)} {T : Hp → Prop}
theorem At.ob {N : Addr → Prop} {H : Hp} (A : At K D0 (star (objs L) R) l N H) {a : Addr} {o : HO} (hp : (a, o) ∈ L) : H a = some o := by
  obtain ⟨_, _, _, _, ⟨_, h⟩, _⟩ := A.r
  exact h _ hp
theorem off_grow {N N' : Addr → Prop} {H H' : Hp} (h : ∀ b, ¬ N b → H b ≠ none → ¬ N' b ∧ H' b = H b) : Same (off H N) (off H' N') := fun b u e => by
  by_cases hb : N b
  · unfold off at e
    rw [if_pos hb] at e
    cases e
  · rw [off_ne hb] at e
    obtain ⟨h1, h2⟩ := h b hb (by rw [e]; exact fun z => by cases z)
    rw [off_ne h1, h2]
    exact e
theorem At.newOb {N : Addr → Prop} {H : Hp} (A : At K D0 (star (objs L) R) l N H) {p : Addr} {o : HO} (ho : NotTup o) (hp : H p = none) : At K D0 (star (objs ((p, o) :: L)) R) l (fun b => b = p ∨ N b) (upd H p o) := by
  have away : ∀ b, N b → b ≠ p := fun b hb z => A.nn b hb (z ▸ hp)
  have sm : Same (off H N) (off (upd H p o) fun b => b = p ∨ N b) := off_grow fun b hb nb => by
    have z : b ≠ p := fun e => nb (e ▸ hp)
    exact ⟨fun q => q.elim z hb, upd_ne z⟩
  obtain ⟨N1, N2, e, dj, ⟨e1, h1⟩, h2⟩ := A.r
  refine ⟨?_, ⟨fun b => b = p ∨ N1 b, N2, ?_, ?_, ⟨?_, ?_⟩, R.st h2 sm fun b hb => upd_ne (away b ((e b).2 (.inr hb)))⟩, A.d0.trans sm, fun q hq => (A.f q hq).mono sm⟩
  · intro b hb
    by_cases z : b = p
    · rw [z]
      exact ⟨_, upd_same, ho⟩
    · rw [upd_ne z]
      exact A.nt b (hb.resolve_left z)
  · intro b
    show (b = p ∨ N b) ↔ (b = p ∨ N1 b) ∨ N2 b
    rw [e b, or_assoc]
  · rintro b (rfl | hb) h
    · exact away _ ((e _).2 (.inr h)) rfl
    · exact dj b hb h
  · intro b
    constructor
    · rintro (rfl | hb)
      · exact ⟨o, List.mem_cons_self⟩
      · obtain ⟨u, hu⟩ := (e1 b).1 hb
        exact ⟨u, List.mem_cons_of_mem _ hu⟩
    · rintro ⟨u, hu⟩
      rcases List.mem_cons.1 hu with z | hu
      · exact .inl (congrArg Prod.fst z)
      · exact .inr ((e1 b).2 ⟨u, hu⟩)
  · intro q hq
    rcases List.mem_cons.1 hq with rfl | hq
    · exact upd_same
    · rw [upd_ne (away _ ((e _).2 (.inl ((e1 _).2 ⟨q.2, hq⟩))))]
      exact h1 q hq
theorem At.setOb {N : Addr → Prop} {H : Hp} (A : At K D0 (star (objs L) R) l N H) {a : Addr} {o1 o : HO} (ho : NotTup o) (ha : (a, o1) ∈ L) : At K D0 (star (objs (putO L a o)) R) l N (upd H a o) := by
  obtain ⟨N1, N2, e, dj, ⟨e1, h1⟩, h2⟩ := A.r
  have n1 : N1 a := (e1 a).2 ⟨o1, ha⟩
  have na : N a := (e a).2 (.inl n1)
  have sm : Same (off H N) (off (upd H a o) N) := off_grow fun b hb _ => ⟨hb, upd_ne fun z => hb (z ▸ na)⟩
  refine ⟨?_, ⟨N1, N2, e, dj, ⟨?_, ?_⟩, R.st h2 sm fun b hb => upd_ne fun z => dj a n1 (z ▸ hb)⟩, A.d0.trans sm, fun q hq => (A.f q hq).mono sm⟩
  · intro b hb
    by_cases z : b = a
    · rw [z]
      exact ⟨_, upd_same, ho⟩
    · rw [upd_ne z]
      exact A.nt b hb
  · intro b
    rw [e1 b]
    unfold putO
    constructor
    · rintro ⟨u, hu⟩
      by_cases z : b = a
      · exact ⟨o, List.mem_map.2 ⟨(b, u), hu, by rw [if_pos z, z]⟩⟩
      · exact ⟨u, List.mem_map.2 ⟨(b, u), hu, by rw [if_neg z]⟩⟩
    · rintro ⟨u, hu⟩
      obtain ⟨q, hq, eq⟩ := List.mem_map.1 hu
      by_cases z : q.1 = a
      · rw [if_pos z] at eq
        have eb : a = b := congrArg Prod.fst eq
        exact ⟨q.2, by rw [← eb, ← z]; exact hq⟩
      · rw [if_neg z] at eq
        exact ⟨u, eq ▸ hq⟩
  · intro q hq
    unfold putO at hq
    obtain ⟨r, hr, rfl⟩ := List.mem_map.1 hq
    by_cases z : r.1 = a
    · rw [if_pos z]
      exact upd_same
    · rw [if_neg z, upd_ne z]
      exact h1 r hr
/-- what stands by name -/
theorem At.fixed {N : Addr → Prop} {H : Hp} (A : At K D0 R l N H) {b : Addr} {o : HO} (h : D0 b = some o) : H b = some o := off_same b o (A.d0 b o h)
theorem At.lessD {N : Addr → Prop} {H : Hp} (A : At K D1 R l N H) (h : Same D0 D1) : At K D0 R l N H := ⟨A.nt, A.r, h.trans A.d0, A.f⟩
theorem RD.moreD (h : Same D0 D1) (k : RD K D0 R l T) : RD K D1 R l T := fun N H A => k N H (A.lessD h)
theorem same_upd {q : Addr} {o : HO} (h : D0 q = none) : Same D0 (upd D0 q o) := fun b u e => by
  rw [upd_ne (ne_of_none e h)]
  exact e
/-- a new tuple, known by name too -/
theorem d_newTD {xs : List V} {ds : List PyData} (hl : xs.length ≤ sizeLine) (hx : InLs l xs ds) (k : ∀ q, D0 q = none → RD K (upd D0 q (.tup xs)) R ((.ref q, .tuple ds) :: l) (Q (.ref q))) : RD K D0 R l (fun H => kTup xs H Q) := fun N H A => by
  refine ⟨hl, fun q hq => ?_⟩
  have dq : D0 q = none := by
    cases e : D0 q with
    | none => rfl
    | some u => exact absurd (A.fixed e) (by rw [hq]; exact fun z => by cases z)
  obtain ⟨A', e⟩ := A.new (.tup xs) hq
  have A2 : At K (upd D0 q (.tup xs)) R l N (upd H q (.tup xs)) := ⟨A'.nt, A'.r, fun b u h => by
    by_cases z : b = q
    · subst z
      rw [upd_same] at h
      cases h
      exact e
    · rw [upd_ne z] at h
      exact A'.d0 b u h, A'.f⟩
  exact k q dq N _ (A2.facts (.tup (.inl (.inl e)) (A'.dts hx)))
/-! ### an instance's fields -/
def kFld (K : PySem.W.Frag) (f : Str) (x : V) (H1 : Hp) (Q : VK) : Prop := ∃ a C dx fs v, x = .ref a ∧ H1 a = some (.ins C dx fs) ∧ Cls K C ∧ NoAttr K C f ∧ fs.lookup f = some v ∧ Q v H1
theorem d_tFld {te : TE} {f : Str} (k : RD K D0 R l (fun H => te σ H fun x H1 => kFld K f x H1 Q)) : RD K D0 R l (fun H => tFld K te f σ H Q) := k
theorem d_fld {a C dx : Addr} {fs : List (Str × V)} {f : Str} {v : V} (ha : (a, .ins C dx fs) ∈ L) (c : Cls K C) (n : NoAttr K C f) (hf : fs.lookup f = some v) (k : RD K D0 (star (objs L) R) l (Q v)) : RD K D0 (star (objs L) R) l (fun H => kFld K f (.ref a) H Q) :=
  fun N H A => ⟨a, C, dx, fs, v, rfl, A.ob ha, c, n, hf, k N H A⟩
def kPutF (K : PySem.W.Frag) (f : Str) (y x : V) (H2 : Hp) (Qn : Hp → Prop) : Prop := ∃ a C dx fs, x = .ref a ∧ H2 a = some (.ins C dx fs) ∧ Cls K C ∧ NoAttr K C f ∧ fs.length < 1000 ∧ Qn (upd H2 a (.ins C dx (putF f y fs)))
theorem d_sFld {ta tv : TE} {f : Str} (k : RD K D0 R l (fun H => tv σ H fun y H1 => ta σ H1 fun x H2 => kPutF K f y x H2 fun H3 => D.nx σ H3)) : RD K D0 R l (fun H => sFld K ta tv f D σ H) := k
theorem d_putF {a C dx : Addr} {fs : List (Str × V)} {f : Str} {y : V} {Qn : Hp → Prop} (ha : (a, .ins C dx fs) ∈ L) (c : Cls K C) (n : NoAttr K C f) (hl : fs.length < 1000) (k : RD K D0 (star (objs (putO L a (.ins C dx (putF f y fs)))) R) l Qn) :
    RD K D0 (star (objs L) R) l (fun H => kPutF K f y (.ref a) H Qn) := fun N H A => ⟨a, C, dx, fs, rfl, A.ob ha, c, n, hl, k N _ (A.setOb (fun _ z => by cases z) ha)⟩
/-! ### dicts -/
theorem At.ob_ne {N : Addr → Prop} {H : Hp} (A : At K D0 (star (objs L) R) l N H) {q : Addr} (hq : H q = none) : ∀ p ∈ L, q ≠ p.1 := fun p hp z => by
  have h := A.ob (a := p.1) (o := p.2) hp
  rw [← z, hq] at h
  cases h
theorem d_dnewT (k : ∀ q, (∀ p ∈ L, q ≠ p.1) → RD K D0 (star (objs ((q, .dT []) :: L)) R) l (Q (.ref q))) : RD K D0 (star (objs L) R) l (fun H => tDNewT σ H Q) := fun N H A q hq => k q (A.ob_ne hq) _ _ (A.newOb (fun _ z => by cases z) hq)
theorem d_dnewK (k : ∀ q, (∀ p ∈ L, q ≠ p.1) → RD K D0 (star (objs ((q, .dK []) :: L)) R) l (Q (.ref q))) : RD K D0 (star (objs L) R) l (fun H => tDNewK σ H Q) := fun N H A q hq => k q (A.ob_ne hq) _ _ (A.newOb (fun _ z => by cases z) hq)
def kDIn (neg : Bool) (y x : V) (H : Hp) (Q : VK) : Prop := ∃ a o, x = .ref a ∧ DGet H a y o ∧ Q (.bl (if neg then !o.isSome else o.isSome)) H
theorem d_tDIn {ty td : TE} (k : RD K D0 R l (fun H => ty σ H fun y H1 => td σ H1 fun x H2 => kDIn false y x H2 Q)) : RD K D0 R l (fun H => tDIn ty td σ H Q) := k
theorem d_tDNotIn {ty td : TE} (k : RD K D0 R l (fun H => ty σ H fun y H1 => td σ H1 fun x H2 => kDIn true y x H2 Q)) : RD K D0 R l (fun H => tDNotIn ty td σ H Q) := k
theorem d_dinT {neg : Bool} {a b : Addr} {kvs : List (List Key × V)} {ks : List Key} (ha : (a, .dT kvs) ∈ L) (hb : D0 b = some (.tup (ks.map kV))) (k : RD K D0 (star (objs L) R) l (Q (.bl (if neg then !(valV kvs ks).isSome else (valV kvs ks).isSome)))) :
    RD K D0 (star (objs L) R) l (fun H => kDIn neg (.ref b) (.ref a) H Q) := fun N H A => ⟨a, valV kvs ks, rfl, .t (A.ob ha) (A.fixed hb), k N H A⟩
theorem d_dinK {neg : Bool} {a : Addr} {kvs : List (Key × V)} {key : Key} (ha : (a, .dK kvs) ∈ L) (k : RD K D0 (star (objs L) R) l (Q (.bl (if neg then !(valV kvs key).isSome else (valV kvs key).isSome)))) :
    RD K D0 (star (objs L) R) l (fun H => kDIn neg (kV key) (.ref a) H Q) := fun N H A => ⟨a, valV kvs key, rfl, .k (A.ob ha), k N H A⟩
def kDPut (v x y : V) (H : Hp) (Qn : Hp → Prop) : Prop := ∃ a H4, x = .ref a ∧ DPut H a y v H4 ∧ Qn H4
theorem d_sDPut {td ty tv : TE} (k : RD K D0 R l (fun H => tv σ H fun v H1 => td σ H1 fun x H2 => ty σ H2 fun y H3 => kDPut v x y H3 fun H4 => D.nx σ H4)) : RD K D0 R l (fun H => sDPut td ty tv D σ H) := k
theorem d_putT {a b : Addr} {kvs : List (List Key × V)} {ks : List Key} {v : V} {Qn : Hp → Prop} (ha : (a, .dT kvs) ∈ L) (hb : D0 b = some (.tup (ks.map kV))) (hl : kvs.length < sizeLine) (k : RD K D0 (star (objs (putO L a (.dT (putK kvs ks v)))) R) l Qn) :
    RD K D0 (star (objs L) R) l (fun H => kDPut v (.ref a) (.ref b) H Qn) := fun N H A => ⟨a, _, rfl, .t (A.ob ha) (A.fixed hb) hl, k N _ (A.setOb (fun _ z => by cases z) ha)⟩
theorem d_putK {a : Addr} {kvs : List (Key × V)} {key : Key} {v : V} {Qn : Hp → Prop} (ha : (a, .dK kvs) ∈ L) (hl : kvs.length < sizeLine) (k : RD K D0 (star (objs (putO L a (.dK (putK kvs key v)))) R) l Qn) :
    RD K D0 (star (objs L) R) l (fun H => kDPut v (.ref a) (kV key) H Qn) := fun N H A => ⟨a, _, rfl, .k (A.ob ha) hl, k N _ (A.setOb (fun _ z => by cases z) ha)⟩
theorem RD.objs {L' : List (Addr × HO)} (e : ∀ p, p ∈ L ↔ p ∈ L') (k : RD K D0 (star (objs L') R) l T) : RD K D0 (star (objs L) R) l T := RD.res (S := star (GL.objs L') R) (fun h => by
  obtain ⟨N1, N2, a, dj, ⟨b, c⟩, h2⟩ := h
  exact ⟨N1, N2, a, dj, ⟨fun x => (b x).trans ⟨fun ⟨o, h⟩ => ⟨o, (e _).1 h⟩, fun ⟨o, h⟩ => ⟨o, (e _).2 h⟩⟩, fun p hp => c p ((e p).2 hp)⟩, h2⟩) k
end
end GL

/-! G15: sorted of a dict by tuples. -/
namespace GL
open PySem PySem.Spec L2
open PyProof.Rows hiding St
open PySem.W (EachIs AllAlike Sortable dataLe)
def kD : Key → PyData
  | .inl i => .int i
  | .inr s => .str s
def keyD (q : Addr × List Key) : PyData := .tuple (q.2.map kD)
def gSortedT : List V → Hp → VK → Prop := fun xs H Q => ∃ (d : Addr) (kvs : List (List Key × V)), xs = [.ref d] ∧ H d = some (.dT kvs) ∧ AllAlike (kvs.map fun kv => .tuple (kv.1.map kD)) ∧ Sortable (kvs.map fun kv => .tuple (kv.1.map kD)) ∧
  ∀ (p : Addr) (bs : List (Addr × List Key)), bs.map (·.2) = kvs.map (·.1) → (∀ q ∈ bs, H q.1 = some (.tup (q.2.map kV))) → H p = none → Q (.ref p) (upd H p (.lst ((bs.mergeSort (dataLe false keyD)).map fun q => .ref q.1)))
theorem kD_dp {K : PySem.W.Frag} {H : Hp} : ∀ ks : List Key, DtAll K H (ks.map kV) (ks.map kD)
  | [] => .nil
  | .inl i :: ks => .cons (.int i) (kD_dp ks)
  | .inr s :: ks => .cons (.str s) (kD_dp ks)
theorem kD_reads {h : Heap} : ∀ {ks : List Key} {us : List Value}, Vals (ks.map kV) us → ReadsAll h us (ks.map kD) []
  | [], _, r => by
    cases r
    exact .nil
  | .inl i :: ks, _, r => by
    cases r with
    | cons a t =>
      obtain ⟨tk, rfl⟩ := (show ∃ tk, _ = Value.int i tk from a)
      exact .cons (as := []) (.int i tk) (kD_reads t)
  | .inr s :: ks, _, r => by
    cases r with
    | cons a t =>
      obtain ⟨tk, rfl⟩ := (show ∃ tk, _ = Value.str s tk from a)
      exact .cons (as := []) (.str s tk) (kD_reads t)
theorem kD_depth : ∀ ks : List Key, PyData.depthAll (ks.map kD) = 0
  | [] => by simp [PyData.depthAll]
  | .inl i :: ks => by simp [PyData.depthAll, PyData.depth, kD, kD_depth ks]
  | .inr s :: ks => by simp [PyData.depthAll, PyData.depth, kD, kD_depth ks]
theorem keyD_depth (q : Addr × List Key) : (keyD q).depth ≤ 1 := by
  unfold keyD
  simp only [PyData.depth, kD_depth]
  omega
theorem each_refs : ∀ (bs : List (Addr × List Key)), EachIs (fun v (q : Addr × List Key) => v = Value.ref q.1) (bs.map fun q => Value.ref q.1) bs
  | [] => .nil
  | _ :: bs => .cons rfl (each_refs bs)
theorem refs_each : ∀ {bs : List (Addr × List Key)} {us : List Value}, EachIs (fun v (q : Addr × List Key) => v = Value.ref q.1) us bs → Vals (bs.map fun q => V.ref q.1) us
  | _, _, .nil => .nil
  | _, _, .cons e t => .cons e (refs_each t)
theorem call_gsortedT {X : Cx} (hc : X.calm = true) (hu : X.A.units + 64 < cLine) : CallR X (.builtin "sorted") gSortedT := by
  intro pins s σ H xs us Q I r h
  obtain ⟨d, kvs, rfl, hd, al, so, q⟩ := h
  obtain ⟨u, rfl, ru⟩ := vals1 r
  cases (show u = Value.ref d from ru)
  obtain ⟨hz, sysm, ks, pr, o, es, ep, ho, ex, hdt, he, nd⟩ := (show ObjOk X.prog X.w H s.heap d (.dT kvs) from I.hok d _ hd)
  have n1 : es.size = ks.length := size_of_entries he
  have n2 : kvs.length = ks.length := Paired.length pr
  apply Calls.call_function_entry PyProof.Rows.kind_sorted PyProof.Rows.plain_sorted PyProof.Rows.entry_sorted (PyProof.Rows.args_sorted1 _)
  unfold Builtin.«sorted»
  apply wpAny_bind (m := checkCount "sorted" 1 1 _)
  apply wpAny_pure
  apply wpAny_bind
  apply PySem.W.kdu_collect (A := X.A.in1) (kdl_raw sysm ex hdt) (I.ok.hd hc) ho (by omega)
  intro h' tk acc keep items
  have bs0 : acc.toList = (ks.map fun x => (x.2.1, x.1)).map fun q => Value.ref q.1 := by
    rw [List.map_map]
    apply List.ext_getElem?
    intro j
    rw [List.getElem?_map]
    have len : acc.toList.length = ks.length := by
      rw [show acc.toList.length = acc.size from Array.length_toList, items.1]
      exact n1
    by_cases hj : j < ks.length
    · obtain ⟨v, hv⟩ : ∃ v, acc.toList[j]? = some v := ⟨_, List.getElem?_eq_getElem (by omega)⟩
      obtain ⟨en, e1, e2⟩ := items.2 j v (by rw [← Array.getElem?_toList]; exact hv)
      have at_ := entry_at he j
      rw [e1, List.getElem?_eq_getElem hj] at at_
      have ee : en = entryOfKey (tupleKind (mixKind X.prog X.w)) ks[j] := Option.some.inj at_
      rw [hv, List.getElem?_eq_getElem hj, e2, ee]
      rfl
    · rw [List.getElem?_eq_none (by omega), List.getElem?_eq_none (by omega)]
      rfl
  generalize hb : (ks.map fun x => (x.2.1, x.1)) = bs at bs0
  have keysEq : bs.map (·.2) = kvs.map (·.1) := by
    rw [← hb, List.map_map]
    clear hb bs0 al so q hz n1 n2 he nd hd
    induction pr with
    | nil => rfl
    | cons h t ih => rw [List.map_cons, List.map_cons, ih]; rw [h.1]; rfl
  have tups : ∀ x ∈ bs, H x.1 = some (.tup (x.2.map kV)) := by
    rw [← hb]
    clear keysEq hb bs0 al so q hz n1 n2 he nd hd
    intro x hx
    obtain ⟨y, hy, rfl⟩ := List.mem_map.1 hx
    induction pr with
    | nil => cases hy
    | cons h t ih =>
      rcases List.mem_cons.1 hy with rfl | hy
      · show H _ = some (.tup (_ : List V))
        rw [h.2.1, h.1]
      · exact ih hy (List.mem_map.2 ⟨y, hy, rfl⟩)
  have lb : bs.length = ks.length := by rw [← hb, List.length_map]
  have size : bs.length ≤ sizeLine := by omega
  have I1 : Inv X pins σ H { s with heap := h', toks := tk } := I.kept keep
  apply wpAny_bind
  refine wpAny_newList ?_ (by rw [bs0, List.length_map]; exact size)
  have here : (h'.push (seqObj "list" acc.toList.toArray 0)).get? h'.objs.size = some (seqObj "list" acc.toList.toArray 0) :=
    Heap.get?_push_size _ rfl
  show wpAny _ _ _ _ _ { s with heap := h'.push (seqObj "list" acc.toList.toArray 0), toks := tk }
  have dat : bs.map keyD = kvs.map fun kv => .tuple (kv.1.map kD) := by
    have e1 : bs.map keyD = (bs.map (·.2)).map fun k => PyData.tuple (k.map kD) := by
      rw [List.map_map]
      rfl
    rw [e1, keysEq, List.map_map]
    rfl
  have rd : EachIs (fun v (x : Addr × List Key) => ∃ as, Reads (h'.push (seqObj "list" acc.toList.toArray 0)) v (keyD x) as ∧ h'.objs.size ∉ as) acc.toList bs := by
    rw [bs0]
    refine each_in (each_refs bs) fun v x hx e => ?_
    subst e
    obtain ⟨_, its, rv, ob, a1, a2, n, a3⟩ := (show ObjOk X.prog X.w H s.heap x.1 (.tup (x.2.map kV)) from I.hok _ _ (tups x hx))
    exact ⟨[], .tuple (Heap.get?_push_of_some _ (keep _ _ a1)) a2 a3 (kD_reads rv), List.not_mem_nil⟩
  have ev : EachIs (fun v (x : Addr × List Key) => v = Value.ref x.1) acc.toList bs := by
    rw [bs0]
    exact each_refs bs
  apply wpAny_bind
  apply wpAny_holding
  have fin := PySem.W.list_sort_data (prog := X.prog) (w := X.w) (A := X.A.in1) (E := X.xe) (s := { s with heap := h'.push (seqObj "list" acc.toList.toArray 0), toks := tk }) (enc := keyD) here ev rd (by rw [dat]; exact al) (by rw [dat]; exact so) size
    (fun x _ => by have := keyD_depth x; show X.A.units + 1 + 1 + (keyD x).depth < cLine; omega)
    (Q := fun _ s2 => EP X pins σ Q (.ref h'.objs.size) s2) (fun out len eo => by
      obtain ⟨c, at_⟩ := sortedHeap_at (out := out.toArray) here
      have ov := refs_each eo
      have ol : ((bs.mergeSort (dataLe false keyD)).map fun q => V.ref q.1).length ≤ sizeLine := by
        rw [List.length_map, List.length_mergeSort]
        exact size
      have new : ObjOk X.prog X.w (upd H h'.objs.size (.lst ((bs.mergeSort (dataLe false keyD)).map fun q => V.ref q.1))) (PyProof.Rows.sortedHeap (h'.push (seqObj "list" acc.toList.toArray 0)) h'.objs.size acc.toList out.toArray) h'.objs.size
          (.lst ((bs.mergeSort (dataLe false keyD)).map fun q => V.ref q.1)) := ⟨ol, out, c, ov, at_⟩
      have J := I1.laid (t' := tk) (h' := PyProof.Rows.sortedHeap (h'.push (seqObj "list" acc.toList.toArray 0)) h'.objs.size acc.toList out.toArray) (fun b o e => by
        have lt := Heap.lt_size e
        rw [sortedHeap_old (Nat.ne_of_lt lt) (by rw [Heap.size_push]; exact Nat.lt_succ_of_lt lt)]
        exact Heap.get?_push_of_some _ e) (Nat.le_refl _) new
      exact ⟨.ref _, _, J, rfl, q _ _ keysEq tups (I1.hok.fresh (Nat.le_refl _))⟩)
  refine wpAny_mono fin (fun _ s2 x => ?_) fun _ _ e => e
  exact wpAny_pure ⟨_, rfl, x⟩
end GL

/-! G16: del d[k] of a dict by tuples; sorted of it, derived. -/
namespace GL
open PySem PySem.Spec L2
open PyProof.Rows hiding St
open PySem.W (EachIs AllAlike Sortable dataLe)
section
variable {K : Type} [DecidableEq K] {prog : Program} {w : World} {knd : HeapKind prog w K}
theorem meetsDel {d b : Addr} {k : K} :
    MeetsIn prog w (Builtin.«dict.__delitem__» ⟨[.ref d, .ref b], []⟩) (fun A R s => ∃ xs p, knd.room A.in1 ∧ knd.is s.heap k b ∧ s.heap.DictOfH knd d xs ∧ xs.length ≤ sizeLine ∧ atKey xs k = some p ∧
      ∀ h' tk, h'.DictOfH knd d (DT.dropH xs k) → Heap.SameBut d s.heap h' → R (.ok (.ret .none)) { s with heap := h', toks := tk }) :=
  .of_wp fun A R s ⟨xs, p, room, key, dict, sz, there, go⟩ => by
    unfold Builtin.«dict.__delitem__»
    apply wpAny_bind
    unfold Builtin.Dict.dictSlotArgs
    apply wpAny_bind
    apply wpAny_notOrdered_dict dict.typeIs
    show wpAny _ _ (pure (Value.ref d, Value.ref b)) _ _ s
    apply wpAny_pure
    show wpAny _ _ (Builtin.Dict.takeOut d (.ref b) >>= _) _ _ s
    apply wpAny_bind
    apply DT.takeH room key dict sz
    · intro no
      rw [there] at no
      cases no
    · intro p2 e _ _ h' dict' same
      exact wpAny_bind (wpAny_letGo (wpAny_pure ⟨.none, rfl, go h' _ dict' same⟩))
end
section
variable {X : Cx} {pins : List (Addr × Obj)} {σ : L2.St} {H : Hp} {s : Shared} {A : Around} {a b : Addr} {kvs : List (List Key × V)} {ks : List Key}
theorem del_tup {Q : Unit → Shared → Prop} {E : Value → Shared → Prop} (hu : A.units + 1 < cLine) (I : Inv X pins σ H s) (ha : H a = some (.dT kvs)) (hb : H b = some (.tup (ks.map kV))) (there : (valV kvs ks).isSome = true)
    (k : ∀ s', Inv X pins σ (upd H a (.dT (dropK kvs ks))) s' → Q () s') : wpAny (model X.prog X.w) A (delItem (.ref a) (.ref b)) Q E s := by
  obtain ⟨z, sysm, xs, rel, dd⟩ := dt_of I.hok ha
  have sz : xs.length ≤ sizeLine := by
    rw [← Paired.length rel]
    exact z
  obtain ⟨v0, ev⟩ := Option.isSome_iff_exists.1 there
  have r := rel.val ks
  rw [ev] at r
  obtain ⟨p, hp⟩ : ∃ p, atKey xs ks = some p := by
    cases e : atKey xs ks with
    | some p => exact ⟨p, rfl⟩
    | none =>
      rw [e] at r
      exact (show False from r).elim
  apply wpAny_delItem_slot dd.typeIs (by decide) PySem.F.slot_dict_delitem
  apply call_meetsIn PySem.F.slot_dict_delitem dd.typeIs PySem.F.entry_dict_delitem (PySem.F.args_dict_delitem_2 _ _) (meetsDel (knd := tupleKind (mixKind X.prog X.w)) (k := ks))
  refine ⟨xs, p, tupleKind_room_in1 hu, key_of I.hok hb, dd, sz, hp, fun h' tk dd' same => k _ ?_⟩
  obtain ⟨o, es, ep, g1, g2, g3, g4, _, g5⟩ := dd'
  exact d_write I (by rw [ha]; exact True.intro) same ⟨o, g1⟩
    ⟨Nat.le_trans (dropK_le kvs ks) z, sysm, _, (L2.DX.KT_drop ks rel).keeps (fun c ys ec => by rw [upd_ne (ne_of ec ha (fun z => nomatch z))]; exact ec), o, es, ep, g1, g2, g3, g4, g5⟩
end
def sDDelT (td ty : TE) : TS := fun D σ H => td σ H fun x H1 => ty σ H1 fun y H2 => ∃ a b kvs ks, x = .ref a ∧ y = .ref b ∧ H2 a = some (.dT kvs) ∧ H2 b = some (.tup (ks.map kV)) ∧ (valV kvs ks).isSome = true ∧ D.nx σ (upd H2 a (.dT (dropK kvs ks)))
theorem ps_ddelT {X : Cx} {o i : Expr} {td ty : TE} {tpos pos : Pos} (hu : X.A.units + 1 < cLine) (ho : PE X o td) (hi : PE X i ty) : PS X (.Delete [.Subscript o i tpos] pos) (sDDelT td ty) := by
  constructor
  intro pins s σ H D I h
  apply wpAny_Delete
  apply wpAny_deleteEach_cons
  apply wpAny_delete_Subscript
  refine thn (ho.run pins s σ H _ I h) ?_
  rintro u s1 ⟨x, H1, I1, rx, q1⟩
  refine thn (hi.run pins s1 σ H1 _ I1 q1) ?_
  rintro iv s2 ⟨y, H2, I2, ry, a, b, kvs, ks, rfl, rfl, ha, hb, th, q2⟩
  obtain rfl : u = Value.ref a := rx
  obtain rfl : iv = Value.ref b := ry
  exact del_tup hu I2 ha hb th fun s3 I3 => wpAny_deleteEach_nil ⟨σ, _, I3, q2⟩
/-! ### derived -/
section
variable {K : PySem.W.Frag} {D0 D1 : Hp} {R : Res} {l : List (V × PyData)} {σ : L2.St} {D : Ends} {Q : VK} {L : List (Addr × HO)} {T : Hp → Prop}
theorem At.tup_free {N : Addr → Prop} {H : Hp} (A : At K D0 R l N H) {b : Addr} {xs : List V} (h : H b = some (.tup xs)) : ¬ N b := fun hn => by
  obtain ⟨o, e, z⟩ := A.nt b hn
  rw [h] at e
  exact z xs (Option.some.inj e).symm
theorem keys_dt {H : Hp} : ∀ {bs : List (Addr × List Key)}, (∀ q ∈ bs, H q.1 = some (.tup (q.2.map kV))) → DtAll K H (bs.map fun q => V.ref q.1) (bs.map keyD)
  | [], _ => .nil
  | q :: bs, h => .cons (.tup (.inl (.inl (h q List.mem_cons_self))) (kD_dp q.2)) (keys_dt fun x hx => h x (List.mem_cons_of_mem _ hx))
theorem d_sortedT {d : Addr} {kvs : List (List Key × V)} (hd : (d, .dT kvs) ∈ L) (al : AllAlike (kvs.map fun kv => .tuple (kv.1.map kD))) (so : Sortable (kvs.map fun kv => .tuple (kv.1.map kD)))
    (k : ∀ v, RD K D0 (star (objs L) R) ((v, .list ((kvs.map fun kv => PyData.tuple (kv.1.map kD)).mergeSort (dataLe false id))) :: l) (Q v)) : RD K D0 (star (objs L) R) l (fun H => gSortedT [.ref d] H Q) := fun N H A => by
  refine ⟨d, kvs, rfl, A.ob hd, al, so, fun p bs e1 tups hp => ?_⟩
  obtain ⟨A', e⟩ := A.new (.lst ((bs.mergeSort (dataLe false keyD)).map fun q => V.ref q.1)) hp
  have dat : bs.map keyD = kvs.map fun kv => PyData.tuple (kv.1.map kD) := by
    have z : bs.map keyD = (bs.map (·.2)).map fun k => PyData.tuple (k.map kD) := by
      rw [List.map_map]
      rfl
    rw [z, e1, List.map_map]
    rfl
  have ds : DtAll K (off (upd H p (.lst ((bs.mergeSort (dataLe false keyD)).map fun q => V.ref q.1))) N) ((bs.mergeSort (dataLe false keyD)).map fun q => V.ref q.1) ((bs.mergeSort (dataLe false keyD)).map keyD) :=
    keys_dt fun q hq => by
      have t := tups q ((List.mergeSort_perm _ _).mem_iff.1 hq)
      rw [off_ne (A.tup_free t), upd_ne (ne_of_none t hp)]
      exact t
  have em : (bs.mergeSort (dataLe false keyD)).map keyD = (bs.map keyD).mergeSort (dataLe false id) := List.map_mergeSort fun _ _ _ _ => rfl
  rw [em, dat] at ds
  exact k _ N _ (A'.facts (.lst e ds))
def kDDelT (x y : V) (H2 : Hp) (Qn : Hp → Prop) : Prop := ∃ a b kvs ks, x = .ref a ∧ y = .ref b ∧ H2 a = some (.dT kvs) ∧ H2 b = some (.tup (ks.map kV)) ∧ (valV kvs ks).isSome = true ∧ Qn (upd H2 a (.dT (dropK kvs ks)))
theorem d_sDDelT {td ty : TE} (k : RD K D0 R l (fun H => td σ H fun x H1 => ty σ H1 fun y H2 => kDDelT x y H2 fun H3 => D.nx σ H3)) : RD K D0 R l (fun H => sDDelT td ty D σ H) := k
theorem d_delT {a b : Addr} {kvs : List (List Key × V)} {ks : List Key} {Qn : Hp → Prop} (ha : (a, .dT kvs) ∈ L) (hb : D0 b = some (.tup (ks.map kV))) (th : (valV kvs ks).isSome = true) (k : RD K D0 (star (objs (putO L a (.dT (dropK kvs ks)))) R) l Qn) :
    RD K D0 (star (objs L) R) l (fun H => kDDelT (.ref a) (.ref b) H Qn) := fun N H A => ⟨a, b, kvs, ks, rfl, rfl, A.ob ha, A.fixed hb, th, k N _ (A.setOb (fun _ z => by cases z) ha)⟩
end
end GL

/-! G17: derived rules for try with several clauses, for errors over any base, for len of a dict. -/
namespace GL
open PySem PySem.Spec L2
open PyProof.Rows hiding St
def gLenD : List V → Hp → VK → Prop := fun xs H Q => rLenT xs H Q ∨ ∃ a kvs, xs = [V.ref a] ∧ H a = some (.dK kvs) ∧ Q (.int (kvs.length : Nat)) H
theorem call_glenD {X : Cx} : CallR X (.builtin "len") gLenD := by
  intro pins s σ H xs us Q I r h
  rcases h with h | h
  · exact call_len_dT pins s σ H xs us Q I r h
  · exact call_lenD pins s σ H xs us Q I r h
section
variable {K : PySem.W.Frag} {D0 D1 : Hp} {R : Res} {l : List (V × PyData)} {σ : L2.St} {D : Ends} {Q : VK} {L : List (Addr × HO)} {T : Hp → Prop}
theorem d_tMix {tb : WX → TS} {cl : List Cl} {W : WX} (k : RD K D0 R l (fun H => tb (wMix K W D cl) D σ H)) : RD K D0 R l (fun H => tMix K tb cl W D σ H) := k
theorem d_mixYes {C C' : Addr} {d : Option Addr} {o : Option Nat} {ts : Addr → Value → Option Addr → TS} {r : List Cl} {W : WX} (te : PySem.W.exmOne K (.ref C) (.ref C') = some true)
    (k : ∀ a, RD K D0 R l (fun H => ts a (.ref C) d (endsOf o D) (slotOf a o σ) H)) : RD K D0 R l (fun H => wMix K W D ((.ref C', o, ts) :: r) (.ref C) d σ H) :=
  fun N H A => ⟨true, te, fun _ a _ => k a N H A, fun z => by cases z⟩
theorem d_mixNo {C C' : Addr} {d : Option Addr} {o : Option Nat} {ts : Addr → Value → Option Addr → TS} {r : List Cl} {W : WX} (te : PySem.W.exmOne K (.ref C) (.ref C') = some false)
    (k : RD K D0 R l (fun H => wMix K W D r (.ref C) d σ H)) : RD K D0 R l (fun H => wMix K W D ((.ref C', o, ts) :: r) (.ref C) d σ H) :=
  fun N H A => ⟨false, te, (fun z => by cases z), fun _ => k N H A⟩
theorem d_chain {r r' : R2} {ta tb tc : TE} (k : RD K D0 R l (fun H => ta σ H fun x H1 => tb σ H1 fun y H2 => r x y H2 fun z H3 => kBl z H3 fun c H4 => if c = true then tc σ H4 fun u H5 => r' y u H5 Q else Q (.bl false) H4)) : RD K D0 R l (fun H => tChain r r' ta tb tc σ H Q) := k
/-- a resource is forgotten -/
theorem At.drop {S : Res} {N : Addr → Prop} {H : Hp} (A : At K D0 (star S R) l N H) : ∃ N', At K D0 R l N' H := by
  obtain ⟨N1, N2, e, dj, h1, h2⟩ := A.r
  have sm : Same (off H N) (off H N2) := off_grow fun b hb _ => ⟨fun z => hb ((e b).2 (.inr z)), rfl⟩
  exact ⟨N2, fun b hb => A.nt b ((e b).2 (.inr hb)), R.st h2 sm fun _ _ => rfl, A.d0.trans sm, fun q hq => (A.f q hq).mono sm⟩
theorem RD.drop {S : Res} (k : RD K D0 R l T) : RD K D0 (star S R) l T := fun N H A => by
  obtain ⟨N', A'⟩ := A.drop
  exact k N' H A'
theorem d_lenDT {a : Addr} {kvs : List (List Key × V)} (ha : (a, .dT kvs) ∈ L) (k : RD K D0 (star (objs L) R) l (Q (.int (kvs.length : Nat)))) : RD K D0 (star (objs L) R) l (fun H => gLenD [.ref a] H Q) := fun N H A => .inl ⟨a, kvs, rfl, A.ob ha, k N H A⟩
theorem d_lenDK {a : Addr} {kvs : List (Key × V)} (ha : (a, .dK kvs) ∈ L) (k : RD K D0 (star (objs L) R) l (Q (.int (kvs.length : Nat)))) : RD K D0 (star (objs L) R) l (fun H => gLenD [.ref a] H Q) := fun N H A => .inr ⟨a, kvs, rfl, A.ob ha, k N H A⟩
/-! ### a method -/
def kGM (C : Addr) (m : Str) (x : V) (H1 : Hp) (k : Hp → Prop) : Prop := ∃ a dx fs, x = .ref a ∧ H1 a = some (.ins C dx fs) ∧ fs.lookup m = none ∧ k H1
theorem d_tGM {C : Addr} {m : Str} {sp : Sp} {W : WX} {ta : TE} {t : TA} (k : RD K D0 R l (fun H => ta σ H fun x H1 => kGM C m x H1 fun H2 => t σ H2 fun vs H3 => sp (x :: vs) H3 Q (WE W σ))) : RD K D0 R l (fun H => tGM C m sp W ta t σ H Q) := k
end
end GL

/-! G18: derived rules for a list that may change: in, len, sorted, pop; list + list; a, b = (x, y) of anything. -/
namespace GL
open PySem PySem.Spec L2
open PyProof.Rows hiding St
open PySem.W (AllAlike Sortable dataLe)
section
variable {K : PySem.W.Frag} {D0 : Hp} {R : Res} {l : List (V × PyData)} {σ : L2.St} {D : Ends} {Q : VK}
theorem At.ownDt {N : Addr → Prop} {H : Hp} {a : Addr} {ds : List PyData} (A : At K D0 (star (own K a ds) R) l N H) : Dt K H (.ref a) (.list ds) := by
  obtain ⟨xs, hx, hd⟩ := A.ownAt
  exact .lst hx (hd.mono off_same)
theorem d_inO {neg : Bool} {x : V} {a : Addr} {d : PyData} {ds : List PyData} (hx : InL l x d) (dp : d.depth ≤ 60) (k : RD K D0 (star (own K a ds) R) l (Q (.bl (if neg = true then !(ds.any fun e => PyData.eqv e d) else ds.any fun e => PyData.eqv e d)))) :
    RD K D0 (star (own K a ds) R) l (fun H => gIn K neg x (.ref a) H Q) := fun N H A => by
  cases neg with
  | false => exact .inl ⟨d, ds, A.dH hx, .inl A.ownDt, dp, k N H A⟩
  | true => exact .inl ⟨d, ds, A.dH hx, .inl A.ownDt, dp, k N H A⟩
theorem d_lenO {a : Addr} {ds : List PyData} (k : RD K D0 (star (own K a ds) R) l (Q (.int (ds.length : Nat)))) : RD K D0 (star (own K a ds) R) l (fun H => gLen K [.ref a] H Q) := fun N H A => by
  obtain ⟨xs, hx, hd⟩ := A.ownAt
  exact ⟨.ref a, ds.length, rfl, .inl ⟨xs, SqL.of hx, hd.len.symm⟩, k N H A⟩
theorem d_catL {x y : V} {ds es : List PyData} (hx : InL l x (.list ds)) (hy : InL l y (.list es)) (hz : ds.length + es.length ≤ sizeLine) (k : ∀ v, RD K D0 R ((v, .list (ds ++ es)) :: l) (Q v)) : RD K D0 R l (fun H => gAdd K x y H Q) := fun N H A => by
  obtain ⟨a, xs, rfl, ha, hd⟩ := (A.dt hx).list
  obtain ⟨b, ys, rfl, hb, he⟩ := (A.dt hy).list
  refine .inr (.inr (.inl ⟨a, b, xs, ys, rfl, rfl, off_same a _ ha, off_same b _ hb, by rw [hd.len, he.len]; exact hz, fun p hp => ?_⟩))
  obtain ⟨A', e⟩ := A.new (.lst (xs ++ ys)) hp
  have h1 := (A'.dt hx)
  have h2 := (A'.dt hy)
  obtain ⟨a', xs', e1, ha', hd'⟩ := h1.list
  obtain ⟨b', ys', e2, hb', he'⟩ := h2.list
  cases e1
  cases e2
  have x1 : xs' = xs := by
    have q := off_same a _ ha'
    rw [upd_ne (ne_of_none (off_same a _ ha) hp), off_same a _ ha] at q
    cases q
    rfl
  have y1 : ys' = ys := by
    have q := off_same b _ hb'
    rw [upd_ne (ne_of_none (off_same b _ hb) hp), off_same b _ hb] at q
    cases q
    rfl
  subst x1 y1
  exact k _ N _ (A'.facts (.lst e (hd'.append he')))
theorem d_tupPar {u v : V} {g : TGs} {Qn : L2.St → Hp → Prop} (k : RD K D0 R l (fun H => g [u, v] σ H Qn)) : RD K D0 R l (fun H => kTup [u, v] H fun x H1 => gTup K 2 g x σ H1 Qn) := fun N H A => by
  refine ⟨show 2 ≤ sizeLine by decide, fun p hp => ⟨p, [u, v], rfl, .inl (.inl upd_same), rfl, ?_⟩⟩
  obtain ⟨A', _⟩ := A.new (.tup [u, v]) hp
  exact k N _ A'
theorem d_popO {a : Addr} {ds : List PyData} {i : Nat} {d : PyData} (hi : ds[i]? = some d) (hz : ds.length < 2 ^ 63) (k : ∀ v, Dv v d → RD K D0 (star (own K a (ds.eraseIdx i)) R) ((v, d) :: l) (Q v)) :
    RD K D0 (star (own K a ds) R) l (fun H => rPopAt (.ref a) [.int i] H Q) := fun N H A => by
  obtain ⟨xs, hx, hd⟩ := A.ownAt
  obtain ⟨v, hv, dv⟩ := hd.at hi
  have lt := (List.getElem?_eq_some_iff.1 hi).1
  have lx : xs.length = ds.length := hd.len
  refine ⟨a, xs, i, i, v, rfl, rfl, hx, by omega, by omega, ?_, hv, ?_⟩
  · unfold seqIndex?
    have h1 : ¬ ((i : Int) < 0) := by omega
    rw [if_neg h1]
    have h2 : (decide (0 ≤ (i : Int)) && decide ((i : Int) < (xs.length : Int))) = true := by
      rw [decide_eq_true (show 0 ≤ (i : Int) by omega), decide_eq_true (show (i : Int) < (xs.length : Int) by omega)]
      rfl
    rw [if_pos h2]
    rfl
  · have A1 := (A.facts dv).setOwn (es := ds.eraseIdx i) (ys := xs.eraseIdx i) (hd.erase i)
    exact k v dv.dv _ _ A1
theorem RD.third {A B C S : Res} {T : Hp → Prop} (k : RD K D0 (star C (star A (star B S))) l T) : RD K D0 (star A (star B (star C S))) l T := RD.res (S := star C (star A (star B S))) (fun h => by
  obtain ⟨N1, N2, e, dj, h1, h2⟩ := h
  exact star_swap ⟨N1, N2, e, dj, h1, star_swap h2⟩) k
theorem RD.back {A B C S : Res} {T : Hp → Prop} (k : RD K D0 (star A (star B (star C S))) l T) : RD K D0 (star C (star A (star B S))) l T := RD.res (S := star A (star B (star C S))) (fun h => by
  obtain ⟨N1, N2, e, dj, h1, h2⟩ := star_swap h
  exact ⟨N1, N2, e, dj, h1, star_swap h2⟩) k
theorem d_lcList {v : V} {ds : List PyData} {g : TG} {tt : TT} {te : TE} {vs : List Nat} (hv : InL l v (.list ds)) (P : Nat → Res → List (V × PyData) → List PyData → Prop) (hkeep : ∀ i R' l' es, P i R' l' es → InL l' v (.list ds)) (h0 : P 0 R l [])
    (hs : ∀ i d x D R' l' es, ds[i]? = some d → Dv x d → P i R' l' es → RD K D0 (star (own K D es) R') ((x, d) :: l') (fun H => g x (wipe σ vs) H fun σ2 H2 => kWipe σ2 vs σ H2 fun H2 => tt σ2 H2 fun b H3 =>
      if b = true then te σ2 H3 fun y H4 => kItem D y H4 (ContC K D0 D (P (i + 1))) else ContC K D0 D (P (i + 1)) H3))
    (hd : ∀ v R' l' es, P ds.length R' l' es → RD K D0 R' ((v, .list es) :: l') (Q v)) :
    RD K D0 R l (fun H => wIt K v H fun J H1 => LcK g tt te vs σ Q J H1) := fun N H A => by
  obtain ⟨a, xs, rfl, ha, hd0⟩ := (A.dt hv).list
  have hl : ∀ {i D R' l' es N' H'}, P i R' l' es → At K D0 (star (own K D es) R') l' N' H' → ∃ xs', SqL K H' a xs' ∧ DtAll K (off H' N') xs' ds := fun p A' => by
    obtain ⟨a', xs', e, h', d'⟩ := (A'.dt (hkeep _ _ _ _ p)).list
    cases e
    exact ⟨xs', SqL.of (off_same a _ h'), d'⟩
  refine .inl ⟨a, rfl, ⟨xs, SqL.of (off_same a _ ha)⟩, fun D hD => ⟨fun i m H => m = ds.length - i ∧ i ≤ ds.length ∧ ContC K D0 D (P i) H, ⟨_, rfl, Nat.zero_le _, R, l, [], _, h0, A.newOwn hD .nil⟩, ?_⟩⟩
  rintro i m H' ⟨rfl, hi, R', l', es, N', p, A'⟩
  obtain ⟨xs', hq, d'⟩ := hl p A'
  by_cases hlt : i < ds.length
  · have hx : i < xs'.length := by rw [d'.len]; exact hlt
    refine .inr ⟨⟨xs', xs'[i], hq, by simp [hx]⟩, ContC K D0 D (P (i + 1)), fun H2 p => ⟨ds.length - (i + 1), by omega, rfl, hlt, p⟩, ?_⟩
    rintro x H2 ⟨rfl, hy⟩
    obtain ⟨d, e1, e2⟩ := d'.get (hy xs' hq)
    exact hs i d x D R' l' es e1 e2.dv p N' _ (A'.facts e2)
  · have e : i = ds.length := by omega
    subst e
    obtain ⟨N2, A2⟩ := A'.freeze
    exact .inl ⟨⟨xs', hq, by rw [d'.len]; exact Nat.le_refl _⟩, hd (.ref D) R' l' es p N2 H' A2⟩
end
end GL

/-! G19: sorted of a dict by ints or texts; del of it. -/
namespace GL
open PySem PySem.Spec L2
open PyProof.Rows hiding St
open PySem.W (EachIs AllAlike Sortable dataLe)
def psK (kvs : List (Key × V)) : List (V × PyData) := kvs.map fun kv => (kV kv.1, kD kv.1)
def gSortedK : List V → Hp → VK → Prop := fun xs H Q => ∃ (d : Addr) (kvs : List (Key × V)), xs = [.ref d] ∧ H d = some (.dK kvs) ∧ AllAlike (kvs.map fun kv => kD kv.1) ∧ Sortable (kvs.map fun kv => kD kv.1) ∧
  ∀ p : Addr, H p = none → Q (.ref p) (upd H p (.lst (((psK kvs).mergeSort (dataLe false byD)).map (·.1))))
theorem kD1_reads {h : Heap} : ∀ {k : Key} {u : Value}, RelV (kV k) u → Reads h u (kD k) []
  | .inl i, u, r => by
    obtain ⟨tk, rfl⟩ := (show ∃ tk, u = Value.int i tk from r)
    exact .int i tk
  | .inr s, u, r => by
    obtain ⟨tk, rfl⟩ := (show ∃ tk, u = Value.str s tk from r)
    exact .str s tk
theorem kD1_depth (k : Key) : (kD k).depth = 0 := by
  cases k <;> simp [kD, PyData.depth]
theorem call_gsortedK {X : Cx} (hc : X.calm = true) (hu : X.A.units + 64 < cLine) : CallR X (.builtin "sorted") gSortedK := by
  intro pins s σ H xs us Q I r h
  obtain ⟨d, kvs, rfl, hk, al, so, q⟩ := h
  obtain ⟨u, rfl, ru⟩ := vals1 r
  cases (show u = Value.ref d from ru)
  obtain ⟨z, lo, vs, rk, hd⟩ := (show ObjOk X.prog X.w H s.heap d (.dK kvs) from I.hok d _ hk)
  obtain ⟨ep, hat⟩ := hd.dictAt
  have hl : kvs.length = vs.length := Paired.length rk
  apply Calls.call_function_entry PyProof.Rows.kind_sorted PyProof.Rows.plain_sorted PyProof.Rows.entry_sorted (PyProof.Rows.args_sorted1 _)
  unfold Builtin.«sorted»
  apply wpAny_bind (m := checkCount "sorted" 1 1 _)
  apply wpAny_pure
  apply wpAny_bind
  apply PySem.W.kdu_collect (A := X.A.in1) (PySem.W.kdl_dict (knd := mixKind X.prog X.w) (kvs := vs) (ep := ep) lo) (I.ok.hd hc) hat (by rw [← hl]; exact z)
  intro h' tk acc keep hacc
  have el : acc.toList.length = acc.size := by simp
  have vls : Vals ((psK kvs).map (·.1)) acc.toList := by
    have e0 : (psK kvs).map (·.1) = kvs.map fun kv => kV kv.1 := by
      unfold psK
      rw [List.map_map]
      rfl
    rw [e0]
    refine vals_of_at (by rw [List.length_map, el, hacc.1, hl]) fun j x w h1 h2 => ?_
    obtain ⟨k, y, hky, hi⟩ := hacc.2 j w (by rw [← Array.getElem?_toList]; exact h2)
    have e1 : (kvs.map (·.1))[j]? = some k := by
      rw [KV.keys rk, List.getElem?_map, hky] <;> rfl
    have e2 : (kvs.map fun kv => kV kv.1)[j]? = some (kV k) := by
      have e3 : (kvs.map fun kv => kV kv.1) = (kvs.map (·.1)).map kV := by rw [List.map_map] <;> rfl
      rw [e3, List.getElem?_map, e1] <;> rfl
    rw [e2] at h1
    cases h1
    exact keyIs_rel hi
  have lb : (psK kvs).length = kvs.length := List.length_map _
  have size : (psK kvs).length ≤ sizeLine := by omega
  have la : acc.toList.length ≤ sizeLine := by rw [el, hacc.1, ← hl]; exact z
  have I1 : Inv X pins σ H { s with heap := h', toks := tk } := I.kept keep
  apply wpAny_bind
  refine wpAny_newList ?_ la
  have here : (h'.push (seqObj "list" acc.toList.toArray 0)).get? h'.objs.size = some (seqObj "list" acc.toList.toArray 0) :=
    Heap.get?_push_size _ rfl
  show wpAny _ _ _ _ _ { s with heap := h'.push (seqObj "list" acc.toList.toArray 0), toks := tk }
  have dat : (psK kvs).map byD = kvs.map fun kv => kD kv.1 := by
    unfold psK
    rw [List.map_map]
    rfl
  have ev := each_of vls
  have rd : EachIs (fun v (x : V × PyData) => ∃ as, Reads (h'.push (seqObj "list" acc.toList.toArray 0)) v (byD x) as ∧ h'.objs.size ∉ as) acc.toList (psK kvs) :=
    each_in ev fun v x hx e => by
      obtain ⟨kv, _, rfl⟩ := List.mem_map.1 hx
      exact ⟨[], kD1_reads e, List.not_mem_nil⟩
  apply wpAny_bind
  apply wpAny_holding
  have fin := PySem.W.list_sort_data (prog := X.prog) (w := X.w) (A := X.A.in1) (E := X.xe) (s := { s with heap := h'.push (seqObj "list" acc.toList.toArray 0), toks := tk }) (enc := byD) here ev rd (by rw [dat]; exact al) (by rw [dat]; exact so) size
    (fun x hx => by
      obtain ⟨kv, _, rfl⟩ := List.mem_map.1 hx
      have z0 : (byD (kV kv.1, kD kv.1)).depth = 0 := kD1_depth kv.1
      show X.A.units + 1 + 1 + (byD (kV kv.1, kD kv.1)).depth < cLine
      omega)
    (Q := fun _ s2 => EP X pins σ Q (.ref h'.objs.size) s2) (fun out len eo => by
      obtain ⟨c, at_⟩ := sortedHeap_at (out := out.toArray) here
      have ov := vals_each eo
      have ol : (((psK kvs).mergeSort (dataLe false byD)).map (·.1)).length ≤ sizeLine := by
        rw [List.length_map, List.length_mergeSort]
        exact size
      have new : ObjOk X.prog X.w (upd H h'.objs.size (.lst (((psK kvs).mergeSort (dataLe false byD)).map (·.1)))) (PyProof.Rows.sortedHeap (h'.push (seqObj "list" acc.toList.toArray 0)) h'.objs.size acc.toList out.toArray) h'.objs.size
          (.lst (((psK kvs).mergeSort (dataLe false byD)).map (·.1))) := ⟨ol, out, c, ov, at_⟩
      have J := I1.laid (t' := tk) (h' := PyProof.Rows.sortedHeap (h'.push (seqObj "list" acc.toList.toArray 0)) h'.objs.size acc.toList out.toArray) (fun b o e => by
        have lt := Heap.lt_size e
        rw [sortedHeap_old (Nat.ne_of_lt lt) (by rw [Heap.size_push]; exact Nat.lt_succ_of_lt lt)]
        exact Heap.get?_push_of_some _ e) (Nat.le_refl _) new
      exact ⟨.ref _, _, J, rfl, q _ (I1.hok.fresh (Nat.le_refl _))⟩)
  refine wpAny_mono fin (fun _ s2 x => ?_) fun _ _ e => e
  exact wpAny_pure ⟨_, rfl, x⟩
section
variable {K : PySem.W.Frag} {D0 : Hp} {R : Res} {l : List (V × PyData)} {Q : VK} {L : List (Addr × HO)}
theorem keysK_dt {H : Hp} : ∀ {ps : List (V × PyData)}, (∀ p ∈ ps, ∃ k : Key, p = (kV k, kD k)) → DtAll K H (ps.map (·.1)) (ps.map byD)
  | [], _ => .nil
  | p :: ps, h => by
    obtain ⟨k, rfl⟩ := h p List.mem_cons_self
    have t := keysK_dt (H := H) fun x hx => h x (List.mem_cons_of_mem _ hx)
    cases k with
    | inl i => exact .cons (.int i) t
    | inr s => exact .cons (.str s) t
theorem d_sortedK {d : Addr} {kvs : List (Key × V)} (hd : (d, .dK kvs) ∈ L) (al : AllAlike (kvs.map fun kv => kD kv.1)) (so : Sortable (kvs.map fun kv => kD kv.1))
    (k : ∀ v, RD K D0 (star (objs L) R) ((v, .list ((kvs.map fun kv => kD kv.1).mergeSort (dataLe false id))) :: l) (Q v)) : RD K D0 (star (objs L) R) l (fun H => gSortedK [.ref d] H Q) := fun N H A => by
  refine ⟨d, kvs, rfl, A.ob hd, al, so, fun p hp => ?_⟩
  obtain ⟨A', e⟩ := A.new (.lst (((psK kvs).mergeSort (dataLe false byD)).map (·.1))) hp
  have dat : (psK kvs).map byD = kvs.map fun kv => kD kv.1 := by
    unfold psK
    rw [List.map_map]
    rfl
  have ds : DtAll K (off (upd H p (.lst (((psK kvs).mergeSort (dataLe false byD)).map (·.1)))) N) (((psK kvs).mergeSort (dataLe false byD)).map (·.1)) (((psK kvs).mergeSort (dataLe false byD)).map byD) :=
    keysK_dt fun q hq => by
      obtain ⟨kv, _, rfl⟩ := List.mem_map.1 ((List.mergeSort_perm _ _).mem_iff.1 hq)
      exact ⟨_, rfl⟩
  have em : ((psK kvs).mergeSort (dataLe false byD)).map byD = ((psK kvs).map byD).mergeSort (dataLe false id) := List.map_mergeSort fun _ _ _ _ => rfl
  rw [em, dat] at ds
  exact k _ N _ (A'.facts (.lst e ds))
end
end GL

/-! G20: sets: comprehensions over any kind of members, set(list of ints), sorted of these. -/
namespace GL
open PySem PySem.Spec L2
open PyProof.Rows hiding St
/-! ### numbers in order, each once -/
def insI (x : Int) : List Int → List Int
  | [] => [x]
  | y :: r => if x < y then x :: y :: r else if x = y then y :: r else y :: insI x r
def sortI (l : List Int) : List Int := l.foldr insI []
theorem mem_insI {x z : Int} : ∀ {l : List Int}, z ∈ insI x l ↔ z = x ∨ z ∈ l
  | [] => by simp [insI]
  | y :: r => by
    unfold insI
    split
    · simp
    · split
      · rename_i h
        subst h
        simp
      · simp only [List.mem_cons, mem_insI (l := r)]
        constructor
        · rintro (a | a | a) <;> simp [a]
        · rintro (a | a | a) <;> simp [a]
theorem asc_insI {x : Int} : ∀ {l : List Int}, l.Pairwise (· < ·) → (insI x l).Pairwise (· < ·)
  | [], _ => List.pairwise_singleton _ _
  | y :: r, h => by
    obtain ⟨h1, h2⟩ := List.pairwise_cons.1 h
    unfold insI
    split
    · rename_i hx
      exact List.pairwise_cons.2 ⟨fun z hz => by
        rcases List.mem_cons.1 hz with rfl | hz
        · exact hx
        · exact Int.lt_trans hx (h1 z hz), h⟩
    · split
      · exact h
      · rename_i a b
        refine List.pairwise_cons.2 ⟨fun z hz => ?_, asc_insI h2⟩
        rcases mem_insI.1 hz with rfl | hz
        · omega
        · exact h1 z hz
theorem mem_sortI {z : Int} {l : List Int} : z ∈ sortI l ↔ z ∈ l := by
  induction l with
  | nil => exact Iff.rfl
  | cons x r ih =>
    show z ∈ insI x (sortI r) ↔ _
    rw [mem_insI, ih, List.mem_cons]
theorem asc_sortI (l : List Int) : (sortI l).Pairwise (· < ·) := by
  induction l with
  | nil => exact List.Pairwise.nil
  | cons x r ih => exact asc_insI ih
theorem asc_same : ∀ {l m : List Int}, l.Pairwise (· < ·) → m.Pairwise (· < ·) → (∀ z, z ∈ l ↔ z ∈ m) → l = m
  | [], [], _, _, _ => rfl
  | [], y :: r, _, _, h => absurd ((h y).2 List.mem_cons_self) List.not_mem_nil
  | x :: l, [], _, _, h => absurd ((h x).1 List.mem_cons_self) List.not_mem_nil
  | x :: l, y :: m, h1, h2, h => by
    obtain ⟨a1, a2⟩ := List.pairwise_cons.1 h1
    obtain ⟨b1, b2⟩ := List.pairwise_cons.1 h2
    have e : x = y := by
      rcases List.mem_cons.1 ((h x).1 List.mem_cons_self) with e | e
      · exact e
      · rcases List.mem_cons.1 ((h y).2 List.mem_cons_self) with e2 | e2
        · exact e2.symm
        · have q1 := b1 x e
          have q2 := a1 y e2
          omega
    subst e
    refine congrArg (x :: ·) (asc_same a2 b2 fun z => ⟨fun hz => ?_, fun hz => ?_⟩)
    · rcases List.mem_cons.1 ((h z).1 (List.mem_cons_of_mem _ hz)) with e | e
      · have q := a1 z hz
        omega
      · exact e
    · rcases List.mem_cons.1 ((h z).2 (List.mem_cons_of_mem _ hz)) with e | e
      · have q := b1 z hz
        omega
      · exact e
theorem sortI_eq {l m : List Int} (hm : m.Pairwise (· < ·)) (h : ∀ z, z ∈ m ↔ z ∈ l) : m = sortI l :=
  asc_same hm (asc_sortI l) fun z => (h z).trans mem_sortI.symm
theorem sortI_congr {l m : List Int} (h : ∀ z, z ∈ l ↔ z ∈ m) : sortI l = sortI m := sortI_eq (asc_sortI l) fun z => mem_sortI.trans (h z)
/-! ### how sets of one kind of members are told -/
structure SetD (β : Type) where
  O : Program → World → Addr → List β → HO
  el : Hp → V → β → Prop
  st : Hp → β → Prop
abbrev set0 (w : World) : Obj := { cls := .type "set", dict := none, data := .set #[] 0 (.fresh 0 0 (!w.params.followText "set-order")) }
/-- what a kind must show: a new set is one, and set.add keeps it -/
structure SetOk {β : Type} (S : SetD β) (K : PySem.W.Frag) (P : Program) (w : World) : Prop where
  new : ∀ {H : Hp} {h : Heap} {a : Addr}, h.get? a = some (set0 w) → ObjOk P w H h a (S.O P w a [])
  add : ∀ {X : Cx} {pins : List (Addr × Obj)} {σ : L2.St} {H : Hp} {s : Shared} {a : Addr} {acc : List β} {y : V} {u : Value} {c : β} {Q : Value → Shared → Prop} {E : Value → Shared → Prop}, X.K = K → X.prog = P → X.w = w → X.A.units + 64 < cLine → Inv X pins σ H s →
    H a = some (S.O P w a acc) → acc.length < 62 → RelV y u → S.el H y c → (∀ d ∈ acc, S.st H d) → (∀ s', Inv X pins σ (upd H a (S.O P w a (acc ++ [c]))) s' → Q .none s') →
    wpAny (model P w) X.A (call (.builtin "set.add") [.ref a, u]) Q E s
/-! ### the comprehension's reading -/
def tSet {β : Type} (S : SetD β) (P : Program) (w : World) (wi : TI) (g : TG) (tt : TT) (te : TE) (vs : List Nat) : TE := fun σ H Q => wi σ H fun J H1 => ∀ D, H1 D = none → ∃ W : Nat → Nat → Hp → Prop, (∃ m, W 0 m (upd H1 D (S.O P w D []))) ∧ ∀ i m H, W i m H →
  (J.stop i H ∧ Q (.ref D) H) ∨ (J.go i H ∧ ∃ Nx : Hp → Prop, (∀ H', Nx H' → ∃ m', m' < m ∧ W (i + 1) m' H') ∧ ∀ x H', J.yld i H x H' → g x (wipe σ vs) H' fun σ2 H2 => wipe σ2 vs = wipe σ vs ∧ tt σ2 H2 fun b H3 =>
    if b = true then te σ2 H3 fun y H4 => ∃ (acc : List β) (c : β), H4 D = some (S.O P w D acc) ∧ acc.length < 62 ∧ S.el H4 y c ∧ (∀ d ∈ acc, S.st H4 d) ∧ Nx (upd H4 D (S.O P w D (acc ++ [c]))) else Nx H3)
section
variable {X : Cx} {β : Type} {S : SetD β}
theorem sets_core (hS : SetOk S X.K X.prog X.w) (hu : X.A.units + 64 < cLine) {pins : List (Addr × Obj)} {s0 : Shared} {σ : L2.St} {H : Hp} {Q : VK} {elt tg iter : Expr} {ifs : List Expr} {scope : Scope} {own : List (PySem.Str × Nat)} {pos : Pos} {wi : TI} {g : TG} {tt : TT} {te : TE}
    (calm : X.calm = true) (nd : X.N.Nodup) (I : Inv X pins σ H s0) (hi : PI X tg iter wi) (ok : BlkOk X.N X.env.scope scope own)
    (hg : ∀ s H C cl fp, PG (X.blk s H scope (compEnvC scope cl C X.env) fp) tg g) (ht : ∀ s H C cl fp, PTs (X.blk s H scope (compEnvC scope cl C X.env) fp) ifs tt)
    (he : ∀ s H C cl fp, PE (X.blk s H scope (compEnvC scope cl C X.env) fp) elt te) (plain : ∀ x, foldedSetIterable iter X.env x = pure x) (h : tSet S X.prog X.w wi g tt te (own.map (·.2)) σ H Q) :
    wpAny (model X.prog X.w) X.A (eval (.SetComp elt [⟨tg, iter, ifs, 0⟩] scope pos) X.env) (EP X pins σ Q) X.xe s0 := by
  rw [PpSet.eval_SetComp]
  have caught : ∀ y ∈ scope.names, y.2 = .free → ∃ c, X.env.cells.lookup y.1 = some c := fun y hy e => (ok.free y hy e).elim (fun k => I.ok.has _ (.inl k)) fun k => I.ok.has _ (.inr k)
  apply wpAny_comprehension_free (use := none) rfl plain (closure_ok caught) ok.kind (fun y hy e => by rw [ok.uniq y hy, e])
  apply thn (hi.run pins s0 σ H _ I h)
  intro xv sa hx
  apply thn hx
  rintro _ sb ⟨it, fp, tn, J, Hb, rfl, Ib, T, stb, fb, q⟩
  apply PpSet.newSet_ok
  apply newEnv_comp
  obtain ⟨D, hD⟩ : ∃ D, sb.heap.objs.size = D := ⟨_, rfl⟩
  rw [hD]
  have dn : Hb D = none := Ib.hok.fresh (Nat.le_of_eq hD)
  obtain ⟨W, ⟨m0, w0⟩, turn⟩ := q D dn
  obtain ⟨sc, hsc⟩ : ∃ sc : Shared, ({ sb with heap := sb.heap.push (set0 X.w) } : Shared) = sc := ⟨_, rfl⟩
  obtain ⟨Hc, hHc⟩ : ∃ Hc : Hp, upd Hb D (S.O X.prog X.w D []) = Hc := ⟨_, rfl⟩
  rw [hHc] at w0
  have heap_c : sc.heap = sb.heap.push (set0 X.w) := hsc ▸ rfl
  have Ic : Inv X pins σ Hc sc := by
    subst hHc hsc
    exact Ib.laid (t' := sb.toks) (fun b o e => Heap.get?_push_of_some _ e) (Nat.le_of_eq hD) (hS.new (hD ▸ Heap.get?_push_size _ rfl))
  have below : ∀ b ∈ fp, b < D := fun b hb => by
    obtain ⟨o, e, _⟩ := T.obj _ _ stb b hb
    exact hD ▸ Heap.lt_size e
  have size_c : sc.heap.objs.size = D + 1 := by rw [heap_c, Heap.size_push, hD]
  have fc : ∀ b ∈ fp, FpOk X pins Hc b ∧ b < sc.heap.objs.size := fun b hb => by
    have lt := below b hb
    refine ⟨⟨?_, (fb b hb).2⟩, by rw [size_c]; exact Nat.lt_succ_of_lt lt⟩
    rw [← hHc, upd_ne (Nat.ne_of_lt lt)]
    exact (fb b hb).1
  have stc : tn 0 sc.heap := T.keep _ _ _ stb fun b _ o e => by
    rw [heap_c]
    exact Heap.get?_push_of_some _ e
  have Id := block_start Ic ok nd fc
  have pg := hg sc Hc sc.heap.objs.size (cellsFrom (sc.heap.objs.size + 1) scope.names (cloFrom X.env.cells scope.names [])) fp
  have pt := ht sc Hc sc.heap.objs.size (cellsFrom (sc.heap.objs.size + 1) scope.names (cloFrom X.env.cells scope.names [])) fp
  have pe := he sc Hc sc.heap.objs.size (cellsFrom (sc.heap.objs.size + 1) scope.names (cloFrom X.env.cells scope.names [])) fp
  obtain ⟨ce, hce⟩ : ∃ ce, compEnvC scope (cellsFrom (sc.heap.objs.size + 1) scope.names (cloFrom X.env.cells scope.names [])) sc.heap.objs.size X.env = ce := ⟨_, rfl⟩
  have last : ∀ s' H', Inv X pins σ H' s' → Q (.ref D) H' → ∀ m, s'.heap.Ns sc.heap.objs.size m → FpOk X pins H' sc.heap.objs.size → compPost (model X.prog X.w) X.A X.xe none (EP X pins σ Q) (.ref D) sc.heap.objs.size (.ok .next) s' :=
    fun s' H' I' q m hn f => ⟨m, hn, fun h2 sb2 => by
      obtain ⟨f0, f1, f2, f3, f4, f5⟩ := f
      exact ⟨.ref D, H', I'.turned (t' := s'.toks) (fun b o hb e => (sb2.2 b hb).trans e) f0 f1 f3 f4 f5, rfl, q⟩⟩
  suffices goal : codeAny (model X.prog X.w) X.A (.compStart (.SetComp elt [⟨tg, iter, ifs, 0⟩] scope pos) 0 (.ref it) (.ref D) (compEnvC scope (cellsFrom (sc.heap.objs.size + 1) scope.names (cloFrom X.env.cells scope.names [])) sc.heap.objs.size X.env))
      (compPost (model X.prog X.w) X.A X.xe none (EP X pins σ Q) (.ref D) sc.heap.objs.size) { sc with heap := pushCells (sc.heap.push { cls := .type "dict", data := .dict #[] }) scope.names } by
    subst hsc
    exact goal
  rw [hce] at Id pg pt pe ⊢
  have locals_ce : ce.locals = sc.heap.objs.size := by subst hce; rfl
  generalize hsd : ({ sc with heap := pushCells (sc.heap.push { cls := .type "dict", data := .dict #[] }) scope.names } : Shared) = sd at Id ⊢
  have std : tn 0 sd.heap := T.keep _ _ _ stc fun b _ o e => by
    rw [← hsd]
    exact pushCells_keeps _ _ _ _ (Heap.get?_push_of_some _ e)
  have stays : ∀ {σ' : L2.St} {H' : Hp} {s' : Shared}, Inv (X.blk sc Hc scope ce fp) [] σ' H' s' → (∀ b ∈ fp, H' b = none) → ∀ b ∈ fp, FpOk (X.blk sc Hc scope ce fp) [] H' b := fun {σ' H' s'} I' hn b hb =>
    ⟨hn b hb, (I'.ok.exf b hb).1, I'.ok.exfs b hb, .inl hb, fun x c e => (I'.ok.exf b hb).2 x c e, fun p hp => absurd (List.append_nil _ ▸ hp) List.not_mem_nil⟩
  have loop : codeAny (model X.prog X.w) X.A (.compLoop (.SetComp elt [⟨tg, iter, ifs, 0⟩] scope pos) 0 (.ref it) (.ref D) ce) (compPost (model X.prog X.w) X.A X.xe none (EP X pins σ Q) (.ref D) sc.heap.objs.size) sd := by
    refine PpSet.compLoopS_any (fun n s' => ∃ i H', Inv (X.blk sc Hc scope ce fp) [] (wipe σ (own.map (·.2))) H' s' ∧ tn i s'.heap ∧ (∀ b ∈ fp, H' b = none) ∧ W i n H') ?_ m0 ⟨0, Hc, Id, std, fun b hb => (fc b hb).1.1, w0⟩
    rintro n se ⟨i, He, Ie, ste, ne, we⟩
    rcases turn i n He we with ⟨stop, qq⟩ | ⟨go, Nx, hNx, step⟩
    · refine thnF (T.done (X.blk sc Hc scope ce fp) rfl rfl rfl calm i [] se _ He (fun _ _ => False) Ie (stays Ie ne) ste stop) ?_
      rintro _ sf ⟨rfl, If⟩
      have back : Inv X pins σ He sf := Ic.call' (ch := fp) If.os If.base If.hok If.bare fun b hb => ⟨(fc b hb).1.2.2.2.1, (fc b hb).1.2.1, (fc b hb).1.2.2.2.2.1, (fc b hb).1.2.2.2.2.2⟩
      have free : He ce.locals = none := If.free
      obtain ⟨m, hn, _⟩ := If.loc
      have hn : sf.heap.Ns ce.locals m := hn
      rw [locals_ce] at hn free
      exact last sf He back qq m hn (Ic.fpOk (Nat.le_refl _) free)
    · refine thnF (T.item (X.blk sc Hc scope ce fp) rfl rfl rfl calm i [] se _ He (fun _ _ => False) Ie (stays Ie ne) ste go) ?_
      rintro _ sf ⟨u, rfl, hf⟩
      refine thnF hf ?_
      rintro _ sg ⟨x, Hg, Ig, rg, yg, stg, ng⟩
      refine thnF (pg.run _ sg _ Hg x u _ (Ig.pinned (stays Ig ng) (T.obj _ _ stg)) rg (step x Hg yg)) ?_
      rintro _ sh ⟨σh, Hh, Ih, hw, qh⟩
      refine thnF (pt.run _ sh σh Hh _ Ih qh) ?_
      rintro b si ⟨Hi, Ii, qi⟩
      have again : ∀ {s' : Shared} {H' : Hp}, Inv (X.blk sc Hc scope ce fp) ([] ++ pinsAt fp sg.heap) σh H' s' → Nx H' → ∃ m, m < n ∧ ∃ i H', Inv (X.blk sc Hc scope ce fp) [] (wipe σ (own.map (·.2))) H' s' ∧ tn i s'.heap ∧ (∀ b ∈ fp, H' b = none) ∧ W i m H' := fun {s' H'} I' nx => by
        obtain ⟨m', hm, w'⟩ := hNx H' nx
        have held : ∀ b ∈ fp, ∀ o, sg.heap.get? b = some o → s'.heap.get? b = some o ∧ H' b = none := fun b hb o e =>
          ⟨(I'.pin (b, o) (List.mem_append_right _ (List.mem_append_right _ (mem_pinsAt hb e)))).1, (I'.pin (b, o) (List.mem_append_right _ (List.mem_append_right _ (mem_pinsAt hb e)))).2.1⟩
        refine ⟨m', hm, i + 1, H', (I'.unpinned (pins := [])).weak (by rw [← wipe_length σh (own.map (·.2)), hw]) (fun j v e => (wipe_some (hw.symm ▸ e)).1), T.keep _ _ _ stg fun b hb o e => (held b hb o e).1, fun b hb => ?_, w'⟩
        obtain ⟨o, e, _⟩ := T.obj _ _ stg b hb
        exact (held b hb o e).2
      cases b with
      | false => exact again Ii qi
      | true =>
        refine thnF (pe.run _ si σh Hi _ Ii qi) ?_
        rintro z sj ⟨y, Hj, Ij, rj, acc, c, hd, few, hel, hst, nx⟩
        exact hS.add (X := X.blk sc Hc scope ce fp) rfl rfl rfl hu Ij hd few rj hel hst fun sk Ik => again Ik nx
  exact PpSet.codeAny_compStart_set loop (T.self X.A 0 _ _ _ std loop)
theorem pe_set (hS : SetOk S X.K X.prog X.w) (hu : X.A.units + 64 < cLine) {elt tg iter : Expr} {ifs : List Expr} {scope : Scope} {own : List (PySem.Str × Nat)} {pos : Pos} {wi : TI} {g : TG} {tt : TT} {te : TE} (calm : X.calm = true) (nd : X.N.Nodup) (hi : PI X tg iter wi) (ok : BlkOk X.N X.env.scope scope own)
    (hg : ∀ s H C cl fp, PG (X.blk s H scope (compEnvC scope cl C X.env) fp) tg g) (ht : ∀ s H C cl fp, PTs (X.blk s H scope (compEnvC scope cl C X.env) fp) ifs tt)
    (he : ∀ s H C cl fp, PE (X.blk s H scope (compEnvC scope cl C X.env) fp) elt te) (plain : ∀ x, foldedSetIterable iter X.env x = pure x := by intro _; rfl) :
    PE X (.SetComp elt [⟨tg, iter, ifs, 0⟩] scope pos) (tSet S X.prog X.w wi g tt te (own.map (·.2))) :=
  ⟨fun pins s σ H Q I h => sets_core hS hu calm nd I hi ok hg ht he plain h⟩
end
end GL

/-! G21: sets of ints: set(list), sorted; what RD needs for these. -/
namespace GL
open PySem PySem.Spec L2
open PyProof.Rows hiding St
section
variable {P : Program} {w : World} {A : Around} {E : Value → Shared → Prop} {s : Shared}
theorem fresh_none {h : Heap} {b : Nat} (hb : h.objs.size ≤ b) : h.get? b = none := by
  cases q : h.get? b with
  | none => rfl
  | some o => exact absurd (Heap.lt_size q) (Nat.not_lt.2 hb)
set_option maxRecDepth 100000 in
theorem call_setL {p : Addr} {vs : Array Value} (ns : List Int) {Q : Value → Shared → Prop} (quiet : A.handled = none) (isl : s.heap.IsList p vs) (hi : IntsAre vs.toList ns) (few : ns.length + 1 < scanBound)
    (out : ∀ (g : Heap) (tk n : Nat), SetR w g s.heap.objs.size (fun j => decide (j ∈ ns)) n → n ≤ ns.length → (∀ b o, s.heap.get? b = some o → g.get? b = some o) → Q (.ref s.heap.objs.size) { s with heap := g, toks := tk }) :
    wpAny (model P w) A (call (.type "set") [.ref p]) Q E s := by
  have many : vs.size = ns.length := (Array.length_toList (xs := vs)).symm.trans (IntsAre.length hi)
  obtain ⟨_, _, hm0⟩ := F.called_set.mro
  have hm1 := F.called_set.made
  have hm2 := F.called_set.sub
  apply wpAny_call
  apply codeAny_of_tree
  change wpAny _ _ (callAny (.type "set") _) _ _ s
  apply wpAny_pure
  refine ⟨Code.quiet_builtin _ (by decide +kernel), codeAny_builtin F.entry_type_call ?_⟩
  rw [Around.under_plain (weight_type_call_type "set" [.ref p] []) rfl]
  have hm3 := F.called_set.notType
  have hm4 := F.called_set.canCreate
  have hm5 := F.typeCall_set_1 (.ref p)
  repeat (any_goals (first | assumption | wp_step))
  apply codeAny_mono (code_set_led1 (.ref p) (E := E) (Q₁ := fun v t => v = .ref s.heap.objs.size ∧ t = { s with heap := s.heap.push (set0 w) }) ⟨rfl, rfl⟩)
  intro r t hr
  rcases r with e | fl
  · exact hr
  rcases fl with v | _ | _ | _
  case ok.next => exact hr.elim
  case ok.brk => exact hr.elim
  case ok.cont => exact hr.elim
  obtain ⟨rfl, rfl⟩ := hr
  have at0 : (s.heap.push (set0 w)).get? s.heap.objs.size = some (set0 w) := Heap.get?_push_size _ rfl
  have ty0 : Shared.TypeIs { s with heap := s.heap.push (set0 w) } (.ref s.heap.objs.size) "set" := ⟨_, at0, rfl⟩
  have hm6 := F.called_set.init.lookup
  have hm7 := F.called_set.init.bind (.ref s.heap.objs.size)
  repeat (any_goals (first | assumption | wp_step))
  apply codeAny_mono (codeAny_call_builtin (R := wants (fun v t => v = .none ∧ ∃ g tk n, t = { s with heap := g, toks := tk } ∧ SetR w g s.heap.objs.size (fun j => decide (j ∈ ns)) n ∧ n ≤ ns.length ∧ ∀ b o, s.heap.get? b = some o → g.get? b = some o) E)
    F.called_set.init.plain F.entry_set_init (check_set_init_1 ty0 ?_))
  · intro r t hr
    rcases r with e | fl
    · exact hr
    rcases fl with v | _ | _ | _
    case ok.next => exact hr.elim
    case ok.brk => exact hr.elim
    case ok.cont => exact hr.elim
    obtain ⟨rfl, g, tk, n, rfl, hR, hn, kp⟩ := hr
    repeat (any_goals (first | assumption | wp_step))
    exact out g tk n hR hn kp
  · obtain ⟨ol, e0, e1, nl, e2⟩ := isl
    obtain ⟨oc, od, oda, osl⟩ := ol
    dsimp only at e1 e2
    subst e1 e2
    have e3 : (s.heap.push (set0 w)).get? p = some { cls := .type "list", dict := od, data := .seq vs nl, slots := osl } := Heap.get?_push_of_some _ e0
    have hm8 := F.sub_list_set
    have hm9 := F.sub_list_frozenset
    have hm10 : (Value.type "list" == Value.type "dict") = false := by decide
    have isl2 : (s.heap.push (set0 w)).IsList p vs := ⟨_, e3, rfl, nl, rfl⟩
    unfold Builtin.«set.__init__» noKeywords Builtin.Frozenset.updateFrom
    generalize hgo : pyIter = go
    wp_walk
    subst hgo
    apply wpAny_pyIter_list isl2
    apply wpAny_bind
    apply wpAny_runValue
    have lt : p < s.heap.objs.size := Heap.lt_size e0
    have quiet3 : A.in1.in1.in1.handled = none := by simp [quiet]
    have away : p ≠ (s.heap.push (set0 w)).objs.size := by
      rw [Heap.size_push]
      exact Nat.ne_of_lt (Nat.lt_succ_of_lt lt)
    have notin : s.heap.objs.size ∉ [(s.heap.push (set0 w)).objs.size, p] := by
      rw [Heap.size_push]
      intro z
      rcases List.mem_cons.1 z with z | z
      · exact absurd z (Nat.ne_of_lt (Nat.lt_succ_self _))
      · exact absurd (List.mem_singleton.1 z) (Nat.ne_of_gt lt)
    refine set_update_ints ((Walks.list quiet3 _ p away vs).toS) s.heap.objs.size notin ns many few (fun i v hv => ?_) vs.size 0 _ (Nat.sub_zero _) (Nat.zero_le _)
      ⟨⟨_, Heap.get?_push_size _ rfl, rfl, rfl⟩, isl2.push _⟩ ⟨0, Nat.le_refl _, setR_new_at (Heap.get?_push_of_some _ at0)⟩ ?_
    · have lv : i < ns.length := by
        have := (Array.getElem?_eq_some_iff.1 hv).1
        omega
      obtain ⟨tk, rfl⟩ := IntsAre.int_at hi i v (by rw [Array.getElem?_toList]; exact hv)
      exact ⟨_, tk, List.getElem?_eq_getElem lv, by rw [List.getD_eq_getElem?_getD, List.getElem?_eq_getElem lv]; rfl⟩
    · intro t n hm hn hR
      obtain ⟨g, g2, d2, tk2, os2⟩ := t
      obtain rfl : g2 = s.gens := hm.gens
      obtain rfl : d2 = s.drawn := hm.drawn
      obtain rfl : os2 = s.os := hm.os
      change wpAny _ _ _ _ _ _
      apply wpAny_pure
      change wpAny _ _ (ret Value.none) _ _ _
      apply wpAny_pure
      refine ⟨rfl, g, tk2, n, rfl, hR, many ▸ hn, fun b o e => hm.heap b o (fun z => ?_) (Heap.get?_push_of_some _ (Heap.get?_push_of_some _ e))⟩
      have lb := Heap.lt_size e
      rcases List.mem_cons.1 z with z | z
      · exact absurd z (Nat.ne_of_lt lb)
      · have z := List.mem_singleton.1 z
        rw [Heap.size_push] at z
        exact absurd z (Nat.ne_of_lt (Nat.lt_succ_of_lt lb))
end
/-! ### the kind -/
/-- the set at a, its members as they were added -/
def SetL (w : World) (a : Addr) (acc : List Int) : HO := .ext fun h => ∃ n, n ≤ acc.length ∧ SetR w h a (fun j => decide (j ∈ acc)) n
def SI : SetD Int := ⟨fun _ w a acc => SetL w a acc, fun _ y c => y = .int c, fun _ _ => True⟩
theorem setL_ok {P : Program} {w : World} {H : Hp} {h : Heap} {a : Addr} {acc : List Int} {n : Nat} (hn : n ≤ acc.length) (R : SetR w h a (fun j => decide (j ∈ acc)) n) : ObjOk P w H h a (SetL w a acc) := by
  have ⟨o, _, _, _, ho, _⟩ := R
  exact ⟨⟨n, hn, R⟩, ⟨o, ho⟩, fun h1 h2 ⟨m, hm, p⟩ k => ⟨m, hm, SetR.at p k⟩⟩
theorem si_ok {K : PySem.W.Frag} {P : Program} {w : World} : SetOk SI K P w where
  new := fun {H h a} ho => setL_ok (Nat.le_refl _) ((setR_new_at (ns := []) ho).congr fun k => rfl)
  add := by
    intro X pins σ H s a acc y u c Q E _ hp hw hu I ha few ru hel _ hQ
    subst hp hw
    obtain ⟨n, hn, R⟩ := (I.hok a _ ha).1
    have e : y = .int c := hel
    subst e
    obtain ⟨tk, rfl⟩ := (show ∃ tk, u = Value.int c tk from ru)
    have room : n + 1 < scanBound := by
      have : 64 < scanBound := by decide
      omega
    refine setR_add R room fun h' sb new => ?_
    have R2 : SetR X.w h' a (fun j => decide (j ∈ acc ++ [c])) (if decide (c ∈ acc) = true then n else n + 1) := new.congr fun k => by
      rw [← Bool.decide_or]
      exact decide_eq_decide.2 (by simp)
    have hn2 : (if decide (c ∈ acc) = true then n else n + 1) ≤ (acc ++ [c]).length := by
      rw [List.length_append]
      show _ ≤ acc.length + 1
      split <;> omega
    have he : ∃ o, h'.get? a = some o := by
      have ⟨o, _, _, _, ho, _⟩ := R2
      exact ⟨o, ho⟩
    exact hQ _ (I.write (e := a) (t' := s.toks + 1) (by rw [ha]; trivial) (.inl rfl) (fun b u hb hu => (sb.2 b hb).trans hu) he (setL_ok hn2 R2))
section
variable {X : Cx}
/-- set(xs), xs a list of ints -/
def rSetI (w : World) (K : PySem.W.Frag) : List V → Hp → VK → Prop := fun vs H Q => ∃ (p : Addr) (ns : List Int), vs = [.ref p] ∧ SqL K H p (ns.map V.int) ∧ ns.length < 64 ∧ ∀ a, H a = none → Q (.ref a) (upd H a (SetL w a ns))
theorem cr_setL (calm : X.calm = true) : CallR X (.type "set") (rSetI X.w X.K) := by
  intro pins s σ H vs us Q I r h
  obtain ⟨p, ns, rfl, hq, few, q⟩ := h
  rw [Vals.ref1 r]
  obtain ⟨its, rv, isl, _⟩ := I.list hq
  have big : 64 < scanBound := by decide
  refine call_setL ns (I.ok.hd calm) isl.isList (Vals.ints rv) (by omega) fun g tk n R hn kp => ?_
  exact ⟨.ref s.heap.objs.size, upd H s.heap.objs.size (SetL X.w s.heap.objs.size ns), I.laid (t' := tk) kp (Nat.le_refl _) (setL_ok hn R), rfl, q _ (I.hok.fresh (Nat.le_refl _))⟩
/-- sorted of a set of ints -/
def rSortL (w : World) : List V → Hp → VK → Prop := fun vs H Q => ∃ (a : Addr) (acc : List Int), vs = [.ref a] ∧ H a = some (SetL w a acc) ∧ acc.length < 64 ∧ ∀ p, H p = none → Q (.ref p) (upd H p (.lst ((sortI acc).map V.int)))
theorem cr_sortL (calm : X.calm = true) : CallR X (.builtin "sorted") (rSortL X.w) := by
  intro pins s σ H vs us Q I r h
  obtain ⟨a, acc, rfl, ha, few, q⟩ := h
  obtain ⟨n, hn, R⟩ := (I.hok a _ ha).1
  rw [Vals.ref1 r]
  refine sorted_set R (I.ok.hd calm) (by omega) fun s' p out c ns k g o hp hg hi hs hm hl => ?_
  have en : ns = sortI acc := sortI_eq hs fun z => (hm z).trans decide_eq_true_iff
  have size : (ns.map V.int).length ≤ sizeLine := by
    rw [List.length_map, sizeLine_eq]
    omega
  have pn : H p = none := I.hok.fresh hp
  have J : Inv X pins σ (upd H p (.lst (ns.map V.int))) { s with heap := s'.heap, gens := s'.gens, drawn := s'.drawn, toks := s'.toks } :=
    I.call (ch := []) (Un.laid k hp pn) (I.hok.laid k hp ⟨size, out.toList, c, vals_of_ints hi, hg⟩) (g ▸ I.bare) fun _ z => nomatch z
  have es : s' = { s with heap := s'.heap, gens := s'.gens, drawn := s'.drawn, toks := s'.toks } := by
    rcases s' with ⟨a1, a2, a3, a4, a5⟩
    cases o
    rfl
  rw [es]
  exact ⟨.ref p, _, J, rfl, en ▸ q p pn⟩
end
end GL

/-! I1: is_log: all of a comprehension. -/
namespace GL
open PySem PySem.Spec L2
open PyProof.Rows hiding St
open SX (S)
local macro_rules | `(tactic| walk_at "mem") => `(tactic| (first | exact List.Mem.head _ | exact List.Mem.tail _ (List.Mem.head _) | exact List.Mem.tail _ (List.Mem.tail _ (List.Mem.head _)) | ((repeat (first | exact List.Mem.head _ | apply List.Mem.tail)); done)))
local macro_rules | `(tactic| walk_at "inl") => `(tactic| (first | exact InL.int _ | exact InL.str _ | exact InL.bl _ | exact InL.non | (refine InL.mem ?zm; walk_at "mem") | assumption))
local macro_rules | `(tactic| walk_at "inls") => `(tactic| (repeat (first | exact InLs.nil | (refine InLs.cons ?zi ?_; case zi => walk_at "inl"))))
local macro_rules | `(tactic| walk_at "set") => `(tactic| (simp only [wipe, List.set_cons_succ, List.set_cons_zero]; rfl))
local macro_rules | `(tactic| walk_at "tails") => `(tactic| (first | exact sub_refl | exact sub_tail sub_refl | exact sub_tail (sub_tail sub_refl) | exact sub_nil | ((repeat (first | exact sub_refl | apply sub_tail)); done)))
local macro_rules | `(tactic| walk_at "sub") => `(tactic| (first | walk_at "tails" | ((repeat (refine sub_cons ?zi ?_; case zi => walk_at "inl")); walk_at "tails")))
local macro_rules | `(tactic| walk_at "g1") => `(tactic| (first
  | with_reducible refine d_seq ?_
  | with_reducible refine d_asg ?_
  | ((with_reducible refine d_name (σ' := ?zs) ?zh ?_); (case zh => walk_at "set"))
  | ((with_reducible refine d_var (v := ?zs) ?zh ?_); (case zh => rfl))
  | with_reducible refine d_C ?_
  | with_reducible refine d_op ?_
  | with_reducible refine d_cons ?_
  | with_reducible refine d_nil ?_
  | with_reducible refine d_cb ?_
  | with_reducible refine d_g ?_
  | with_reducible refine d_ifS ?_
  | with_reducible refine d_test ?_
  | with_reducible refine d_bl ?_
  | with_reducible refine d_addI ?_
  | with_reducible refine d_I0 ?_
  | with_reducible refine d_ret ?_
  | with_reducible refine d_retN ?_
  | with_reducible refine d_next ?_
  | with_reducible refine d_drop ?_
  | with_reducible refine d_and ?_
  | with_reducible refine d_or ?_
  | with_reducible refine d_not ?_
  | with_reducible refine d_andV ?_
  | with_reducible refine d_orV ?_
  | with_reducible refine d_notV ?_
  | with_reducible refine d_tru ?_
  | with_reducible refine d_truB ?_
  | with_reducible refine d_tif ?_
  | with_reducible refine d_iteT ?_
  | with_reducible refine d_iteF ?_
  | with_reducible refine d_iteNT ?_
  | with_reducible refine d_iteNF ?_
  | with_reducible refine d_eqI ?_
  | with_reducible refine d_neI ?_
  | with_reducible refine d_eqS ?_
  | with_reducible refine d_neS ?_
  | with_reducible refine d_eqB ?_
  | with_reducible refine d_neB ?_
  | with_reducible refine d_isN ?_
  | with_reducible refine d_notN ?_
  | with_reducible refine d_bm ?_
  | with_reducible refine d_tyS ?_
  | with_reducible refine d_tyO ?_
  | with_reducible refine d_find3 ?_
  | with_reducible refine d_tup ?_
  | with_reducible refine d_lst ?_
  | with_reducible refine d_for ?_
  | with_reducible refine d_iRng1 ?_
  | with_reducible refine d_gIt ?_
  | with_reducible refine d_lc ?_
  | with_reducible refine d_yes ?_
  | with_reducible refine d_tSl ?_
  | with_reducible refine d_noPart ?_
  | with_reducible refine d_part ?_
  | with_reducible refine d_int ?_
  | ((with_reducible refine d_wipe ?zh ?_); (case zh => rfl))
  | ((with_reducible refine d_aug (v := ?zs) ?zh ?_); (case zh => rfl))
  | with_reducible refine d_ipI ?_
  | ((with_reducible refine d_set (σ' := ?zs) ?zh ?_); (case zh => walk_at "set"))))
local macro_rules | `(tactic| walk_at "go") => `(tactic| (repeat walk_at "g1"))
def goodB (cs : List Nat) (k : Nat) : Bool := cs.all fun c => decide (c ∈ ([97, 98, 99] : List Nat).take k)
theorem goodB_iff {cs : List Nat} {k : Nat} : goodB cs k = true ↔ ∀ c ∈ cs, c ∈ ([97, 98, 99] : List Nat).take k := by
  simp [goodB]
def notStrT : List String := ["NoneType", "int", "bool", "tuple", "list", "dict"]
theorem notStr {K : PySem.W.Frag} {t : String} (h : t ∈ notStrT) : PySem.W.kitOne K (.type t) (.type "str") = some false := by
  simp only [notStrT, List.mem_cons, List.not_mem_nil, or_false] at h
  rcases h with rfl | rfl | rfl | rfl | rfl | rfl <;> rfl
def sp_is_log (K : PySem.W.Frag) : Sp := fun vs H Q E => ∃ (v : V) (k : Nat) (D0 : Hp) (F : Res) (l : List (V × PyData)) (N : Addr → Prop), vs = [v, .int k] ∧ At K D0 F l N H ∧
  ((∃ cs : List Nat, v = .str (S cs) ∧ cs.length ≤ 1000000 ∧ RD K D0 F l (Q (.bl (goodB cs k)))) ∨
   (∃ t, t ∈ notStrT ∧ (∀ (N : Addr → Prop) (H : Hp), At K D0 F l N H → TyX K H v (.type t)) ∧ RD K D0 F l (Q (.bl false))))
def t_is_log (K : PySem.W.Frag) (W : WX) : TS := (tRet (tAndV (tCB (rIsi K) (tCons (tVar 0) (tCons (tC (.ty "str")) tNil))) (tCB (rAll K) (tCons (tLc (gIt K (tVar 0)) (gName 2) tYes (tOp (gIn K false) (tVar 2) (tSl (gSl K) (tC (.str "abc")) tNoPart (tPart (tVar 1)))) [2]) tNil))))

section
variable {K : PySem.W.Frag} {W : WX} {D0 : Hp} {R : Res} {l : List (V × PyData)} {Q : VK} {vs : List V} {H : Hp} {E : XK}
theorem d_all {x : V} {bs : List Bool} (hx : InL l x (.list (bs.map .bool))) (k : RD K D0 R l (Q (.bl (bs.all id)))) : RD K D0 R l (fun H => L2.rAll K [x] H Q) := fun N H A => by
  obtain ⟨p, xs, rfl, hp, hd⟩ := (A.dt hx).list
  obtain rfl := hd.bls
  exact ⟨p, bs, rfl, SqL.of (off_same p _ hp), k N H A⟩
theorem len_is_log (h : sp_is_log K vs H Q E) : vs.length = 2 := by
  obtain ⟨_, _, _, _, _, _, rfl, _⟩ := h
  rfl
theorem pure_is_log (h : sp_is_log K vs H Q E) : t_is_log K W { nx := fun _ H' => Q .non H', rt := Q } (start ["value", "signs", "letter"] vs) H := by
  obtain ⟨v, k, D0, F, l, N, rfl, A, h⟩ := h
  refine (?_ : RD K D0 F l (fun H => t_is_log K W _ [some v, some (.int k), none] H)) N H A
  unfold t_is_log
  rcases h with ⟨cs, rfl, hl, kY⟩ | ⟨t, ht, hty, kN⟩
  · walk_at "go"
    refine d_isi (d := .str (S cs)) (InL.str _) (b := true) (fun t e => by subst e; rfl) ?_
    walk_at "go"
    refine d_lcStr (fun i R' l' es => R' = F ∧ l' = l ∧ es = (cs.take i).map fun c => PyData.bool (decide (c ∈ ([97, 98, 99] : List Nat).take k))) ⟨rfl, rfl, rfl⟩ ?_ ?_
    · rintro i c D R' l' es hc ⟨rfl, rfl, rfl⟩
      rw [S_tl] at hc
      have hi := (List.getElem?_eq_some_iff.1 hc).1
      walk_at "go"
      rw [abc_S]
      refine d_takeA (by decide) ?_
      refine d_inSg ?_
      rw [S_tl]
      refine d_item (l' := l') (d := .bool (decide (c ∈ ([97, 98, 99] : List Nat).take k))) (.bl _) ?_ ⟨rfl, rfl, ?_⟩ (by walk_at "sub")
      · rw [List.length_map, List.length_take]
        exact Nat.lt_of_lt_of_le (by omega) line_big
      · rw [List.take_succ, hc, List.map_append]; rfl
    · rintro v R' l' es ⟨rfl, rfl, rfl⟩
      rw [S_tl, List.take_length]
      refine d_all (bs := cs.map fun c => decide (c ∈ ([97, 98, 99] : List Nat).take k)) (.mem (by rw [List.map_map]; exact List.Mem.head _)) ?_
      have e : (cs.map fun c => decide (c ∈ ([97, 98, 99] : List Nat).take k)).all id = goodB cs k := by
        rw [List.all_map]; rfl
      rw [e]
      exact RD.forget kY
  · walk_at "go"
    refine d_ty hty (notStr ht) ?_
    walk_at "go"
    exact kN
theorem d_isLogS {cs : List Nat} {k : Nat} (hl : cs.length ≤ 1000000) (kk : RD K D0 R l (Q (.bl (goodB cs k)))) : RD K D0 R l (fun H => sp_is_log K [.str (S cs), .int k] H Q E) :=
  fun N H A => ⟨.str (S cs), k, D0, R, l, N, rfl, A, .inl ⟨cs, rfl, hl, kk⟩⟩
theorem d_isLogN {v : V} {t : String} {k : Nat} (ht : t ∈ notStrT) (hty : ∀ (N : Addr → Prop) (H : Hp), At K D0 R l N H → TyX K H v (.type t)) (kk : RD K D0 R l (Q (.bl false))) : RD K D0 R l (fun H => sp_is_log K [v, .int k] H Q E) :=
  fun N H A => ⟨v, k, D0, R, l, N, rfl, A, .inr ⟨t, ht, hty, kk⟩⟩
end
end GL

/-! I2: list comprehensions that leave all else as it was; any. -/
namespace GL
open PySem PySem.Spec L2
section
variable {K : PySem.W.Frag} {D0 : Hp} {R : Res} {l : List (V × PyData)} {σ : L2.St} {Q : VK}
/-! ### list comprehensions that leave the rest as it was: Pd tells of what is made so far -/
def Cont1 (K : PySem.W.Frag) (D0 : Hp) (R : Res) (l : List (V × PyData)) (Pd : List PyData → Prop) : Res → List (V × PyData) → List PyData → Prop := fun R' l' es => R' = R ∧ l' = l ∧ Pd es
theorem d_item1 {l0 : List (V × PyData)} {Dd : Addr} {es : List PyData} {y : V} {d : PyData} {Pd : List PyData → Prop} (hy : InL l y d) (hz : es.length < sizeLine) (h : Pd (es ++ [d])) (s : ∀ p ∈ l0, InL l p.1 p.2) :
    RD K D0 (star (own K Dd es) R) l (fun H => kItem Dd y H (ContC K D0 Dd (Cont1 K D0 R l0 Pd))) := d_item (P := Cont1 K D0 R l0 Pd) (l' := l0) hy hz ⟨rfl, rfl, h⟩ s
theorem d_noItem1 {l0 : List (V × PyData)} {Dd : Addr} {es : List PyData} {Pd : List PyData → Prop} (h : Pd es) (s : ∀ p ∈ l0, InL l p.1 p.2) : RD K D0 (star (own K Dd es) R) l (ContC K D0 Dd (Cont1 K D0 R l0 Pd)) := d_noItem (P := Cont1 K D0 R l0 Pd) (l' := l0) ⟨rfl, rfl, h⟩ s
theorem d_lcList1 {v : V} {ds : List PyData} {g : TG} {tt : TT} {te : TE} {vs : List Nat} (hv : InL l v (.list ds)) (Pd : Nat → List PyData → Prop) (h0 : Pd 0 [])
    (hs : ∀ i d x Dd es, ds[i]? = some d → Dv x d → Pd i es → RD K D0 (star (own K Dd es) R) ((x, d) :: l) (fun H => g x (wipe σ vs) H fun σ2 H2 => kWipe σ2 vs σ H2 fun H2 => tt σ2 H2 fun b H3 =>
      if b = true then te σ2 H3 fun y H4 => kItem Dd y H4 (ContC K D0 Dd (Cont1 K D0 R l (Pd (i + 1)))) else ContC K D0 Dd (Cont1 K D0 R l (Pd (i + 1))) H3))
    (hd : ∀ v es, Pd ds.length es → RD K D0 R ((v, .list es) :: l) (Q v)) : RD K D0 R l (fun H => wIt K v H fun J H1 => LcK g tt te vs σ Q J H1) :=
  d_lcList hv (fun i => Cont1 K D0 R l (Pd i)) (fun i R' l' es ⟨_, e, _⟩ => e ▸ hv) ⟨rfl, rfl, h0⟩ (fun i d x Dd R' l' es hdi dv ⟨e1, e2, p⟩ => by subst e1 e2; exact hs i d x Dd es hdi dv p) fun v R' l' es ⟨e1, e2, p⟩ => by subst e1 e2; exact hd v es p
theorem d_lcTup1 {v : V} {ds : List PyData} {g : TG} {tt : TT} {te : TE} {vs : List Nat} (hv : InL l v (.tuple ds)) (Pd : Nat → List PyData → Prop) (h0 : Pd 0 [])
    (hs : ∀ i d x Dd es, ds[i]? = some d → Dv x d → Pd i es → RD K D0 (star (own K Dd es) R) ((x, d) :: l) (fun H => g x (wipe σ vs) H fun σ2 H2 => kWipe σ2 vs σ H2 fun H2 => tt σ2 H2 fun b H3 =>
      if b = true then te σ2 H3 fun y H4 => kItem Dd y H4 (ContC K D0 Dd (Cont1 K D0 R l (Pd (i + 1)))) else ContC K D0 Dd (Cont1 K D0 R l (Pd (i + 1))) H3))
    (hd : ∀ v es, Pd ds.length es → RD K D0 R ((v, .list es) :: l) (Q v)) : RD K D0 R l (fun H => wIt K v H fun J H1 => LcK g tt te vs σ Q J H1) :=
  d_lcTup hv (fun i => Cont1 K D0 R l (Pd i)) (fun i R' l' es ⟨_, e, _⟩ => e ▸ hv) ⟨rfl, rfl, h0⟩ (fun i d x Dd R' l' es hdi dv ⟨e1, e2, p⟩ => by subst e1 e2; exact hs i d x Dd es hdi dv p) fun v R' l' es ⟨e1, e2, p⟩ => by subst e1 e2; exact hd v es p
theorem d_lcStr1 {x : Str} {g : TG} {tt : TT} {te : TE} {vs : List Nat} (Pd : Nat → List PyData → Prop) (h0 : Pd 0 [])
    (hs : ∀ i c Dd es, x.cps.toList[i]? = some c → Pd i es → RD K D0 (star (own K Dd es) R) l (fun H => g (.str ⟨#[c]⟩) (wipe σ vs) H fun σ2 H2 => kWipe σ2 vs σ H2 fun H2 => tt σ2 H2 fun b H3 =>
      if b = true then te σ2 H3 fun y H4 => kItem Dd y H4 (ContC K D0 Dd (Cont1 K D0 R l (Pd (i + 1)))) else ContC K D0 Dd (Cont1 K D0 R l (Pd (i + 1))) H3))
    (hd : ∀ v es, Pd x.cps.toList.length es → RD K D0 R ((v, .list es) :: l) (Q v)) : RD K D0 R l (fun H => wIt K (.str x) H fun J H1 => LcK g tt te vs σ Q J H1) :=
  d_lcStr (fun i => Cont1 K D0 R l (Pd i)) ⟨rfl, rfl, h0⟩ (fun i c Dd R' l' es hc ⟨e1, e2, p⟩ => by subst e1 e2; exact hs i c Dd es hc p) fun v R' l' es ⟨e1, e2, p⟩ => by subst e1 e2; exact hd v es p
theorem d_lcRange1 {lo : Int} {n : Nat} {g : TG} {tt : TT} {te : TE} {vs : List Nat} (Pd : Nat → List PyData → Prop) (h0 : Pd 0 [])
    (hs : ∀ i Dd es, i < n → Pd i es → RD K D0 (star (own K Dd es) R) l (fun H => g (.int (lo + i)) (wipe σ vs) H fun σ2 H2 => kWipe σ2 vs σ H2 fun H2 => tt σ2 H2 fun b H3 =>
      if b = true then te σ2 H3 fun y H4 => kItem Dd y H4 (ContC K D0 Dd (Cont1 K D0 R l (Pd (i + 1)))) else ContC K D0 Dd (Cont1 K D0 R l (Pd (i + 1))) H3))
    (hd : ∀ v es, Pd n es → RD K D0 R ((v, .list es) :: l) (Q v)) : RD K D0 R l (fun H => LcK g tt te vs σ Q (Itr lo n) H) :=
  d_lcRange (fun i => Cont1 K D0 R l (Pd i)) ⟨rfl, rfl, h0⟩ (fun i Dd R' l' es hi ⟨e1, e2, p⟩ => by subst e1 e2; exact hs i Dd es hi p) fun v R' l' es ⟨e1, e2, p⟩ => by subst e1 e2; exact hd v es p
theorem d_any {x : V} {bs : List Bool} (hx : InL l x (.list (bs.map .bool))) (k : RD K D0 R l (Q (.bl (bs.any id)))) : RD K D0 R l (fun H => L2.rAny K [x] H Q) := fun N H A => by
  obtain ⟨p, xs, rfl, hp, hd⟩ := (A.dt hx).list
  obtain rfl := hd.bls
  exact ⟨p, bs, rfl, SqL.of (off_same p _ hp), k N H A⟩
theorem DtAll.reverse {H : Hp} : ∀ {vs : List V} {ds : List PyData}, DtAll K H vs ds → DtAll K H vs.reverse ds.reverse
  | _, _, .nil => .nil
  | _, _, .cons h t => by
    rw [List.reverse_cons, List.reverse_cons]
    exact (DtAll.reverse t).append (.cons h .nil)
def kRevL (K : PySem.W.Frag) (x : V) (H1 : Hp) (Q : VK) : Prop := ∃ a xs, x = .ref a ∧ SqL K H1 a xs ∧ ∀ p, H1 p = none → Q (.ref p) (upd H1 p (.lst xs.reverse))
theorem d_revL {te : TE} (k : RD K D0 R l (fun H => te σ H fun x H1 => kRevL K x H1 Q)) : RD K D0 R l (fun H => tRevL K te σ H Q) := k
theorem d_kRevL {x : V} {ds : List PyData} (hx : InL l x (.list ds)) (k : ∀ v, RD K D0 R ((v, .list ds.reverse) :: l) (Q v)) : RD K D0 R l (fun H => kRevL K x H Q) := fun N H A => by
  obtain ⟨a, xs, rfl, ha, hd⟩ := (A.dt hx).list
  refine ⟨a, xs, rfl, SqL.of (off_same a _ ha), fun p hp => ?_⟩
  obtain ⟨A', e⟩ := A.new (.lst xs.reverse) hp
  obtain ⟨a', xs', e1, h', d'⟩ := (A'.dt hx).list
  cases e1
  have same : xs' = xs := by
    have h1 := off_same a _ h'
    have h2 := off_same a _ ha
    have ne : a ≠ p := fun z => by
      subst z
      rw [hp] at h2
      cases h2
    rw [upd_ne ne, h2] at h1
    cases h1
    rfl
  subst same
  exact k (.ref p) N _ (A'.facts (.lst e (DtAll.reverse d')))
theorem d_listL {x : V} {ds : List PyData} (hx : InL l x (.list ds)) (k : ∀ v, RD K D0 R ((v, .list ds) :: l) (Q v)) : RD K D0 R l (fun H => gListA K [x] H Q) := fun N H A => by
  obtain ⟨a, xs, rfl, ha, hd⟩ := (A.dt hx).list
  refine .inl ⟨a, xs, rfl, .inl (SqL.of (off_same a _ ha)), fun p hp => ?_⟩
  obtain ⟨A', e⟩ := A.new (.lst xs) hp
  obtain ⟨a', xs', e1, h', d'⟩ := (A'.dt hx).list
  cases e1
  have same : xs' = xs := by
    have h1 := off_same a _ h'
    have h2 := off_same a _ ha
    have ne : a ≠ p := fun z => by
      subst z
      rw [hp] at h2
      cases h2
    rw [upd_ne ne, h2] at h1
    cases h1
    rfl
  subst same
  exact k (.ref p) N _ (A'.facts (.lst e d'))
/-! ### unpacking tuples -/
theorem d_gTup2 {x : V} {d1 d2 : PyData} {g : TGs} {Qn : L2.St → Hp → Prop} (hx : InL l x (.tuple [d1, d2])) (k : ∀ v1 v2, Dv v1 d1 → Dv v2 d2 → RD K D0 R ((v1, d1) :: (v2, d2) :: l) (g [v1, v2] σ · Qn)) : RD K D0 R l (fun H => gTup K 2 g x σ H Qn) := fun N H A => by
  obtain ⟨a, xs, rfl, ha, hd⟩ := (A.dt hx).tuple
  cases hd with
  | cons e1 t => cases t with
    | cons e2 t =>
      cases t
      exact ⟨a, _, rfl, same_sqT off_same ha, rfl, k _ _ e1.dv e2.dv N H ((A.facts e2).facts e1)⟩
theorem d_gTup3 {x : V} {d1 d2 d3 : PyData} {g : TGs} {Qn : L2.St → Hp → Prop} (hx : InL l x (.tuple [d1, d2, d3])) (k : ∀ v1 v2 v3, Dv v1 d1 → Dv v2 d2 → Dv v3 d3 → RD K D0 R ((v1, d1) :: (v2, d2) :: (v3, d3) :: l) (g [v1, v2, v3] σ · Qn)) :
    RD K D0 R l (fun H => gTup K 3 g x σ H Qn) := fun N H A => by
  obtain ⟨a, xs, rfl, ha, hd⟩ := (A.dt hx).tuple
  cases hd with
  | cons e1 t => cases t with
    | cons e2 t => cases t with
      | cons e3 t =>
        cases t
        exact ⟨a, _, rfl, same_sqT off_same ha, rfl, k _ _ _ e1.dv e2.dv e3.dv N H (((A.facts e3).facts e2).facts e1)⟩
/-- an edge: int, text, int -/
theorem d_gEdge {x : V} {o t : Int} {s : Str} {g : TGs} {Qn : L2.St → Hp → Prop} (hx : InL l x (.tuple [.int o, .str s, .int t])) (k : RD K D0 R l (g [.int o, .str s, .int t] σ · Qn)) : RD K D0 R l (fun H => gTup K 3 g x σ H Qn) :=
  d_gTup3 hx fun v1 v2 v3 e1 e2 e3 => by
    cases e1; cases e2; cases e3
    refine RD.weak (fun p hp => ?_) k
    exact .mem (List.mem_cons_of_mem _ (List.mem_cons_of_mem _ (List.mem_cons_of_mem _ hp)))
theorem d_lcRangeO {lo : Int} {n : Nat} {g : TG} {tt : TT} {te : TE} {vs : List Nat} (P : Nat → Res → List (V × PyData) → List PyData → Prop) (h0 : P 0 R l [])
    (hs : ∀ i Dd R' l' es, i < n → P i R' l' es → RD K D0 (star (own K Dd es) R') l' (fun H => g (.int (lo + i)) (wipe σ vs) H fun σ2 H2 => kWipe σ2 vs σ H2 fun H2 => tt σ2 H2 fun b H3 =>
      if b = true then te σ2 H3 fun y H4 => kItem Dd y H4 (ContC K D0 Dd (P (i + 1))) else ContC K D0 Dd (P (i + 1)) H3))
    (hd : ∀ a R' l' es, P n R' l' es → RD K D0 (star (own K a es) R') l' (Q (.ref a))) : RD K D0 R l (fun H => LcK g tt te vs σ Q (Itr lo n) H) := fun N H A Dd hD => by
  refine lc_range (Qd := Q (.ref Dd)) (fun i => ContC K D0 Dd (P i)) ⟨R, l, [], _, h0, A.newOwn hD .nil⟩ ?_ ?_
  · rintro i H' hi ⟨R', l', es, N', p, A'⟩
    exact hs i Dd R' l' es hi p N' H' A'
  · rintro H' ⟨R', l', es, N', p, A'⟩
    exact hd Dd R' l' es p N' H' A'
theorem d_lcRangeO1 {lo : Int} {n : Nat} {g : TG} {tt : TT} {te : TE} {vs : List Nat} (Pd : Nat → List PyData → Prop) (h0 : Pd 0 [])
    (hs : ∀ i Dd es, i < n → Pd i es → RD K D0 (star (own K Dd es) R) l (fun H => g (.int (lo + i)) (wipe σ vs) H fun σ2 H2 => kWipe σ2 vs σ H2 fun H2 => tt σ2 H2 fun b H3 =>
      if b = true then te σ2 H3 fun y H4 => kItem Dd y H4 (ContC K D0 Dd (Cont1 K D0 R l (Pd (i + 1)))) else ContC K D0 Dd (Cont1 K D0 R l (Pd (i + 1))) H3))
    (hd : ∀ a es, Pd n es → RD K D0 (star (own K a es) R) l (Q (.ref a))) : RD K D0 R l (fun H => LcK g tt te vs σ Q (Itr lo n) H) :=
  d_lcRangeO (fun i => Cont1 K D0 R l (Pd i)) ⟨rfl, rfl, h0⟩ (fun i Dd R' l' es hi ⟨e1, e2, p⟩ => by subst e1 e2; exact hs i Dd es hi p) fun a R' l' es ⟨e1, e2, p⟩ => by subst e1 e2; exact hd a es p
end
end GL

/-! I6: signs required. -/
namespace GL
open PySem PySem.Spec L2
open PyProof.Rows hiding St
open SX (S)
local macro_rules | `(tactic| walk_at "mem") => `(tactic| (first | exact List.Mem.head _ | exact List.Mem.tail _ (List.Mem.head _) | exact List.Mem.tail _ (List.Mem.tail _ (List.Mem.head _)) | ((repeat (first | exact List.Mem.head _ | apply List.Mem.tail)); done)))
local macro_rules | `(tactic| walk_at "inl") => `(tactic| (first | exact InL.int _ | exact InL.str _ | exact InL.bl _ | exact InL.non | (refine InL.mem ?zm; walk_at "mem") | assumption))
local macro_rules | `(tactic| walk_at "inls") => `(tactic| (repeat (first | exact InLs.nil | (refine InLs.cons ?zi ?_; case zi => walk_at "inl"))))
local macro_rules | `(tactic| walk_at "set") => `(tactic| (simp only [wipe, List.set_cons_succ, List.set_cons_zero]; rfl))
local macro_rules | `(tactic| walk_at "tails") => `(tactic| (first | exact sub_refl | exact sub_tail sub_refl | exact sub_tail (sub_tail sub_refl) | exact sub_nil | ((repeat (first | exact sub_refl | apply sub_tail)); done)))
local macro_rules | `(tactic| walk_at "sub") => `(tactic| (first | walk_at "tails" | ((repeat (refine sub_cons ?zi ?_; case zi => walk_at "inl")); walk_at "tails")))
local macro_rules | `(tactic| walk_at "g1") => `(tactic| (first
  | with_reducible refine d_seq ?_
  | with_reducible refine d_asg ?_
  | ((with_reducible refine d_name (σ' := ?zs) ?zh ?_); (case zh => walk_at "set"))
  | ((with_reducible refine d_var (v := ?zs) ?zh ?_); (case zh => rfl))
  | with_reducible refine d_C ?_
  | with_reducible refine d_op ?_
  | with_reducible refine d_cons ?_
  | with_reducible refine d_nil ?_
  | with_reducible refine d_cb ?_
  | with_reducible refine d_g ?_
  | with_reducible refine d_ifS ?_
  | with_reducible refine d_test ?_
  | with_reducible refine d_bl ?_
  | with_reducible refine d_addI ?_
  | with_reducible refine d_I0 ?_
  | with_reducible refine d_ret ?_
  | with_reducible refine d_retN ?_
  | with_reducible refine d_next ?_
  | with_reducible refine d_drop ?_
  | with_reducible refine d_and ?_
  | with_reducible refine d_or ?_
  | with_reducible refine d_not ?_
  | with_reducible refine d_andV ?_
  | with_reducible refine d_orV ?_
  | with_reducible refine d_notV ?_
  | with_reducible refine d_tru ?_
  | with_reducible refine d_truB ?_
  | with_reducible refine d_tif ?_
  | with_reducible refine d_iteT ?_
  | with_reducible refine d_iteF ?_
  | with_reducible refine d_iteNT ?_
  | with_reducible refine d_iteNF ?_
  | with_reducible refine d_eqI ?_
  | with_reducible refine d_neI ?_
  | with_reducible refine d_eqS ?_
  | with_reducible refine d_neS ?_
  | with_reducible refine d_eqB ?_
  | with_reducible refine d_neB ?_
  | with_reducible refine d_isN ?_
  | with_reducible refine d_notN ?_
  | with_reducible refine d_bm ?_
  | with_reducible refine d_tyS ?_
  | with_reducible refine d_tyO ?_
  | with_reducible refine d_find3 ?_
  | with_reducible refine d_tup ?_
  | with_reducible refine d_lst ?_
  | with_reducible refine d_for ?_
  | with_reducible refine d_iRng1 ?_
  | with_reducible refine d_gIt ?_
  | with_reducible refine d_lc ?_
  | with_reducible refine d_yes ?_
  | with_reducible refine d_tSl ?_
  | with_reducible refine d_noPart ?_
  | with_reducible refine d_part ?_
  | with_reducible refine d_int ?_
  | ((with_reducible refine d_wipe ?zh ?_); (case zh => rfl))
  | ((with_reducible refine d_aug (v := ?zs) ?zh ?_); (case zh => rfl))
  | with_reducible refine d_ipI ?_
  | ((with_reducible refine d_set (σ' := ?zs) ?zh ?_); (case zh => walk_at "set"))))
local macro_rules | `(tactic| walk_at "go") => `(tactic| (repeat walk_at "g1"))
local macro_rules | `(tactic| walk_at "g1") => `(tactic| (first
  | with_reducible refine d_rz ?_))
def okSign (cs : List Nat) (k : Nat) : Prop := ∃ c, cs = [c] ∧ c ∈ ([97, 98, 99] : List Nat).take k
def isSign (cs : List Nat) (k : Nat) : Bool := goodB cs k && decide (cs.length = 1)
theorem isSign_iff {cs : List Nat} {k : Nat} : isSign cs k = true ↔ okSign cs k := by
  rw [isSign, Bool.and_eq_true, goodB_iff, decide_eq_true_eq]
  constructor
  · rintro ⟨h, h1⟩
    obtain ⟨c, rfl⟩ := List.length_eq_one_iff.1 h1
    exact ⟨c, rfl, h c (List.mem_singleton.2 rfl)⟩
  · rintro ⟨c, rfl, hc⟩
    exact ⟨fun x hx => by rw [List.mem_singleton.1 hx]; exact hc, rfl⟩
def sp_is_sign (K : PySem.W.Frag) : Sp := fun vs H Q E => ∃ (cs : List Nat) (k : Nat) (D0 : Hp) (F : Res) (l : List (V × PyData)) (N : Addr → Prop), vs = [.str (S cs), .int k] ∧ cs.length ≤ 1000000 ∧ At K D0 F l N H ∧ RD K D0 F l (Q (.bl (isSign cs k)))
def t_is_sign (K : PySem.W.Frag) (W : WX) : TS := (tRet (tAndV (tG (sp_is_log K) W (tCons (tVar 0) (tCons (tVar 1) tNil))) (tOp (gEq K) (tCB (gLen K) (tCons (tVar 0) tNil)) (tC (.int 1)))))

def sp_require_sign (K : PySem.W.Frag) : Sp := fun vs H Q E => ∃ (cs : List Nat) (k : Nat) (D0 : Hp) (F : Res) (l : List (V × PyData)) (N : Addr → Prop), vs = [.str (S cs), .int k] ∧ cs.length ≤ 1000000 ∧ At K D0 F l N H ∧
  (okSign cs k → RD K D0 F l (Q (.str (S cs)))) ∧ (¬ okSign cs k → ∀ d, RD K D0 (star (xdo d [("value", .str (S cs))]) F) l (E (.ref (He.ga K "NotALog")) (some d)))
def t_require_sign (K : PySem.W.Frag) (W : WX) : TS := (tSeq (tIfS (tNot (tTru K (tG (sp_is_sign K) W (tCons (tVar 0) (tCons (tVar 1) tNil))))) (tRz (He.ga K "NotALog") "value" W (tCons (tVar 0) tNil)) tNext)
  (tRet (tVar 0)))

section
variable {K : PySem.W.Frag} {W : WX} {D0 : Hp} {R : Res} {l : List (V × PyData)} {Q : VK} {vs : List V} {H : Hp} {E : XK}
theorem len_require_sign (h : sp_require_sign K vs H Q E) : vs.length = 2 := by
  obtain ⟨_, _, _, _, _, _, rfl, _⟩ := h
  rfl
theorem len_is_sign (h : sp_is_sign K vs H Q E) : vs.length = 2 := by
  obtain ⟨_, _, _, _, _, _, rfl, _⟩ := h
  rfl
theorem pure_is_sign (h : sp_is_sign K vs H Q E) : t_is_sign K W { nx := fun _ H' => Q .non H', rt := Q } (start ["value", "signs"] vs) H := by
  obtain ⟨cs, k, D0, F, l, N, rfl, hl, A, kk⟩ := h
  refine (?_ : RD K D0 F l (fun H => t_is_sign K W _ [some (.str (S cs)), some (.int k)] H)) N H A
  unfold t_is_sign
  walk_at "go"
  refine d_isLogS hl ?_
  walk_at "go"
  cases hg : goodB cs k with
  | false =>
    have e : isSign cs k = false := by rw [isSign, hg]; rfl
    rw [e] at kk
    walk_at "go"
    exact kk
  | true =>
    have e : isSign cs k = decide ((cs.length : Int) = 1) := by
      rw [isSign, hg, Bool.true_and]
      exact decide_eq_decide.2 (by omega)
    rw [e] at kk
    walk_at "go"
    refine d_len hl ?_
    walk_at "go"
    exact kk
theorem d_isSign {cs : List Nat} {k : Nat} (hl : cs.length ≤ 1000000) (kk : RD K D0 R l (Q (.bl (isSign cs k)))) : RD K D0 R l (fun H => sp_is_sign K [.str (S cs), .int k] H Q E) :=
  fun N H A => ⟨cs, k, D0, R, l, N, rfl, hl, A, kk⟩
theorem pure_require_sign (h : sp_require_sign K vs H Q E) : t_require_sign K (fun cls d _ H => E cls d H) { nx := fun _ H' => Q .non H', rt := Q } (start ["value", "signs"] vs) H := by
  obtain ⟨cs, k, D0, F, l, N, rfl, hl, A, kY, kN⟩ := h
  refine (?_ : RD K D0 F l (fun H => t_require_sign K (fun cls d _ H => E cls d H) _ [some (.str (S cs)), some (.int k)] H)) N H A
  unfold t_require_sign
  walk_at "go"
  refine d_isSign hl ?_
  walk_at "go"
  cases hs : isSign cs k with
  | true =>
    walk_at "go"
    exact kY (isSign_iff.1 hs)
  | false =>
    walk_at "go"
    refine d_kRz fun d => ?_
    exact kN (fun z => by rw [isSign_iff.2 z] at hs; cases hs) d
theorem d_reqSign {cs : List Nat} {k : Nat} (hl : cs.length ≤ 1000000) (y : okSign cs k → RD K D0 R l (Q (.str (S cs)))) (n : ¬ okSign cs k → ∀ d, RD K D0 (star (xdo d [("value", .str (S cs))]) R) l (E (.ref (He.ga K "NotALog")) (some d))) :
    RD K D0 R l (fun H => sp_require_sign K [.str (S cs), .int k] H Q E) := fun N H A => ⟨cs, k, D0, R, l, N, rfl, hl, A, y, n⟩
end
end GL

/-! I7: C(..), an own class. -/
namespace GL
open PySem PySem.Spec L2
open PyProof.Rows hiding St
section
variable {K : PySem.W.Frag} {W : WX} {D0 : Hp} {R : Res} {l : List (V × PyData)} {Q : VK}
def kGN (C : Addr) (sp : Sp) (E : XK) (vs : List V) (H1 : Hp) (Q : VK) : Prop := ∀ x dx, H1 x = none → H1 dx = none → dx ≠ x → sp (.ref x :: vs) (upd (upd H1 dx (.own x)) x (.ins C dx [])) (fun v H2 => v = .non ∧ Q (.ref x) H2) E
theorem d_tGN {C : Addr} {sp : Sp} {σ : L2.St} {t : TA} (k : RD K D0 R l (fun H => t σ H fun vs H1 => kGN C sp (WE W σ) vs H1 Q)) : RD K D0 R l (fun H => tGN C sp W t σ H Q) := k
end
end GL

/-! M1: machines: small defs. -/
namespace GL
open PySem PySem.Spec L2
open PyProof.Rows hiding St
open SX (S)
local macro_rules | `(tactic| walk_at "mem") => `(tactic| (first | exact List.Mem.head _ | exact List.Mem.tail _ (List.Mem.head _) | exact List.Mem.tail _ (List.Mem.tail _ (List.Mem.head _)) | ((repeat (first | exact List.Mem.head _ | apply List.Mem.tail)); done)))
local macro_rules | `(tactic| walk_at "inl") => `(tactic| (first | exact InL.int _ | exact InL.str _ | exact InL.bl _ | exact InL.non | (refine InL.mem ?zm; walk_at "mem") | assumption))
local macro_rules | `(tactic| walk_at "inls") => `(tactic| (repeat (first | exact InLs.nil | (refine InLs.cons ?zi ?_; case zi => walk_at "inl"))))
local macro_rules | `(tactic| walk_at "set") => `(tactic| (simp only [wipe, List.set_cons_succ, List.set_cons_zero]; rfl))
local macro_rules | `(tactic| walk_at "tails") => `(tactic| (first | exact sub_refl | exact sub_tail sub_refl | exact sub_tail (sub_tail sub_refl) | exact sub_nil | ((repeat (first | exact sub_refl | apply sub_tail)); done)))
local macro_rules | `(tactic| walk_at "sub") => `(tactic| (first | walk_at "tails" | ((repeat (refine sub_cons ?zi ?_; case zi => walk_at "inl")); walk_at "tails")))
local macro_rules | `(tactic| walk_at "g1") => `(tactic| (first
  | with_reducible refine d_seq ?_
  | with_reducible refine d_asg ?_
  | ((with_reducible refine d_name (σ' := ?zs) ?zh ?_); (case zh => walk_at "set"))
  | ((with_reducible refine d_var (v := ?zs) ?zh ?_); (case zh => rfl))
  | with_reducible refine d_C ?_
  | with_reducible refine d_op ?_
  | with_reducible refine d_cons ?_
  | with_reducible refine d_nil ?_
  | with_reducible refine d_cb ?_
  | with_reducible refine d_g ?_
  | with_reducible refine d_ifS ?_
  | with_reducible refine d_test ?_
  | with_reducible refine d_bl ?_
  | with_reducible refine d_addI ?_
  | with_reducible refine d_I0 ?_
  | with_reducible refine d_ret ?_
  | with_reducible refine d_retN ?_
  | with_reducible refine d_next ?_
  | with_reducible refine d_drop ?_
  | with_reducible refine d_and ?_
  | with_reducible refine d_or ?_
  | with_reducible refine d_not ?_
  | with_reducible refine d_andV ?_
  | with_reducible refine d_orV ?_
  | with_reducible refine d_notV ?_
  | with_reducible refine d_tru ?_
  | with_reducible refine d_truB ?_
  | with_reducible refine d_tif ?_
  | with_reducible refine d_iteT ?_
  | with_reducible refine d_iteF ?_
  | with_reducible refine d_iteNT ?_
  | with_reducible refine d_iteNF ?_
  | with_reducible refine d_eqI ?_
  | with_reducible refine d_neI ?_
  | with_reducible refine d_eqS ?_
  | with_reducible refine d_neS ?_
  | with_reducible refine d_eqB ?_
  | with_reducible refine d_neB ?_
  | with_reducible refine d_isN ?_
  | with_reducible refine d_notN ?_
  | with_reducible refine d_bm ?_
  | with_reducible refine d_tyS ?_
  | with_reducible refine d_tyO ?_
  | with_reducible refine d_find3 ?_
  | with_reducible refine d_tup ?_
  | with_reducible refine d_lst ?_
  | with_reducible refine d_for ?_
  | with_reducible refine d_iRng1 ?_
  | with_reducible refine d_gIt ?_
  | with_reducible refine d_lc ?_
  | with_reducible refine d_yes ?_
  | with_reducible refine d_tSl ?_
  | with_reducible refine d_noPart ?_
  | with_reducible refine d_part ?_
  | with_reducible refine d_int ?_
  | ((with_reducible refine d_wipe ?zh ?_); (case zh => rfl))
  | ((with_reducible refine d_aug (v := ?zs) ?zh ?_); (case zh => rfl))
  | with_reducible refine d_ipI ?_
  | ((with_reducible refine d_set (σ' := ?zs) ?zh ?_); (case zh => walk_at "set"))))
local macro_rules | `(tactic| walk_at "go") => `(tactic| (repeat walk_at "g1"))
local macro_rules | `(tactic| walk_at "g1") => `(tactic| (first
  | with_reducible refine d_chain ?_
  | with_reducible refine d_tB ?_
  | with_reducible refine d_tGM ?_
  | with_reducible refine d_rz ?_
  | with_reducible refine d_tXf ?_
  | with_reducible refine d_tFld ?_
  | with_reducible refine d_sFld ?_
  | with_reducible refine d_tMix ?_
  | with_reducible refine d_tDIn ?_
  | with_reducible refine d_tDNotIn ?_
  | with_reducible refine d_sDPut ?_
  | with_reducible refine d_sDDelT ?_))
/-- is this data a whole number from lo to hi? -/
def between (d : PyData) (lo hi : Int) : Bool := match d with
  | .int i => decide (lo ≤ i) && decide (i ≤ hi)
  | _ => false
def sp_is_between (K : PySem.W.Frag) : Sp := fun vs H Q _ => ∃ (v : V) (d : PyData) (lo hi : Int) (D0 : Hp) (F : Res) (l : List (V × PyData)) (N : Addr → Prop), vs = [v, .int lo, .int hi] ∧ At K D0 F l N H ∧ InL l v d ∧ d.hasDict = false ∧ RD K D0 F l (Q (.bl (between d lo hi)))
def t_is_between (K : PySem.W.Frag) (W : WX) : TS := (tRet (tAndV (tCB (rIsi K) (tCons (tVar 0) (tCons (tC (.ty "int")) tNil))) (tAndV (tNotV (tCB (rIsi K) (tCons (tVar 0) (tCons (tC (.ty "bool")) tNil)))) (tChain gLe gLe (tVar 1) (tVar 0) (tVar 2)))))

/-! ### a machine as it stands -/
structure Mch where
  k : Nat
  n : Nat
  es : List (Int × Nat × Int)
  st : List Int
  en : List Int
def ekey (e : Int × Nat × Int) : List Key := [.inl e.1, .inr (S [e.2.1]), .inl e.2.2]
def eKV (es : List (Int × Nat × Int)) : List (List Key × V) := es.map fun e => (ekey e, .bl true)
def iKV (is : List Int) : List (Key × V) := is.map fun i => (.inl i, .bl true)
def mFs (ed sd td : Addr) (m : Mch) : List (Str × V) := [("signs", .int m.k), ("states", .int m.n), ("_edges", .ref ed), ("_starts", .ref sd), ("_ends", .ref td)]
def mL (K : PySem.W.Frag) (a dx ed sd td : Addr) (m : Mch) : List (Addr × HO) :=
  [(a, .ins (He.ga K "Machine") dx (mFs ed sd td m)), (dx, .own a), (ed, .dT (eKV m.es)), (sd, .dK (iKV m.st)), (td, .dK (iKV m.en))]
def mach (K : PySem.W.Frag) (a : Addr) (m : Mch) : Res where
  h := fun N D H => ∃ dx ed sd td, [a, dx, ed, sd, td].Nodup ∧ (objs (mL K a dx ed sd td m)).h N D H
  st := fun ⟨dx, ed, sd, td, nd, h⟩ s k => ⟨dx, ed, sd, td, nd, (objs _).st h s k⟩
section
variable {K : PySem.W.Frag} {W : WX} {D0 : Hp} {R : Res} {l : List (V × PyData)} {Q : VK} {vs : List V} {H : Hp} {E : XK}
theorem len_is_between (h : sp_is_between K vs H Q E) : vs.length = 3 := by
  obtain ⟨_, _, _, _, _, _, _, _, rfl, _⟩ := h
  rfl
theorem pure_is_between (h : sp_is_between K vs H Q E) : t_is_between K W { nx := fun _ H' => Q .non H', rt := Q } (start ["value", "low", "high"] vs) H := by
  obtain ⟨v, d, lo, hi, D0, F, l, N, rfl, A, hd, nd, kk⟩ := h
  refine (?_ : RD K D0 F l (fun H => t_is_between K W _ [some v, some (.int lo), some (.int hi)] H)) N H A
  unfold t_is_between
  walk_at "go"
  have odd : ∀ {b : Bool}, (∀ t, t = tyD d → PySem.W.kitOne K (.type t) (.type "int") = some false) → between d lo hi = false → RD K D0 F l (fun H2 => rIsi K [v, .ty "int"] H2 fun x H1 => kBl x H1 fun c H2 =>
      if c = true then tAndV (tNotV (tCB (rIsi K) (tCons (tVar 0) (tCons (tC (V.ty "bool")) tNil)))) (tChain gLe gLe (tVar 1) (tVar 0) (tVar 2)) [some v, some (V.int lo), some (V.int hi)] H2 Q
      else Q (V.bl false) H2) := fun {_} hk hb => by
    rw [hb] at kk
    refine d_isi hd hk ?_
    walk_at "go"
    exact kk
  have dv := (A.dt hd).dv
  cases d with
  | none => exact odd (b := true) (fun t e => by subst e; rfl) rfl
  | str s => exact odd (b := true) (fun t e => by subst e; rfl) rfl
  | list xs => exact odd (b := true) (fun t e => by subst e; rfl) rfl
  | tuple xs => exact odd (b := true) (fun t e => by subst e; rfl) rfl
  | dict xs => cases nd
  | bool b =>
    refine d_isi hd (b := true) (fun t e => by subst e; rfl) ?_
    walk_at "go"
    refine d_isi hd (b := true) (fun t e => by subst e; rfl) ?_
    walk_at "go"
    exact kk
  | int i =>
    obtain rfl : v = .int i := dv
    refine d_isi hd (b := true) (fun t e => by subst e; rfl) ?_
    walk_at "go"
    refine d_isi hd (b := false) (fun t e => by subst e; rfl) ?_
    walk_at "go"
    refine d_iteP (fun h1 => ?_) (fun h1 => ?_)
    · walk_at "go"
      have e : between (.int i) lo hi = decide (i ≤ hi) := by simp [between, h1]
      rw [e] at kk
      exact kk
    · walk_at "go"
      have e : between (.int i) lo hi = false := by simp [between, h1]
      rw [e] at kk
      exact kk
theorem openMach {a : Addr} {m : Mch} {T : Hp → Prop} (k : ∀ dx ed sd td, [a, dx, ed, sd, td].Nodup → RD K D0 (star (objs (mL K a dx ed sd td m)) R) l T) : RD K D0 (star (mach K a m) R) l T := fun N H A => by
  obtain ⟨N1, N2, e, dj, ⟨dx, ed, sd, td, nd, h1⟩, h2⟩ := A.r
  exact k dx ed sd td nd N H ⟨A.nt, ⟨N1, N2, e, dj, h1, h2⟩, A.d0, A.f⟩
theorem closeMach {a dx ed sd td : Addr} {m : Mch} {T : Hp → Prop} (nd : [a, dx, ed, sd, td].Nodup) (k : RD K D0 (star (mach K a m) R) l T) : RD K D0 (star (objs (mL K a dx ed sd td m)) R) l T :=
  RD.res (S := star (mach K a m) R) (fun h => by
    obtain ⟨N1, N2, e, dj, h1, h2⟩ := h
    exact ⟨N1, N2, e, dj, ⟨dx, ed, sd, td, nd, h1⟩, h2⟩) k
/-- the class, as the head tells of it -/
structure MCls (K : PySem.W.Frag) : Prop where
  c : Cls K (He.ga K "Machine")
  n1 : NoAttr K (He.ga K "Machine") "signs"
  n2 : NoAttr K (He.ga K "Machine") "states"
  n3 : NoAttr K (He.ga K "Machine") "_edges"
  n4 : NoAttr K (He.ga K "Machine") "_starts"
  n5 : NoAttr K (He.ga K "Machine") "_ends"
def sp_Machine__require_state (K : PySem.W.Frag) : Sp := fun vs H Q E => ∃ (a : Addr) (m : Mch) (v : V) (d : PyData) (D0 : Hp) (F : Res) (l : List (V × PyData)) (N : Addr → Prop), vs = [.ref a, v] ∧ At K D0 (star (mach K a m) F) l N H ∧ InL l v d ∧ d.hasDict = false ∧
  (between d 0 (m.n - 1) = true → RD K D0 (star (mach K a m) F) l (Q .non)) ∧ (between d 0 (m.n - 1) = false → ∀ x, RD K D0 (star (xdo x [("state", v)]) (star (mach K a m) F)) l (E (.ref (He.ga K "UnknownState")) (some x)))
def t_Machine__require_state (K : PySem.W.Frag) (W : WX) : TS := (tIfS (tNot (tTru K (tG (sp_is_between K) W (tCons (tVar 1) (tCons (tC (.int 0)) (tCons (tOp gSub' (tFld K (tVar 0) "states") (tC (.int 1))) tNil)))))) (tRz (He.ga K "UnknownState") "state" W (tCons (tVar 1) tNil)) tNext)

theorem len_Machine__require_state (h : sp_Machine__require_state K vs H Q E) : vs.length = 2 := by
  obtain ⟨_, _, _, _, _, _, _, _, rfl, _⟩ := h
  rfl
theorem d_between {v : V} {d : PyData} {lo hi : Int} (hd : InL l v d) (nd : d.hasDict = false) (k : RD K D0 R l (Q (.bl (between d lo hi)))) : RD K D0 R l (fun H => sp_is_between K [v, .int lo, .int hi] H Q E) :=
  fun N H A => ⟨v, d, lo, hi, D0, R, l, N, rfl, A, hd, nd, k⟩
theorem pure_Machine__require_state (M : MCls K) (h : sp_Machine__require_state K vs H Q E) : t_Machine__require_state K (fun cls d _ H => E cls d H) { nx := fun _ H' => Q .non H', rt := Q } (start ["self", "state"] vs) H := by
  obtain ⟨a, m, v, d, D0, F, l, N, rfl, A, hd, nd, kY, kN⟩ := h
  refine (?_ : RD K D0 (star (mach K a m) F) l (fun H => t_Machine__require_state K (fun cls d _ H => E cls d H) _ [some (.ref a), some v] H)) N H A
  unfold t_Machine__require_state
  refine openMach fun dx ed sd td nd5 => ?_
  walk_at "go"
  refine d_fld (List.Mem.head _) M.c M.n2 (v := .int m.n) rfl ?_
  walk_at "go"
  refine closeMach nd5 ?_
  refine d_between hd nd ?_
  walk_at "go"
  cases hb : between d 0 (m.n - 1) with
  | true =>
    walk_at "go"
    exact kY hb
  | false =>
    walk_at "go"
    refine d_kRz fun x => ?_
    exact kN hb x
theorem d_kGM {a : Addr} {m : Mch} {n : Str} {T : Hp → Prop} (hn : ∀ ed sd td, (mFs ed sd td m).lookup n = none) (k : RD K D0 (star (mach K a m) R) l T) : RD K D0 (star (mach K a m) R) l (fun H => kGM (He.ga K "Machine") n (.ref a) H T) := fun N H A => by
  have h := k N H A
  obtain ⟨_, _, _, _, ⟨dx, ed, sd, td, _, _, hh⟩, _⟩ := A.r
  exact ⟨a, dx, mFs ed sd td m, rfl, hh _ (List.Mem.head _), hn ed sd td, h⟩
theorem d_reqState {a : Addr} {m : Mch} {v : V} {d : PyData} (hd : InL l v d) (nd : d.hasDict = false) (y : between d 0 (m.n - 1) = true → RD K D0 (star (mach K a m) R) l (Q .non))
    (n : between d 0 (m.n - 1) = false → ∀ x, RD K D0 (star (xdo x [("state", v)]) (star (mach K a m) R)) l (E (.ref (He.ga K "UnknownState")) (some x))) : RD K D0 (star (mach K a m) R) l (fun H => sp_Machine__require_state K [.ref a, v] H Q E) :=
  fun N H A => ⟨a, m, v, d, D0, R, l, N, rfl, A, hd, nd, y, n⟩
theorem ekey_inj {e e' : Int × Nat × Int} (h : ekey e = ekey e') : e = e' := by
  obtain ⟨o, c, t⟩ := e
  obtain ⟨o', c', t'⟩ := e'
  simp only [ekey, List.cons.injEq, Sum.inl.injEq, Sum.inr.injEq, and_true] at h
  obtain ⟨rfl, h2, rfl⟩ := h
  have := SX.S_inj h2
  simp at this
  rw [this]
theorem val_es (es : List (Int × Nat × Int)) (e : Int × Nat × Int) : (valV (eKV es) (ekey e)).isSome = decide (e ∈ es) := by
  induction es with
  | nil => rfl
  | cons x es ih =>
    by_cases h : x = e
    · subst h
      rw [show eKV (x :: es) = (ekey x, .bl true) :: eKV es from rfl, valV_pos rfl]
      simp
    · rw [show eKV (x :: es) = (ekey x, .bl true) :: eKV es from rfl, valV_neg (fun z => h (ekey_inj z)), ih]
      have : ¬ e = x := fun z => h z.symm
      simp [this]
theorem put_es {es : List (Int × Nat × Int)} {e : Int × Nat × Int} (h : e ∉ es) : putK (eKV es) (ekey e) (.bl true) = eKV (es ++ [e]) := by
  have n : ¬ ((eKV es).any fun kv => decide (kv.1 = ekey e)) = true := fun z => by
    obtain ⟨kv, hk, e2⟩ := List.any_eq_true.1 z
    obtain ⟨x, hx, rfl⟩ := List.mem_map.1 hk
    exact h (ekey_inj (of_decide_eq_true e2) ▸ hx)
  unfold putK
  rw [if_neg n]
  simp [eKV]
theorem put_mE {a dx ed sd td : Addr} {m : Mch} {es : List (Int × Nat × Int)} (nd : [a, dx, ed, sd, td].Nodup) : putO (mL K a dx ed sd td m) ed (.dT (eKV es)) = mL K a dx ed sd td { m with es := es } := by
  simp only [List.nodup_cons, List.mem_cons, List.not_mem_nil, or_false, not_or] at nd
  obtain ⟨⟨h1, h2, h3, h4⟩, ⟨h5, h6, h7⟩, ⟨h8, h9⟩, h10, _⟩ := nd
  simp only [putO, mL, List.map_cons, List.map_nil, if_neg h2, if_neg h5, if_true, if_neg (Ne.symm h8), if_neg (Ne.symm h9)]
  rfl
def sp_Machine_add_edge (K : PySem.W.Frag) : Sp := fun vs H Q E => ∃ (a : Addr) (m : Mch) (o t : Int) (cs : List Nat) (D0 : Hp) (F : Res) (l : List (V × PyData)) (N : Addr → Prop), vs = [.ref a, .int o, .str (S cs), .int t] ∧ At K D0 (star (mach K a m) F) l N H ∧ cs.length ≤ 1000000 ∧
  m.es.length ≤ 100 ∧
  (between (.int o) 0 (m.n - 1) = false → ∀ x, RD K D0 (star (xdo x [("state", .int o)]) (star (mach K a m) F)) l (E (.ref (He.ga K "UnknownState")) (some x))) ∧
  (between (.int o) 0 (m.n - 1) = true → between (.int t) 0 (m.n - 1) = false → ∀ x, RD K D0 (star (xdo x [("state", .int t)]) (star (mach K a m) F)) l (E (.ref (He.ga K "UnknownState")) (some x))) ∧
  (between (.int o) 0 (m.n - 1) = true → between (.int t) 0 (m.n - 1) = true → ¬ okSign cs m.k → ∀ x, RD K D0 (star (xdo x [("value", .str (S cs))]) (star (mach K a m) F)) l (E (.ref (He.ga K "NotALog")) (some x))) ∧
  ∀ c, cs = [c] → c ∈ ([97, 98, 99] : List Nat).take m.k → between (.int o) 0 (m.n - 1) = true → between (.int t) 0 (m.n - 1) = true →
    ((o, c, t) ∈ m.es → ∀ q x, RD K D0 (star (xdo x [("edge", .ref q)]) (star (mach K a m) F)) ((.ref q, .tuple [.int o, .str (S [c]), .int t]) :: l) (E (.ref (He.ga K "EdgeExists")) (some x))) ∧
    ((o, c, t) ∉ m.es → 14 ≤ m.es.length → ∀ x, RD K D0 (star (xdo x [("limit", .int 14)]) (star (mach K a m) F)) l (E (.ref (He.ga K "LimitExceeded")) (some x))) ∧
    ((o, c, t) ∉ m.es → m.es.length < 14 → RD K D0 (star (mach K a { m with es := m.es ++ [(o, c, t)] }) F) l (Q .non))
def t_Machine_add_edge (K : PySem.W.Frag) (W : WX) : TS := (tSeq (tDrop (tGM (He.ga K "Machine") "_require_state" (sp_Machine__require_state K) W (tVar 0) (tCons (tVar 1) tNil)))
  (tSeq (tDrop (tGM (He.ga K "Machine") "_require_state" (sp_Machine__require_state K) W (tVar 0) (tCons (tVar 3) tNil)))
  (tSeq (tDrop (tG (sp_require_sign K) W (tCons (tVar 2) (tCons (tFld K (tVar 0) "signs") tNil))))
  (tSeq (tAsg (tTup (tCons (tVar 1) (tCons (tVar 2) (tCons (tVar 3) tNil)))) (gName 4))
  (tSeq (tIfS (tB (tDIn (tVar 4) (tFld K (tVar 0) "_edges"))) (tRz (He.ga K "EdgeExists") "edge" W (tCons (tVar 4) tNil)) tNext)
  (tSeq (tIfS (tTest (tOp gGe (tCB gLenD (tCons (tFld K (tVar 0) "_edges") tNil)) (tC (.int 14)))) (tRz (He.ga K "LimitExceeded") "limit" W (tCons (tC (.int 14)) tNil)) tNext)
  (sDPut (tFld K (tVar 0) "_edges") (tVar 4) (tC (.bl true)))))))))

theorem len_Machine_add_edge (h : sp_Machine_add_edge K vs H Q E) : vs.length = 4 := by
  obtain ⟨_, _, _, _, _, _, _, _, _, rfl, _⟩ := h
  rfl
theorem pure_Machine_add_edge (M : MCls K) (h : sp_Machine_add_edge K vs H Q E) : t_Machine_add_edge K (fun cls d _ H => E cls d H) { nx := fun _ H' => Q .non H', rt := Q } (start ["self", "origin", "sign", "target", "edge"] vs) H := by
  obtain ⟨a, m, o, t, cs, D0, F, l, N, rfl, A, hl, he, k1, k2, k3, k4⟩ := h
  refine (?_ : RD K D0 (star (mach K a m) F) l (fun H => t_Machine_add_edge K (fun cls d _ H => E cls d H) _ [some (.ref a), some (.int o), some (.str (S cs)), some (.int t), none] H)) N H A
  unfold t_Machine_add_edge
  walk_at "go"
  refine d_kGM (fun _ _ _ => rfl) ?_
  walk_at "go"
  refine d_reqState (d := .int o) (.int _) rfl (fun ho => ?_) k1
  walk_at "go"
  refine d_kGM (fun _ _ _ => rfl) ?_
  walk_at "go"
  refine d_reqState (d := .int t) (.int _) rfl (fun ht => ?_) (k2 ho)
  walk_at "go"
  refine openMach fun dx ed sd td nd => ?_
  refine d_fld (List.Mem.head _) M.c M.n1 (v := .int m.k) rfl ?_
  refine closeMach nd ?_
  walk_at "go"
  refine d_reqSign hl (fun hs => ?_) (k3 ho ht)
  obtain ⟨c, rfl, hc⟩ := hs
  obtain ⟨k5, k6, k7⟩ := k4 c rfl hc ho ht
  walk_at "go"
  refine d_newTD (ds := [.int o, .str (S [c]), .int t]) (show 3 ≤ sizeLine by decide) (by walk_at "inls") fun q dq => ?_
  have at_q : upd D0 q (.tup [.int o, .str (S [c]), .int t]) q = some (.tup ((ekey (o, c, t)).map kV)) := upd_same
  walk_at "go"
  refine openMach fun dx ed sd td nd => ?_
  refine d_fld (List.Mem.head _) M.c M.n3 (v := .ref ed) rfl ?_
  refine d_dinT (kvs := eKV m.es) (ks := ekey (o, c, t)) (List.Mem.tail _ (List.Mem.tail _ (List.Mem.head _))) at_q ?_
  rw [if_neg (by decide), val_es]
  refine closeMach nd ?_
  walk_at "go"
  refine d_iteP (fun hm => ?_) (fun hm => ?_)
  · walk_at "go"
    refine d_kRz fun x => ?_
    exact RD.moreD (same_upd dq) (k5 hm q x)
  walk_at "go"
  refine openMach fun dx ed sd td nd => ?_
  refine d_fld (List.Mem.head _) M.c M.n3 (v := .ref ed) rfl ?_
  walk_at "go"
  refine d_lenDT (kvs := eKV m.es) (List.Mem.tail _ (List.Mem.tail _ (List.Mem.head _))) ?_
  rw [show (eKV m.es).length = m.es.length from List.length_map _]
  refine closeMach nd ?_
  walk_at "go"
  refine d_iteP (fun hg => ?_) (fun hg => ?_)
  · walk_at "go"
    refine d_kRz fun x => ?_
    exact RD.moreD (same_upd dq) (RD.forget (k6 hm (by omega) x))
  walk_at "go"
  refine openMach fun dx ed sd td nd => ?_
  refine d_fld (List.Mem.head _) M.c M.n3 (v := .ref ed) rfl ?_
  walk_at "go"
  refine d_putT (kvs := eKV m.es) (ks := ekey (o, c, t)) (List.Mem.tail _ (List.Mem.tail _ (List.Mem.head _))) at_q (by rw [show (eKV m.es).length = m.es.length from List.length_map _]; exact Nat.lt_of_lt_of_le (by omega) line_big) ?_
  rw [put_es hm, put_mE nd]
  refine closeMach nd ?_
  exact RD.moreD (same_upd dq) (RD.forget (k7 hm (by omega)))
theorem drop_es (es : List (Int × Nat × Int)) (e : Int × Nat × Int) : dropK (eKV es) (ekey e) = eKV (es.filter fun x => decide (x ≠ e)) := by
  unfold dropK eKV
  rw [List.filter_map]
  congr 1
  refine List.filter_congr fun x _ => ?_
  show decide (ekey x ≠ ekey e) = decide (x ≠ e)
  by_cases h : x = e
  · rw [h]
    simp
  · have : ¬ ekey x = ekey e := fun z => h (ekey_inj z)
    simp [h, this]
def sp_Machine_remove_edge (K : PySem.W.Frag) : Sp := fun vs H Q E => ∃ (a : Addr) (m : Mch) (o t : Int) (c : Nat) (D0 : Hp) (F : Res) (l : List (V × PyData)) (N : Addr → Prop), vs = [.ref a, .int o, .str (S [c]), .int t] ∧ At K D0 (star (mach K a m) F) l N H ∧
  ((o, c, t) ∉ m.es → ∀ q x, RD K D0 (star (xdo x [("edge", .ref q)]) (star (mach K a m) F)) ((.ref q, .tuple [.int o, .str (S [c]), .int t]) :: l) (E (.ref (He.ga K "UnknownEdge")) (some x))) ∧
  ((o, c, t) ∈ m.es → RD K D0 (star (mach K a { m with es := m.es.filter fun x => decide (x ≠ (o, c, t)) }) F) l (Q .non))
def t_Machine_remove_edge (K : PySem.W.Frag) (W : WX) : TS := (tSeq (tAsg (tTup (tCons (tVar 1) (tCons (tVar 2) (tCons (tVar 3) tNil)))) (gName 4))
  (tSeq (tIfS (tB (tDNotIn (tVar 4) (tFld K (tVar 0) "_edges"))) (tRz (He.ga K "UnknownEdge") "edge" W (tCons (tVar 4) tNil)) tNext)
  (sDDelT (tFld K (tVar 0) "_edges") (tVar 4))))

theorem len_Machine_remove_edge (h : sp_Machine_remove_edge K vs H Q E) : vs.length = 4 := by
  obtain ⟨_, _, _, _, _, _, _, _, _, rfl, _⟩ := h
  rfl
theorem pure_Machine_remove_edge (M : MCls K) (h : sp_Machine_remove_edge K vs H Q E) : t_Machine_remove_edge K (fun cls d _ H => E cls d H) { nx := fun _ H' => Q .non H', rt := Q } (start ["self", "origin", "sign", "target", "edge"] vs) H := by
  obtain ⟨a, m, o, t, c, D0, F, l, N, rfl, A, k1, k2⟩ := h
  refine (?_ : RD K D0 (star (mach K a m) F) l (fun H => t_Machine_remove_edge K (fun cls d _ H => E cls d H) _ [some (.ref a), some (.int o), some (.str (S [c])), some (.int t), none] H)) N H A
  unfold t_Machine_remove_edge
  walk_at "go"
  refine d_newTD (ds := [.int o, .str (S [c]), .int t]) (show 3 ≤ sizeLine by decide) (by walk_at "inls") fun q dq => ?_
  have at_q : upd D0 q (.tup [.int o, .str (S [c]), .int t]) q = some (.tup ((ekey (o, c, t)).map kV)) := upd_same
  walk_at "go"
  refine openMach fun dx ed sd td nd => ?_
  refine d_fld (List.Mem.head _) M.c M.n3 (v := .ref ed) rfl ?_
  refine d_dinT (kvs := eKV m.es) (ks := ekey (o, c, t)) (List.Mem.tail _ (List.Mem.tail _ (List.Mem.head _))) at_q ?_
  rw [if_pos rfl, val_es]
  refine closeMach nd ?_
  walk_at "go"
  by_cases hm : (o, c, t) ∈ m.es
  · refine d_iteN (by simp [hm]) ?_
    walk_at "go"
    refine openMach fun dx ed sd td nd => ?_
    refine d_fld (List.Mem.head _) M.c M.n3 (v := .ref ed) rfl ?_
    walk_at "go"
    refine d_delT (kvs := eKV m.es) (ks := ekey (o, c, t)) (List.Mem.tail _ (List.Mem.tail _ (List.Mem.head _))) at_q (by rw [val_es]; exact decide_eq_true hm) ?_
    rw [drop_es, put_mE nd]
    refine closeMach nd ?_
    exact RD.moreD (same_upd dq) (RD.forget (k2 hm))
  · refine d_iteY (by simp [hm]) ?_
    walk_at "go"
    refine d_kRz fun x => ?_
    exact RD.moreD (same_upd dq) (k1 hm q x)
/-! ### edges() -/
open PySem.W (AllAlike Sortable dataLe) in
def eD (e : Int × Nat × Int) : PyData := .tuple [.int e.1, .str (S [e.2.1]), .int e.2.2]
def eSorted (es : List (Int × Nat × Int)) : List PyData := (es.map eD).mergeSort (PySem.W.dataLe false id)
def sp_Machine_edges (K : PySem.W.Frag) : Sp := fun vs H Q E => ∃ (a : Addr) (m : Mch) (D0 : Hp) (F : Res) (l : List (V × PyData)) (N : Addr → Prop), vs = [.ref a] ∧ At K D0 (star (mach K a m) F) l N H ∧
  ∀ v, RD K D0 (star (mach K a m) F) ((v, .tuple (eSorted m.es)) :: l) (Q v)
def t_Machine_edges (K : PySem.W.Frag) (W : WX) : TS := (tRet (tCB (gTuple K) (tCons (tCB gSortedT (tCons (tFld K (tVar 0) "_edges") tNil)) tNil)))

theorem len_Machine_edges (h : sp_Machine_edges K vs H Q E) : vs.length = 1 := by
  obtain ⟨_, _, _, _, _, _, rfl, _⟩ := h
  rfl
theorem pure_Machine_edges (M : MCls K) (h : sp_Machine_edges K vs H Q E) : t_Machine_edges K W { nx := fun _ H' => Q .non H', rt := Q } (start ["self"] vs) H := by
  obtain ⟨a, m, D0, F, l, N, rfl, A, kk⟩ := h
  refine (?_ : RD K D0 (star (mach K a m) F) l (fun H => t_Machine_edges K W _ [some (.ref a)] H)) N H A
  unfold t_Machine_edges
  walk_at "go"
  refine openMach fun dx ed sd td nd => ?_
  refine d_fld (List.Mem.head _) M.c M.n3 (v := .ref ed) rfl ?_
  walk_at "go"
  have e0 : ((eKV m.es).map fun kv => PyData.tuple (kv.1.map kD)) = m.es.map eD := by
    unfold eKV
    rw [List.map_map]
    rfl
  refine d_sortedT (kvs := eKV m.es) (List.Mem.tail _ (List.Mem.tail _ (List.Mem.head _))) (by rw [e0]; exact PySem.W.AllAlike.of fun _ _ => by simp [eD, PySem.W.alike, PySem.W.alikeAll]) (by rw [e0]; exact PySem.W.Sortable.tuples fun _ => ⟨_, _, rfl⟩) fun v => ?_
  rw [e0]
  refine closeMach nd ?_
  walk_at "go"
  refine d_tupleL (InL.mem (List.Mem.head _)) fun u => ?_
  refine RD.weak ?_ (kk u)
  walk_at "sub"
/-! ### Machine(signs, states) -/
theorem RD.rot3 {R1 R2 R3 : Res} {T : Hp → Prop} (k : RD K D0 (star R2 R3) l T) : RD K D0 (star R2 (star R1 R3)) l T := RD.rot (RD.drop k)
theorem At.nilO {N : Addr → Prop} {H : Hp} (A : At K D0 R l N H) : At K D0 (star (objs []) R) l N H :=
  ⟨A.nt, ⟨fun _ => False, N, fun b => ⟨.inr, fun z => z.elim False.elim id⟩, fun _ z _ => z, ⟨fun b => ⟨False.elim, fun ⟨_, z⟩ => by cases z⟩, fun p hp => by cases hp⟩, A.r⟩, A.d0, A.f⟩
def sp_Machine___init__ (K : PySem.W.Frag) : Sp := fun vs H Q E => ∃ (x dx : Addr) (v1 v2 : V) (d1 d2 : PyData) (D0 : Hp) (F : Res) (l : List (V × PyData)) (N : Addr → Prop), vs = [.ref x, v1, v2] ∧ x ≠ dx ∧
  At K D0 (star (objs [(x, .ins (He.ga K "Machine") dx []), (dx, .own x)]) F) l N H ∧ InL l v1 d1 ∧ d1.hasDict = false ∧ InL l v2 d2 ∧ d2.hasDict = false ∧
  (between d1 1 3 = false → ∀ e, RD K D0 (star (xdo e [("limit", .int 3)]) F) l (E (.ref (He.ga K "LimitExceeded")) (some e))) ∧
  (between d1 1 3 = true → between d2 1 6 = false → ∀ e, RD K D0 (star (xdo e [("limit", .int 6)]) F) l (E (.ref (He.ga K "LimitExceeded")) (some e))) ∧
  (∀ k n : Nat, d1 = .int k → d2 = .int n → 1 ≤ k → k ≤ 3 → 1 ≤ n → n ≤ 6 → RD K D0 (star (mach K x ⟨k, n, [], [], []⟩) F) l (Q .non))
def t_Machine___init__ (K : PySem.W.Frag) (W : WX) : TS := (tSeq (tIfS (tNot (tTru K (tG (sp_is_between K) W (tCons (tVar 1) (tCons (tC (.int 1)) (tCons (tC (.int 3)) tNil)))))) (tRz (He.ga K "LimitExceeded") "limit" W (tCons (tC (.int 3)) tNil)) tNext)
  (tSeq (tIfS (tNot (tTru K (tG (sp_is_between K) W (tCons (tVar 2) (tCons (tC (.int 1)) (tCons (tC (.int 6)) tNil)))))) (tRz (He.ga K "LimitExceeded") "limit" W (tCons (tC (.int 6)) tNil)) tNext)
  (tSeq (sFld K (tVar 0) (tVar 1) "signs")
  (tSeq (sFld K (tVar 0) (tVar 2) "states")
  (tSeq (sFld K (tVar 0) tDNewT "_edges")
  (tSeq (sFld K (tVar 0) tDNewK "_starts")
  (sFld K (tVar 0) tDNewK "_ends")))))))

theorem len_Machine___init__ (h : sp_Machine___init__ K vs H Q E) : vs.length = 3 := by
  obtain ⟨_, _, _, _, _, _, _, _, _, _, rfl, _⟩ := h
  rfl
theorem between_nat {d : PyData} {hi : Int} (h : between d 1 hi = true) : ∃ k : Nat, d = .int k ∧ 1 ≤ k ∧ (k : Int) ≤ hi := by
  cases d with
  | int i =>
    have z : 1 ≤ i ∧ i ≤ hi := by simpa [between] using h
    obtain ⟨k, rfl⟩ := Int.eq_ofNat_of_zero_le (show 0 ≤ i by omega)
    exact ⟨k, rfl, by omega, z.2⟩
  | none => cases h
  | bool b => cases h
  | str s => cases h
  | list xs => cases h
  | tuple xs => cases h
  | dict xs => cases h
theorem pf2 {u v : V} : putF "states" v [("signs", u)] = ([("signs", u), ("states", v)] : List (Str × V)) := by
  simp only [putF, if_neg (show ¬ (("signs" : Str) = "states") by decide +kernel)]
theorem pf3 {u v w : V} : putF "_edges" w [("signs", u), ("states", v)] = ([("signs", u), ("states", v), ("_edges", w)] : List (Str × V)) := by
  simp only [putF, if_neg (show ¬ (("signs" : Str) = "_edges") by decide +kernel), if_neg (show ¬ (("states" : Str) = "_edges") by decide +kernel)]
theorem pf4 {u v w x : V} : putF "_starts" x [("signs", u), ("states", v), ("_edges", w)] = ([("signs", u), ("states", v), ("_edges", w), ("_starts", x)] : List (Str × V)) := by
  simp only [putF, if_neg (show ¬ (("signs" : Str) = "_starts") by decide +kernel), if_neg (show ¬ (("states" : Str) = "_starts") by decide +kernel), if_neg (show ¬ (("_edges" : Str) = "_starts") by decide +kernel)]
theorem pf5 {u v w x y : V} : putF "_ends" y [("signs", u), ("states", v), ("_edges", w), ("_starts", x)] = ([("signs", u), ("states", v), ("_edges", w), ("_starts", x), ("_ends", y)] : List (Str × V)) := by
  simp only [putF, if_neg (show ¬ (("signs" : Str) = "_ends") by decide +kernel), if_neg (show ¬ (("states" : Str) = "_ends") by decide +kernel), if_neg (show ¬ (("_edges" : Str) = "_ends") by decide +kernel), if_neg (show ¬ (("_starts" : Str) = "_ends") by decide +kernel)]
theorem pure_Machine___init__ (M : MCls K) (h : sp_Machine___init__ K vs H Q E) : t_Machine___init__ K (fun cls d _ H => E cls d H) { nx := fun _ H' => Q .non H', rt := Q } (start ["self", "signs", "states"] vs) H := by
  obtain ⟨x, dx, v1, v2, d1, d2, D0, F, l, N, rfl, ne, A, h1, n1, h2, n2, k1, k2, k3⟩ := h
  refine (?_ : RD K D0 (star (objs [(x, .ins (He.ga K "Machine") dx []), (dx, .own x)]) F) l (fun H => t_Machine___init__ K (fun cls d _ H => E cls d H) _ [some (.ref x), some v1, some v2] H)) N H A
  unfold t_Machine___init__
  walk_at "go"
  refine d_between h1 n1 ?_
  walk_at "go"
  cases hb1 : between d1 1 3 with
  | false =>
    walk_at "go"
    refine d_kRz fun e => ?_
    exact RD.rot3 (k1 hb1 e)
  | true =>
    walk_at "go"
    refine d_between h2 n2 ?_
    walk_at "go"
    cases hb2 : between d2 1 6 with
    | false =>
      walk_at "go"
      refine d_kRz fun e => ?_
      exact RD.rot3 (k2 hb1 hb2 e)
    | true =>
      obtain ⟨k, rfl, g1, g2⟩ := between_nat hb1
      obtain ⟨n, rfl, g3, g4⟩ := between_nat hb2
      obtain rfl : v1 = .int k := (A.dt h1).dv
      obtain rfl : v2 = .int n := (A.dt h2).dv
      walk_at "go"
      refine d_putF (List.Mem.head _) M.c M.n1 (by decide) ?_
      rw [show putO [(x, .ins (He.ga K "Machine") dx []), (dx, .own x)] x (.ins (He.ga K "Machine") dx (putF "signs" (.int k) [])) = [(x, .ins (He.ga K "Machine") dx [("signs", .int k)]), (dx, .own x)] from by simp [putO, Ne.symm ne, putF]]
      walk_at "go"
      refine d_putF (List.Mem.head _) M.c M.n2 (by simp) ?_
      rw [show putO [(x, .ins (He.ga K "Machine") dx [("signs", .int k)]), (dx, .own x)] x (.ins (He.ga K "Machine") dx (putF "states" (.int n) [("signs", .int k)])) = [(x, .ins (He.ga K "Machine") dx [("signs", .int k), ("states", .int n)]), (dx, .own x)] from by simp only [putO, List.map_cons, List.map_nil, if_true, if_neg (Ne.symm ne), pf2]]
      walk_at "go"
      refine d_dnewT fun ed f1 => ?_
      have e1 := f1 _ (List.Mem.head _)
      have e2 := f1 _ (List.Mem.tail _ (List.Mem.head _))
      walk_at "go"
      refine d_putF (List.Mem.tail _ (List.Mem.head _)) M.c M.n3 (by simp) ?_
      rw [show putO [(ed, .dT []), (x, .ins (He.ga K "Machine") dx [("signs", .int k), ("states", .int n)]), (dx, .own x)] x (.ins (He.ga K "Machine") dx (putF "_edges" (.ref ed) [("signs", .int k), ("states", .int n)])) =
        [(ed, .dT []), (x, .ins (He.ga K "Machine") dx [("signs", .int k), ("states", .int n), ("_edges", .ref ed)]), (dx, .own x)] from by simp only [putO, List.map_cons, List.map_nil, if_true, if_neg (Ne.symm ne), if_neg e1, pf3]]
      walk_at "go"
      refine d_dnewK fun sd f2 => ?_
      have e3 := f2 _ (List.Mem.head _)
      have e4 := f2 _ (List.Mem.tail _ (List.Mem.head _))
      have e5 := f2 _ (List.Mem.tail _ (List.Mem.tail _ (List.Mem.head _)))
      walk_at "go"
      refine d_putF (List.Mem.tail _ (List.Mem.tail _ (List.Mem.head _))) M.c M.n4 (by simp) ?_
      rw [show putO [(sd, .dK []), (ed, .dT []), (x, .ins (He.ga K "Machine") dx [("signs", .int k), ("states", .int n), ("_edges", .ref ed)]), (dx, .own x)] x (.ins (He.ga K "Machine") dx (putF "_starts" (.ref sd) [("signs", .int k), ("states", .int n), ("_edges", .ref ed)])) =
        [(sd, .dK []), (ed, .dT []), (x, .ins (He.ga K "Machine") dx [("signs", .int k), ("states", .int n), ("_edges", .ref ed), ("_starts", .ref sd)]), (dx, .own x)] from by simp only [putO, List.map_cons, List.map_nil, if_true, if_neg (Ne.symm ne), if_neg e1, if_neg e4, pf4]]
      walk_at "go"
      refine d_dnewK fun td f3 => ?_
      have e6 := f3 _ (List.Mem.head _)
      have e7 := f3 _ (List.Mem.tail _ (List.Mem.head _))
      have e8 := f3 _ (List.Mem.tail _ (List.Mem.tail _ (List.Mem.head _)))
      have e9 := f3 _ (List.Mem.tail _ (List.Mem.tail _ (List.Mem.tail _ (List.Mem.head _))))
      walk_at "go"
      refine d_putF (List.Mem.tail _ (List.Mem.tail _ (List.Mem.tail _ (List.Mem.head _)))) M.c M.n5 (by simp) ?_
      rw [show putO [(td, .dK []), (sd, .dK []), (ed, .dT []), (x, .ins (He.ga K "Machine") dx [("signs", .int k), ("states", .int n), ("_edges", .ref ed), ("_starts", .ref sd)]), (dx, .own x)] x (.ins (He.ga K "Machine") dx (putF "_ends" (.ref td) [("signs", .int k), ("states", .int n), ("_edges", .ref ed), ("_starts", .ref sd)])) =
        [(td, .dK []), (sd, .dK []), (ed, .dT []), (x, .ins (He.ga K "Machine") dx (mFs ed sd td ⟨k, n, [], [], []⟩)), (dx, .own x)] from by simp only [putO, List.map_cons, List.map_nil, if_true, if_neg (Ne.symm ne), if_neg e1, if_neg e4, if_neg e8, pf5]; rfl]
      refine RD.objs (L' := mL K x dx ed sd td ⟨k, n, [], [], []⟩) (fun p => ?_) ?_
      · simp only [mL, eKV, iKV, List.map_nil, List.mem_cons, List.not_mem_nil, or_false]
        constructor
        · rintro (h | h | h | h | h)
          · exact .inr (.inr (.inr (.inr h)))
          · exact .inr (.inr (.inr (.inl h)))
          · exact .inr (.inr (.inl h))
          · exact .inl h
          · exact .inr (.inl h)
        · rintro (h | h | h | h | h)
          · exact .inr (.inr (.inr (.inl h)))
          · exact .inr (.inr (.inr (.inr h)))
          · exact .inr (.inr (.inl h))
          · exact .inr (.inl h)
          · exact .inl h
      refine closeMach ?_ (k3 k n rfl rfl g1 (by omega) g3 (by omega))
      simp only [List.nodup_cons, List.mem_cons, List.not_mem_nil, or_false, not_or, not_false_eq_true, List.nodup_nil, and_true]
      exact ⟨⟨ne, Ne.symm e1, Ne.symm e4, Ne.symm e8⟩, ⟨Ne.symm e2, Ne.symm e5, Ne.symm e9⟩, ⟨Ne.symm e3, Ne.symm e7⟩, Ne.symm e6⟩
/-- Machine(v1, v2) -/
theorem d_make {v1 v2 : V} {d1 d2 : PyData} (h1 : InL l v1 d1) (n1 : d1.hasDict = false) (h2 : InL l v2 d2) (n2 : d2.hasDict = false)
    (k1 : between d1 1 3 = false → ∀ e, RD K D0 (star (xdo e [("limit", .int 3)]) R) l (E (.ref (He.ga K "LimitExceeded")) (some e)))
    (k2 : between d1 1 3 = true → between d2 1 6 = false → ∀ e, RD K D0 (star (xdo e [("limit", .int 6)]) R) l (E (.ref (He.ga K "LimitExceeded")) (some e)))
    (k3 : ∀ (x : Addr) (k n : Nat), d1 = .int k → d2 = .int n → 1 ≤ k → k ≤ 3 → 1 ≤ n → n ≤ 6 → RD K D0 (star (mach K x ⟨k, n, [], [], []⟩) R) l (Q (.ref x))) :
    RD K D0 R l (fun H => kGN (He.ga K "Machine") (sp_Machine___init__ K) E [v1, v2] H Q) := fun N H A x dx hx hdx ne => by
  have A1 := A.nilO.newOb (o := .own x) (fun _ z => by cases z) hdx
  have hx2 : upd H dx (.own x) x = none := by
    rw [upd_ne (Ne.symm ne)]
    exact hx
  have A2 := A1.newOb (o := .ins (He.ga K "Machine") dx []) (fun _ z => by cases z) hx2
  refine ⟨x, dx, v1, v2, d1, d2, D0, R, l, _, rfl, Ne.symm ne, A2, h1, n1, h2, n2, k1, k2, fun k n e1 e2 a b c d N' H' A' => ⟨rfl, k3 x k n e1 e2 a b c d N' H' A'⟩⟩
end
end GL

/-! G22: derived rules: sets, a locked dict by tuples, comprehensions that leave all else as it was, any. -/
namespace GL
open PySem PySem.Spec L2
open PyProof.Rows hiding St
section
variable {K : PySem.W.Frag} {D0 : Hp} {R : Res} {l : List (V × PyData)} {σ : L2.St} {D : Ends} {Q : VK} {L : List (Addr × HO)} {T : Hp → Prop} {w : World} {P : Program}
/-! ### sets of ints -/
theorem setL_nt {a : Addr} {acc : List Int} : NotTup (SetL w a acc) := fun _ z => by cases z
theorem ints_dt {H : Hp} {ns : List Int} {xs : List V} (h : DtAll K H xs (ns.map .int)) : xs = ns.map V.int := h.ints
theorem d_setL {x : V} {ns : List Int} (hx : InL l x (.list (ns.map .int))) (few : ns.length < 64) (k : ∀ a, RD K D0 (star (objs [(a, SetL w a ns)]) R) l (Q (.ref a))) : RD K D0 R l (fun H => rSetI w K [x] H Q) := fun N H A => by
  obtain ⟨p, xs, rfl, hp, hd⟩ := (A.dt hx).list
  obtain rfl := hd.ints
  exact ⟨p, ns, rfl, SqL.of (off_same p _ hp), few, fun a ha => k a _ _ (A.nilO.newOb setL_nt ha)⟩
theorem d_sortL {a : Addr} {acc : List Int} (few : acc.length < 64) (k : ∀ v, RD K D0 R ((v, .list ((sortI acc).map .int)) :: l) (Q v)) : RD K D0 (star (objs [(a, SetL w a acc)]) R) l (fun H => rSortL w [.ref a] H Q) := fun N H A => by
  refine ⟨a, acc, rfl, A.ob (List.Mem.head _), few, fun p hp => ?_⟩
  obtain ⟨A', e⟩ := A.new (.lst ((sortI acc).map V.int)) hp
  exact RD.drop (k (.ref p)) N _ (A'.facts (.lst e (DtAll.ofInts _)))
/-! ### a lock -/
theorem objs_len_put {a : Addr} {o : HO} : (putO L a o).length = L.length := List.length_map _
theorem putO_mem {a : Addr} {o u : HO} (h : (a, u) ∈ L) : (a, o) ∈ putO L a o := List.mem_map.2 ⟨(a, u), h, if_pos rfl⟩
theorem putO_putO {a : Addr} {o u : HO} : putO (putO L a o) a u = putO L a u := by
  unfold putO
  rw [List.map_map]
  refine List.map_congr_left fun p _ => ?_
  show (if (if p.1 = a then (a, o) else p).1 = a then (a, u) else if p.1 = a then (a, o) else p) = if p.1 = a then (a, u) else p
  by_cases hp : p.1 = a
  · simp only [if_pos hp, if_true]
  · simp only [if_neg hp]
theorem putO_same {a : Addr} {u : HO} (h : ∀ p ∈ L, p.1 = a → p.2 = u) : putO L a u = L := by
  unfold putO
  conv => rhs; rw [← List.map_id L]
  refine List.map_congr_left fun p hp => ?_
  by_cases e : p.1 = a
  · rw [if_pos e]
    obtain ⟨b, o⟩ := p
    have := h _ hp e
    simp only at e this
    subst e this
    rfl
  · rw [if_neg e]
    rfl
def kLocked (d : Addr) (od : Obj) (u : HO) (H : Hp) (k : Hp → Prop) : Prop := H d = some (.frz od u) ∧ k (upd H d u)
theorem d_lock {t : TE} {d : Addr} {u : HO} (hd : (d, u) ∈ L) (one : ∀ p ∈ L, p.1 = d → p.2 = u) (mu : Mut (some u)) (nt : NotTup u)
    (k : ∀ od, RD K D0 (star (objs (putO L d (.frz od u))) R) l (fun H => t σ H fun v H1 => kLocked d od u H1 (Q v))) : RD K D0 (star (objs L) R) l (fun H => tLockE t σ H Q) := fun N H A =>
  ⟨d, u, A.ob hd, mu, fun od => k od N _ (A.setOb (fun _ z => by cases z) hd)⟩
theorem d_locked {d : Addr} {od : Obj} {u : HO} (hd : (d, u) ∈ L) (one : ∀ p ∈ L, p.1 = d → p.2 = u) (nt : NotTup u) (k : RD K D0 (star (objs L) R) l T) : RD K D0 (star (objs (putO L d (.frz od u))) R) l (fun H => kLocked d od u H T) := fun N H A => by
  have m := putO_mem (o := .frz od u) hd
  refine ⟨A.ob m, ?_⟩
  have A' := A.setOb (a := d) (o := u) nt m
  rw [putO_putO, putO_same one] at A'
  exact k N _ A'
/-- .. with something else on top -/
theorem d_locked2 {S : Res} {d : Addr} {od : Obj} {u : HO} (hd : (d, u) ∈ L) (one : ∀ p ∈ L, p.1 = d → p.2 = u) (nt : NotTup u) (k : RD K D0 (star S (star (objs L) R)) l T) : RD K D0 (star S (star (objs (putO L d (.frz od u))) R)) l (fun H => kLocked d od u H T) :=
  RD.rot (d_locked hd one nt (RD.rot k))
/-! ### set comprehensions over the keys of a locked dict by tuples -/
def SetKK {β : Type} (S : SetD β) (P : Program) (w : World) (g : TG) (tt : TT) (te : TE) (vs : List Nat) (σ : L2.St) (Q : VK) (J : It) (H1 : Hp) : Prop := ∀ D, H1 D = none → ∃ W : Nat → Nat → Hp → Prop, (∃ m, W 0 m (upd H1 D (S.O P w D []))) ∧ ∀ i m H, W i m H →
  (J.stop i H ∧ Q (.ref D) H) ∨ (J.go i H ∧ ∃ Nx : Hp → Prop, (∀ H', Nx H' → ∃ m', m' < m ∧ W (i + 1) m' H') ∧ ∀ x H', J.yld i H x H' → g x (wipe σ vs) H' fun σ2 H2 => wipe σ2 vs = wipe σ vs ∧ tt σ2 H2 fun b H3 =>
    if b = true then te σ2 H3 fun y H4 => ∃ (acc : List β) (c : β), H4 D = some (S.O P w D acc) ∧ acc.length < 62 ∧ S.el H4 y c ∧ (∀ d ∈ acc, S.st H4 d) ∧ Nx (upd H4 D (S.O P w D (acc ++ [c]))) else Nx H3)
theorem d_tSet {β : Type} {S : SetD β} {wi : TI} {g : TG} {tt : TT} {te : TE} {vs : List Nat} (k : RD K D0 R l (fun H => wi σ H fun J H1 => SetKK S P w g tt te vs σ Q J H1)) : RD K D0 R l (fun H => tSet S P w wi g tt te vs σ H Q) := k
def ContS (K : PySem.W.Frag) (D0 : Hp) (R : Res) (l : List (V × PyData)) (w : World) (D : Addr) (Pd : List Int → Prop) : Hp → Prop := fun H => ∃ acc N, Pd acc ∧ At K D0 (star (objs [(D, SetL w D acc)]) R) l N H
def kAdd (w : World) (D : Addr) (y : V) (H4 : Hp) (Nx : Hp → Prop) : Prop := ∃ (acc : List Int) (c : Int), H4 D = some (SetL w D acc) ∧ acc.length < 62 ∧ y = .int c ∧ (∀ d ∈ acc, True) ∧ Nx (upd H4 D (SetL w D (acc ++ [c])))
theorem d_add {l' : List (V × PyData)} {D : Addr} {acc : List Int} {c : Int} {Pd : List Int → Prop} (few : acc.length < 62) (h : Pd (acc ++ [c])) (s : ∀ p ∈ l', InL l p.1 p.2) : RD K D0 (star (objs [(D, SetL w D acc)]) R) l (fun H => kAdd w D (.int c) H (ContS K D0 R l' w D Pd)) := fun N H A => by
  refine ⟨acc, c, A.ob (List.Mem.head _), few, rfl, fun _ _ => trivial, acc ++ [c], N, h, ?_⟩
  have A' := A.setOb (a := D) (o := SetL w D (acc ++ [c])) setL_nt (List.Mem.head _)
  have e : putO [(D, SetL w D acc)] D (SetL w D (acc ++ [c])) = [(D, SetL w D (acc ++ [c]))] := by simp [putO]
  rw [e] at A'
  exact A'.weak s
theorem d_noAdd {l' : List (V × PyData)} {D : Addr} {acc : List Int} {Pd : List Int → Prop} (h : Pd acc) (s : ∀ p ∈ l', InL l p.1 p.2) : RD K D0 (star (objs [(D, SetL w D acc)]) R) l (ContS K D0 R l' w D Pd) := fun N H A => ⟨acc, N, h, A.weak s⟩
theorem d_iKeys {td : TE} {Ri : It → Hp → Prop} (k : RD K D0 R l (fun H => td σ H fun x H1 => ∃ d o, x = .ref d ∧ ((∃ kvs, H1 d = some (.frz o (.dK kvs)) ∧ Ri (Itk d o kvs) H1) ∨ ∃ kvs, H1 d = some (.frz o (.dT kvs)) ∧ Ri (Itkt d o kvs) H1))) : RD K D0 R l (fun H => iKeys td σ H Ri) := k
theorem tup_fact {N : Addr → Prop} {H : Hp} (A : At K D0 R l N H) {q : Addr} {ks : List Key} (hq : H q = some (.tup (ks.map kV))) : At K D0 R ((.ref q, .tuple (ks.map kD)) :: l) N H := by
  have nq : ¬ N q := fun z => by
    obtain ⟨o, e, nt⟩ := A.nt q z
    rw [hq] at e
    cases e
    exact nt _ rfl
  exact A.facts (.tup (.inl (.inl (by rw [off_ne nq]; exact hq))) (kD_dp ks))
theorem d_setKeysT {g : TG} {tt : TT} {te : TE} {vs : List Nat} {d : Addr} {o : Obj} {kvs : List (List Key × V)} (hd : (d, .frz o (.dT kvs)) ∈ L) (Pd : Nat → List Int → Prop) (h0 : Pd 0 [])
    (hs : ∀ i ks v q D acc, kvs[i]? = some (ks, v) → Pd i acc → RD K D0 (star (objs [(D, SetL w D acc)]) (star (objs L) R)) ((.ref q, .tuple (ks.map kD)) :: l) (fun H => g (.ref q) (wipe σ vs) H fun σ2 H2 => kWipe σ2 vs σ H2 fun H2 => tt σ2 H2 fun b H3 =>
      if b = true then te σ2 H3 fun y H4 => kAdd w D y H4 (ContS K D0 (star (objs L) R) l w D (Pd (i + 1))) else ContS K D0 (star (objs L) R) l w D (Pd (i + 1)) H3))
    (hz : ∀ acc D, Pd kvs.length acc → RD K D0 (star (objs [(D, SetL w D acc)]) (star (objs L) R)) l (Q (.ref D))) :
    RD K D0 (star (objs L) R) l (fun H => ∃ d' o', V.ref d = .ref d' ∧ ((∃ kvs, H d' = some (.frz o' (.dK kvs)) ∧ SetKK SI P w g tt te vs σ Q (Itk d' o' kvs) H) ∨ ∃ kvs, H d' = some (.frz o' (.dT kvs)) ∧ SetKK SI P w g tt te vs σ Q (Itkt d' o' kvs) H)) := fun N H A => by
  refine ⟨d, o, rfl, .inr ⟨kvs, A.ob hd, fun D hD => ⟨fun i m H => m = kvs.length - i ∧ i ≤ kvs.length ∧ ContS K D0 (star (objs L) R) l w D (Pd i) H, ⟨_, rfl, Nat.zero_le _, [], _, h0, A.nilO.newOb setL_nt hD⟩, ?_⟩⟩⟩
  rintro i m H' ⟨rfl, hi, acc, N', p, A'⟩
  have he : H' d = some (.frz o (.dT kvs)) := by
    obtain ⟨N1, N2, _, _, _, ⟨_, _, _, _, ⟨_, h⟩, _⟩⟩ := A'.r
    exact h _ hd
  by_cases hlt : i < kvs.length
  · refine .inr ⟨⟨he, hlt⟩, ContS K D0 (star (objs L) R) l w D (Pd (i + 1)), fun H2 p => ⟨kvs.length - (i + 1), by omega, rfl, hlt, p⟩, ?_⟩
    rintro x H2 ⟨rfl, ks, v, q, hk, rfl, hq⟩
    exact hs i ks v q D acc hk p N' _ (tup_fact A' hq)
  · have e : i = kvs.length := by omega
    subst e
    exact .inl ⟨⟨he, Nat.le_refl _⟩, hz acc D p N' _ A'⟩
theorem bools_dt {H : Hp} {bs : List Bool} {xs : List V} (h : DtAll K H xs (bs.map .bool)) : xs = bs.map V.bl := h.bls
end
end GL

/-! M2: starts() and ends() of a machine. -/
namespace GL
open PySem PySem.Spec L2
open PyProof.Rows hiding St
open SX (S)
local macro_rules | `(tactic| walk_at "mem") => `(tactic| (first | exact List.Mem.head _ | exact List.Mem.tail _ (List.Mem.head _) | exact List.Mem.tail _ (List.Mem.tail _ (List.Mem.head _)) | ((repeat (first | exact List.Mem.head _ | apply List.Mem.tail)); done)))
local macro_rules | `(tactic| walk_at "inl") => `(tactic| (first | exact InL.int _ | exact InL.str _ | exact InL.bl _ | exact InL.non | (refine InL.mem ?zm; walk_at "mem") | assumption))
local macro_rules | `(tactic| walk_at "inls") => `(tactic| (repeat (first | exact InLs.nil | (refine InLs.cons ?zi ?_; case zi => walk_at "inl"))))
local macro_rules | `(tactic| walk_at "set") => `(tactic| (simp only [wipe, List.set_cons_succ, List.set_cons_zero]; rfl))
local macro_rules | `(tactic| walk_at "tails") => `(tactic| (first | exact sub_refl | exact sub_tail sub_refl | exact sub_tail (sub_tail sub_refl) | exact sub_nil | ((repeat (first | exact sub_refl | apply sub_tail)); done)))
local macro_rules | `(tactic| walk_at "sub") => `(tactic| (first | walk_at "tails" | ((repeat (refine sub_cons ?zi ?_; case zi => walk_at "inl")); walk_at "tails")))
local macro_rules | `(tactic| walk_at "g1") => `(tactic| (first
  | with_reducible refine d_seq ?_
  | with_reducible refine d_asg ?_
  | ((with_reducible refine d_name (σ' := ?zs) ?zh ?_); (case zh => walk_at "set"))
  | ((with_reducible refine d_var (v := ?zs) ?zh ?_); (case zh => rfl))
  | with_reducible refine d_C ?_
  | with_reducible refine d_op ?_
  | with_reducible refine d_cons ?_
  | with_reducible refine d_nil ?_
  | with_reducible refine d_cb ?_
  | with_reducible refine d_g ?_
  | with_reducible refine d_ifS ?_
  | with_reducible refine d_test ?_
  | with_reducible refine d_bl ?_
  | with_reducible refine d_addI ?_
  | with_reducible refine d_I0 ?_
  | with_reducible refine d_ret ?_
  | with_reducible refine d_retN ?_
  | with_reducible refine d_next ?_
  | with_reducible refine d_drop ?_
  | with_reducible refine d_and ?_
  | with_reducible refine d_or ?_
  | with_reducible refine d_not ?_
  | with_reducible refine d_andV ?_
  | with_reducible refine d_orV ?_
  | with_reducible refine d_notV ?_
  | with_reducible refine d_tru ?_
  | with_reducible refine d_truB ?_
  | with_reducible refine d_tif ?_
  | with_reducible refine d_iteT ?_
  | with_reducible refine d_iteF ?_
  | with_reducible refine d_iteNT ?_
  | with_reducible refine d_iteNF ?_
  | with_reducible refine d_eqI ?_
  | with_reducible refine d_neI ?_
  | with_reducible refine d_eqS ?_
  | with_reducible refine d_neS ?_
  | with_reducible refine d_eqB ?_
  | with_reducible refine d_neB ?_
  | with_reducible refine d_isN ?_
  | with_reducible refine d_notN ?_
  | with_reducible refine d_bm ?_
  | with_reducible refine d_tyS ?_
  | with_reducible refine d_tyO ?_
  | with_reducible refine d_find3 ?_
  | with_reducible refine d_tup ?_
  | with_reducible refine d_lst ?_
  | with_reducible refine d_for ?_
  | with_reducible refine d_iRng1 ?_
  | with_reducible refine d_gIt ?_
  | with_reducible refine d_lc ?_
  | with_reducible refine d_yes ?_
  | with_reducible refine d_tSl ?_
  | with_reducible refine d_noPart ?_
  | with_reducible refine d_part ?_
  | with_reducible refine d_int ?_
  | ((with_reducible refine d_wipe ?zh ?_); (case zh => rfl))
  | ((with_reducible refine d_aug (v := ?zs) ?zh ?_); (case zh => rfl))
  | with_reducible refine d_ipI ?_
  | ((with_reducible refine d_set (σ' := ?zs) ?zh ?_); (case zh => walk_at "set"))))
local macro_rules | `(tactic| walk_at "go") => `(tactic| (repeat walk_at "g1"))
local macro_rules | `(tactic| walk_at "g1") => `(tactic| (first
  | with_reducible refine d_chain ?_
  | with_reducible refine d_tB ?_
  | with_reducible refine d_tGM ?_
  | with_reducible refine d_rz ?_
  | with_reducible refine d_tXf ?_
  | with_reducible refine d_tFld ?_
  | with_reducible refine d_sFld ?_
  | with_reducible refine d_tMix ?_
  | with_reducible refine d_tDIn ?_
  | with_reducible refine d_tDNotIn ?_
  | with_reducible refine d_sDPut ?_
  | with_reducible refine d_sDDelT ?_))
section
variable {K : PySem.W.Frag} {W : WX} {D0 : Hp} {R : Res} {l : List (V × PyData)} {Q : VK} {vs : List V} {H : Hp} {E : XK}
def iSorted (is : List Int) : List PyData := (is.map PyData.int).mergeSort (PySem.W.dataLe false id)
theorem iKV_keys (is : List Int) : ((iKV is).map fun kv => kD kv.1) = is.map PyData.int := by
  unfold iKV
  rw [List.map_map]
  rfl
theorem ints_alike (is : List Int) : PySem.W.AllAlike (is.map PyData.int) := PySem.W.AllAlike.of fun _ _ => by simp [PySem.W.alike]
theorem ints_sortable (is : List Int) : PySem.W.Sortable (is.map PyData.int) := PySem.W.Sortable.others fun _ => ⟨(fun z => nomatch z), (fun _ z => nomatch z)⟩
theorem d_tupleLG {x : V} {ds : List PyData} (hx : InL l x (.list ds)) (k : ∀ q xs, D0 q = none → (∀ ns : List Int, ds = ns.map .int → xs = ns.map V.int) → RD K (upd D0 q (.tup xs)) R ((.ref q, .tuple ds) :: l) (Q (.ref q))) : RD K D0 R l (fun H => gTuple K [x] H Q) := fun N H A => by
  obtain ⟨a, xs, rfl, ha, hd⟩ := (A.dt hx).list
  have ha' := off_same a _ ha
  refine ⟨a, xs, rfl, .inl ⟨SqL.of ha', fun q hq => ?_⟩⟩
  have dq : D0 q = none := by
    cases e : D0 q with
    | none => rfl
    | some u => exact absurd (A.fixed e) (by rw [hq]; exact fun z => by cases z)
  obtain ⟨A', e⟩ := A.new (.tup xs) hq
  have A2 : At K (upd D0 q (.tup xs)) R l N (upd H q (.tup xs)) := ⟨A'.nt, A'.r, fun b u h => by
    by_cases z : b = q
    · subst z
      rw [upd_same] at h
      cases h
      exact e
    · rw [upd_ne z] at h
      exact A'.d0 b u h, A'.f⟩
  obtain ⟨a', xs', ea, ha2, hd2⟩ := (A2.dt hx).list
  have z : xs' = xs := by
    cases ea
    have z1 := off_same a _ ha2
    rw [upd_ne (ne_of_none ha' hq), ha'] at z1
    cases z1
    rfl
  subst z
  exact k q xs' dq (fun ns en => by subst en; exact hd2.ints) N _ (A2.facts (.tup (.inl (.inl e)) hd2))
def sp_Machine_starts (K : PySem.W.Frag) : Sp := fun vs H Q E => ∃ (a : Addr) (m : Mch) (D0 : Hp) (F : Res) (l : List (V × PyData)) (N : Addr → Prop), vs = [.ref a] ∧ At K D0 (star (mach K a m) F) l N H ∧
  ∀ q xs, D0 q = none → (∀ ns : List Int, iSorted m.st = ns.map .int → xs = ns.map V.int) → RD K (upd D0 q (.tup xs)) (star (mach K a m) F) ((.ref q, .tuple (iSorted m.st)) :: l) (Q (.ref q))
def sp_Machine_ends (K : PySem.W.Frag) : Sp := fun vs H Q E => ∃ (a : Addr) (m : Mch) (D0 : Hp) (F : Res) (l : List (V × PyData)) (N : Addr → Prop), vs = [.ref a] ∧ At K D0 (star (mach K a m) F) l N H ∧
  ∀ v, RD K D0 (star (mach K a m) F) ((v, .tuple (iSorted m.en)) :: l) (Q v)
def t_Machine_starts (K : PySem.W.Frag) (W : WX) : TS := (tRet (tCB (gTuple K) (tCons (tCB gSortedK (tCons (tFld K (tVar 0) "_starts") tNil)) tNil)))

def t_Machine_ends (K : PySem.W.Frag) (W : WX) : TS := (tRet (tCB (gTuple K) (tCons (tCB gSortedK (tCons (tFld K (tVar 0) "_ends") tNil)) tNil)))

theorem len_Machine_starts (h : sp_Machine_starts K vs H Q E) : vs.length = 1 := by
  obtain ⟨_, _, _, _, _, _, rfl, _⟩ := h
  rfl
theorem len_Machine_ends (h : sp_Machine_ends K vs H Q E) : vs.length = 1 := by
  obtain ⟨_, _, _, _, _, _, rfl, _⟩ := h
  rfl
theorem pure_Machine_starts (M : MCls K) (h : sp_Machine_starts K vs H Q E) : t_Machine_starts K W { nx := fun _ H' => Q .non H', rt := Q } (start ["self"] vs) H := by
  obtain ⟨a, m, D0, F, l, N, rfl, A, kk⟩ := h
  refine (?_ : RD K D0 (star (mach K a m) F) l (fun H => t_Machine_starts K W _ [some (.ref a)] H)) N H A
  unfold t_Machine_starts
  walk_at "go"
  refine openMach fun dx ed sd td nd => ?_
  refine d_fld (List.Mem.head _) M.c M.n4 (v := .ref sd) rfl ?_
  walk_at "go"
  refine d_sortedK (kvs := iKV m.st) (List.Mem.tail _ (List.Mem.tail _ (List.Mem.tail _ (List.Mem.head _)))) (by rw [iKV_keys]; exact ints_alike _) (by rw [iKV_keys]; exact ints_sortable _) fun v => ?_
  rw [iKV_keys]
  refine closeMach nd ?_
  walk_at "go"
  refine d_tupleLG (InL.mem (List.Mem.head _)) fun q xs hq hx => ?_
  refine RD.weak ?_ (kk q xs hq hx)
  walk_at "sub"
theorem pure_Machine_ends (M : MCls K) (h : sp_Machine_ends K vs H Q E) : t_Machine_ends K W { nx := fun _ H' => Q .non H', rt := Q } (start ["self"] vs) H := by
  obtain ⟨a, m, D0, F, l, N, rfl, A, kk⟩ := h
  refine (?_ : RD K D0 (star (mach K a m) F) l (fun H => t_Machine_ends K W _ [some (.ref a)] H)) N H A
  unfold t_Machine_ends
  walk_at "go"
  refine openMach fun dx ed sd td nd => ?_
  refine d_fld (List.Mem.head _) M.c M.n5 (v := .ref td) rfl ?_
  walk_at "go"
  refine d_sortedK (kvs := iKV m.en) (List.Mem.tail _ (List.Mem.tail _ (List.Mem.tail _ (List.Mem.tail _ (List.Mem.head _))))) (by rw [iKV_keys]; exact ints_alike _) (by rw [iKV_keys]; exact ints_sortable _) fun v => ?_
  rw [iKV_keys]
  refine closeMach nd ?_
  walk_at "go"
  refine d_tupleL (InL.mem (List.Mem.head _)) fun u => ?_
  refine RD.weak ?_ (kk u)
  walk_at "sub"
theorem d_starts {a : Addr} {m : Mch} {EX : XK} (k : ∀ v, RD K D0 (star (mach K a m) R) ((v, .tuple (iSorted m.st)) :: l) (Q v)) : RD K D0 (star (mach K a m) R) l (fun H => sp_Machine_starts K [.ref a] H Q EX) := fun N H A => ⟨a, m, D0, R, l, N, rfl, A, fun q xs hq _ => RD.moreD (same_upd hq) (k (.ref q))⟩
theorem d_ends {a : Addr} {m : Mch} {EX : XK} (k : ∀ v, RD K D0 (star (mach K a m) R) ((v, .tuple (iSorted m.en)) :: l) (Q v)) : RD K D0 (star (mach K a m) R) l (fun H => sp_Machine_ends K [.ref a] H Q EX) := fun N H A => ⟨a, m, D0, R, l, N, rfl, A, k⟩
end
end GL

/-! M3: the class Machine: starts and ends put in and taken out, walks, twins. -/
namespace GL
open PySem PySem.Spec L2
open PyProof.Rows hiding St
open SX (S)
local macro_rules | `(tactic| walk_at "mem") => `(tactic| (first | exact List.Mem.head _ | exact List.Mem.tail _ (List.Mem.head _) | exact List.Mem.tail _ (List.Mem.tail _ (List.Mem.head _)) | ((repeat (first | exact List.Mem.head _ | apply List.Mem.tail)); done)))
local macro_rules | `(tactic| walk_at "inl") => `(tactic| (first | exact InL.int _ | exact InL.str _ | exact InL.bl _ | exact InL.non | (refine InL.mem ?zm; walk_at "mem") | assumption))
local macro_rules | `(tactic| walk_at "inls") => `(tactic| (repeat (first | exact InLs.nil | (refine InLs.cons ?zi ?_; case zi => walk_at "inl"))))
local macro_rules | `(tactic| walk_at "set") => `(tactic| (simp only [wipe, List.set_cons_succ, List.set_cons_zero]; rfl))
local macro_rules | `(tactic| walk_at "tails") => `(tactic| (first | exact sub_refl | exact sub_tail sub_refl | exact sub_tail (sub_tail sub_refl) | exact sub_nil | ((repeat (first | exact sub_refl | apply sub_tail)); done)))
local macro_rules | `(tactic| walk_at "sub") => `(tactic| (first | walk_at "tails" | ((repeat (refine sub_cons ?zi ?_; case zi => walk_at "inl")); walk_at "tails")))
local macro_rules | `(tactic| walk_at "g1") => `(tactic| (first
  | with_reducible refine d_seq ?_
  | with_reducible refine d_asg ?_
  | ((with_reducible refine d_name (σ' := ?zs) ?zh ?_); (case zh => walk_at "set"))
  | ((with_reducible refine d_var (v := ?zs) ?zh ?_); (case zh => rfl))
  | with_reducible refine d_C ?_
  | with_reducible refine d_op ?_
  | with_reducible refine d_cons ?_
  | with_reducible refine d_nil ?_
  | with_reducible refine d_cb ?_
  | with_reducible refine d_g ?_
  | with_reducible refine d_ifS ?_
  | with_reducible refine d_test ?_
  | with_reducible refine d_bl ?_
  | with_reducible refine d_addI ?_
  | with_reducible refine d_I0 ?_
  | with_reducible refine d_ret ?_
  | with_reducible refine d_retN ?_
  | with_reducible refine d_next ?_
  | with_reducible refine d_drop ?_
  | with_reducible refine d_and ?_
  | with_reducible refine d_or ?_
  | with_reducible refine d_not ?_
  | with_reducible refine d_andV ?_
  | with_reducible refine d_orV ?_
  | with_reducible refine d_notV ?_
  | with_reducible refine d_tru ?_
  | with_reducible refine d_truB ?_
  | with_reducible refine d_tif ?_
  | with_reducible refine d_iteT ?_
  | with_reducible refine d_iteF ?_
  | with_reducible refine d_iteNT ?_
  | with_reducible refine d_iteNF ?_
  | with_reducible refine d_eqI ?_
  | with_reducible refine d_neI ?_
  | with_reducible refine d_eqS ?_
  | with_reducible refine d_neS ?_
  | with_reducible refine d_eqB ?_
  | with_reducible refine d_neB ?_
  | with_reducible refine d_isN ?_
  | with_reducible refine d_notN ?_
  | with_reducible refine d_bm ?_
  | with_reducible refine d_tyS ?_
  | with_reducible refine d_tyO ?_
  | with_reducible refine d_find3 ?_
  | with_reducible refine d_tup ?_
  | with_reducible refine d_lst ?_
  | with_reducible refine d_for ?_
  | with_reducible refine d_iRng1 ?_
  | with_reducible refine d_gIt ?_
  | with_reducible refine d_lc ?_
  | with_reducible refine d_yes ?_
  | with_reducible refine d_tSl ?_
  | with_reducible refine d_noPart ?_
  | with_reducible refine d_part ?_
  | with_reducible refine d_int ?_
  | ((with_reducible refine d_wipe ?zh ?_); (case zh => rfl))
  | ((with_reducible refine d_aug (v := ?zs) ?zh ?_); (case zh => rfl))
  | with_reducible refine d_ipI ?_
  | ((with_reducible refine d_set (σ' := ?zs) ?zh ?_); (case zh => walk_at "set"))))
local macro_rules | `(tactic| walk_at "go") => `(tactic| (repeat walk_at "g1"))
local macro_rules | `(tactic| walk_at "g1") => `(tactic| (first
  | with_reducible refine d_chain ?_
  | with_reducible refine d_tB ?_
  | with_reducible refine d_tGM ?_
  | with_reducible refine d_tGN ?_
  | with_reducible refine d_rz ?_
  | with_reducible refine d_tXf ?_
  | with_reducible refine d_tFld ?_
  | with_reducible refine d_sFld ?_
  | with_reducible refine d_tMix ?_
  | with_reducible refine d_tDIn ?_
  | with_reducible refine d_tDNotIn ?_
  | with_reducible refine d_sDPut ?_
  | with_reducible refine d_sDDelT ?_
  | with_reducible refine d_tSet ?_
  | with_reducible refine d_gcons ?_
  | with_reducible refine d_gnil ?_
  | with_reducible refine d_iKeys ?_))
/-! ### lists of states -/
def addI (is : List Int) (i : Int) : List Int := if i ∈ is then is else is ++ [i]
def delI (is : List Int) (i : Int) : List Int := is.filter fun x => decide (x ≠ i)
section
variable {K : PySem.W.Frag} {W : WX} {D0 : Hp} {R : Res} {l : List (V × PyData)} {Q : VK} {vs : List V} {H : Hp} {E : XK} {P : Program} {w : World} {L : List (Addr × HO)} {σ : L2.St} {D : Ends}
theorem val_is (is : List Int) (i : Int) : (valV (iKV is) (.inl i)).isSome = decide (i ∈ is) := by
  induction is with
  | nil => rfl
  | cons x is ih =>
    by_cases h : x = i
    · subst h
      rw [show iKV (x :: is) = (.inl x, .bl true) :: iKV is from rfl, valV_pos rfl]
      simp
    · rw [show iKV (x :: is) = (.inl x, .bl true) :: iKV is from rfl, valV_neg (fun z => h (by injection z)), ih]
      have : ¬ i = x := fun z => h z.symm
      simp [this]
theorem put_is (is : List Int) (i : Int) : putK (iKV is) (.inl i) (.bl true) = iKV (addI is i) := by
  unfold putK addI
  by_cases h : i ∈ is
  · have y : ((iKV is).any fun kv => decide (kv.1 = .inl i)) = true := List.any_eq_true.2 ⟨(.inl i, .bl true), List.mem_map.2 ⟨i, h, rfl⟩, decide_eq_true rfl⟩
    rw [if_pos y, if_pos h]
    unfold iKV
    rw [List.map_map]
    refine List.map_congr_left fun x _ => ?_
    show (if (Sum.inl x : Key) = .inl i then (Sum.inl x, V.bl true) else (Sum.inl x, V.bl true)) = (Sum.inl x, V.bl true)
    split <;> rfl
  · have n : ¬ ((iKV is).any fun kv => decide (kv.1 = .inl i)) = true := fun z => by
      obtain ⟨kv, hk, e2⟩ := List.any_eq_true.1 z
      obtain ⟨x, hx, rfl⟩ := List.mem_map.1 hk
      have e3 := of_decide_eq_true e2
      injection e3 with e3
      exact h (e3 ▸ hx)
    rw [if_neg n, if_neg h]
    simp [iKV]
theorem drop_is (is : List Int) (i : Int) : dropK (iKV is) (.inl i) = iKV (delI is i) := by
  unfold dropK iKV delI
  rw [List.filter_map]
  congr 1
  refine List.filter_congr fun x _ => ?_
  show decide ((Sum.inl x : Key) ≠ .inl i) = decide (x ≠ i)
  refine decide_eq_decide.2 (not_congr ⟨fun e => by injection e, fun e => by rw [e]⟩)
/-! ### put_in, take_out -/
def kDDel (x y : V) (H2 : Hp) (Qn : Hp → Prop) : Prop := ∃ a kvs k, x = .ref a ∧ H2 a = some (.dK kvs) ∧ y = kV k ∧ (valV kvs k).isSome = true ∧ Qn (upd H2 a (.dK (dropK kvs k)))
theorem d_sDDel {td ty : TE} (k : RD K D0 R l (fun H => td σ H fun x H1 => ty σ H1 fun y H2 => kDDel x y H2 fun H3 => D.nx σ H3)) : RD K D0 R l (fun H => sDDel td ty D σ H) := k
theorem d_delK {a : Addr} {kvs : List (Key × V)} {key : Key} {Qn : Hp → Prop} (ha : (a, .dK kvs) ∈ L) (th : (valV kvs key).isSome = true) (k : RD K D0 (star (objs (putO L a (.dK (dropK kvs key)))) R) l Qn) :
    RD K D0 (star (objs L) R) l (fun H => kDDel (.ref a) (kV key) H Qn) := fun N H A => ⟨a, kvs, key, rfl, A.ob ha, rfl, th, k N _ (A.setOb (fun _ z => by cases z) ha)⟩
def sp_put_in (K : PySem.W.Frag) : Sp := fun vs H Q _ => ∃ (a : Addr) (i : Int) (is : List Int) (L : List (Addr × HO)) (D0 : Hp) (F : Res) (l : List (V × PyData)) (N : Addr → Prop), vs = [.ref a, .int i] ∧ At K D0 (star (objs L) F) l N H ∧ (a, .dK (iKV is)) ∈ L ∧ is.length ≤ 1000 ∧
  RD K D0 (star (objs (putO L a (.dK (iKV (addI is i))))) F) l (Q (.bl (!decide (i ∈ is))))
def t_put_in (K : PySem.W.Frag) (W : WX) : TS := (tSeq (tAsg (tDNotIn (tVar 1) (tVar 0)) (gName 2))
  (tSeq (sDPut (tVar 0) (tVar 1) (tC (.bl true)))
  (tRet (tVar 2))))

theorem len_put_in (h : sp_put_in K vs H Q E) : vs.length = 2 := by
  obtain ⟨_, _, _, _, _, _, _, _, rfl, _⟩ := h
  rfl
theorem pure_put_in (h : sp_put_in K vs H Q E) : t_put_in K W { nx := fun _ H' => Q .non H', rt := Q } (start ["states", "state", "missing"] vs) H := by
  obtain ⟨a, i, is, L, D0, F, l, N, rfl, A, ha, hl, kk⟩ := h
  refine (?_ : RD K D0 (star (objs L) F) l (fun H => t_put_in K W _ [some (.ref a), some (.int i), none] H)) N H A
  unfold t_put_in
  walk_at "go"
  refine d_dinK (neg := true) (key := .inl i) ha ?_
  rw [if_pos rfl, val_is]
  walk_at "go"
  refine d_putK (key := .inl i) ha ?_ ?_
  · have : (iKV is).length = is.length := List.length_map _
    rw [this]
    exact Nat.lt_of_le_of_lt hl (Nat.lt_of_lt_of_le (by decide) line_big)
  rw [put_is]
  walk_at "go"
  exact kk
def sp_take_out (K : PySem.W.Frag) : Sp := fun vs H Q _ => ∃ (a : Addr) (i : Int) (is : List Int) (L : List (Addr × HO)) (D0 : Hp) (F : Res) (l : List (V × PyData)) (N : Addr → Prop), vs = [.ref a, .int i] ∧ At K D0 (star (objs L) F) l N H ∧ (a, .dK (iKV is)) ∈ L ∧
  (i ∈ is → RD K D0 (star (objs (putO L a (.dK (iKV (delI is i))))) F) l (Q (.bl true))) ∧ (i ∉ is → RD K D0 (star (objs L) F) l (Q (.bl false)))
def t_take_out (K : PySem.W.Frag) (W : WX) : TS := (tSeq (tAsg (tDIn (tVar 1) (tVar 0)) (gName 2))
  (tSeq (tIfS (tTru K (tVar 2)) (sDDel (tVar 0) (tVar 1)) tNext)
  (tRet (tVar 2))))

theorem len_take_out (h : sp_take_out K vs H Q E) : vs.length = 2 := by
  obtain ⟨_, _, _, _, _, _, _, _, rfl, _⟩ := h
  rfl
theorem pure_take_out (h : sp_take_out K vs H Q E) : t_take_out K W { nx := fun _ H' => Q .non H', rt := Q } (start ["states", "state", "there"] vs) H := by
  obtain ⟨a, i, is, L, D0, F, l, N, rfl, A, ha, k1, k2⟩ := h
  refine (?_ : RD K D0 (star (objs L) F) l (fun H => t_take_out K W _ [some (.ref a), some (.int i), none] H)) N H A
  unfold t_take_out
  walk_at "go"
  refine d_dinK (neg := false) (key := .inl i) ha ?_
  rw [if_neg (by decide), val_is]
  walk_at "go"
  refine d_iteP (fun h => ?_) (fun h => ?_)
  · rw [decide_eq_true h]
    refine d_sDDel ?_
    walk_at "go"
    refine d_delK (key := .inl i) ha (by rw [val_is]; exact decide_eq_true h) ?_
    rw [drop_is]
    walk_at "go"
    exact k1 h
  · rw [decide_eq_false h]
    walk_at "go"
    exact k2 h
/-! ### add_start and its like -/
theorem put_mS {a dx ed sd td : Addr} {m : Mch} {is : List Int} (nd : [a, dx, ed, sd, td].Nodup) : putO (mL K a dx ed sd td m) sd (.dK (iKV is)) = mL K a dx ed sd td { m with st := is } := by
  simp only [List.nodup_cons, List.mem_cons, List.not_mem_nil, or_false, not_or] at nd
  obtain ⟨⟨h1, h2, h3, h4⟩, ⟨h5, h6, h7⟩, ⟨h8, h9⟩, h10, _⟩ := nd
  simp only [putO, mL, List.map_cons, List.map_nil, if_neg h3, if_neg h6, if_neg h8, if_true, if_neg (Ne.symm h10)]
  rfl
theorem put_mN {a dx ed sd td : Addr} {m : Mch} {is : List Int} (nd : [a, dx, ed, sd, td].Nodup) : putO (mL K a dx ed sd td m) td (.dK (iKV is)) = mL K a dx ed sd td { m with en := is } := by
  simp only [List.nodup_cons, List.mem_cons, List.not_mem_nil, or_false, not_or] at nd
  obtain ⟨⟨h1, h2, h3, h4⟩, ⟨h5, h6, h7⟩, ⟨h8, h9⟩, h10, _⟩ := nd
  simp only [putO, mL, List.map_cons, List.map_nil, if_neg h4, if_neg h7, if_neg h9, if_neg h10, if_true]
  rfl
theorem in_mS {a dx ed sd td : Addr} {m : Mch} : (sd, HO.dK (iKV m.st)) ∈ mL K a dx ed sd td m := List.Mem.tail _ (List.Mem.tail _ (List.Mem.tail _ (List.Mem.head _)))
theorem in_mN {a dx ed sd td : Addr} {m : Mch} : (td, HO.dK (iKV m.en)) ∈ mL K a dx ed sd td m := List.Mem.tail _ (List.Mem.tail _ (List.Mem.tail _ (List.Mem.tail _ (List.Mem.head _))))
theorem in_mE {a dx ed sd td : Addr} {m : Mch} : (ed, HO.dT (eKV m.es)) ∈ mL K a dx ed sd td m := List.Mem.tail _ (List.Mem.tail _ (List.Mem.head _))
theorem between_int {d : PyData} {v : V} {lo hi : Int} (h : between d lo hi = true) (dv : Dv v d) : ∃ i, d = .int i ∧ v = .int i ∧ lo ≤ i ∧ i ≤ hi := by
  cases d with
  | int i => exact ⟨i, rfl, dv, by simpa [between] using h⟩
  | none => cases h
  | bool b => cases h
  | str s => cases h
  | list xs => cases h
  | tuple xs => cases h
  | dict xs => cases h
/-- a method that changes a list of states: c what it makes of the machine, r what it returns -/
def spEd (K : PySem.W.Frag) (c : Mch → Int → Mch) (r : Mch → Int → Bool) : Sp := fun vs H Q E => ∃ (a : Addr) (m : Mch) (v : V) (d : PyData) (D0 : Hp) (F : Res) (l : List (V × PyData)) (N : Addr → Prop), vs = [.ref a, v] ∧ At K D0 (star (mach K a m) F) l N H ∧ InL l v d ∧ d.hasDict = false ∧ m.st.length ≤ 1000 ∧ m.en.length ≤ 1000 ∧
  (between d 0 (m.n - 1) = false → ∀ x, RD K D0 (star (xdo x [("state", v)]) (star (mach K a m) F)) l (E (.ref (He.ga K "UnknownState")) (some x))) ∧
  (∀ i, d = .int i → 0 ≤ i → i ≤ m.n - 1 → RD K D0 (star (mach K a (c m i)) F) l (Q (.bl (r m i))))
def sp_Machine_add_start (K : PySem.W.Frag) : Sp := spEd K (fun m i => { m with st := addI m.st i }) fun m i => !decide (i ∈ m.st)
def sp_Machine_add_end (K : PySem.W.Frag) : Sp := spEd K (fun m i => { m with en := addI m.en i }) fun m i => !decide (i ∈ m.en)
def sp_Machine_remove_start (K : PySem.W.Frag) : Sp := spEd K (fun m i => if i ∈ m.st then { m with st := delI m.st i } else m) fun m i => decide (i ∈ m.st)
def sp_Machine_remove_end (K : PySem.W.Frag) : Sp := spEd K (fun m i => if i ∈ m.en then { m with en := delI m.en i } else m) fun m i => decide (i ∈ m.en)
theorem spEd_len {c : Mch → Int → Mch} {r : Mch → Int → Bool} (h : spEd K c r vs H Q E) : vs.length = 2 := by
  obtain ⟨_, _, _, _, _, _, _, _, rfl, _⟩ := h
  rfl
theorem d_ed {c : Mch → Int → Mch} {r : Mch → Int → Bool} {a : Addr} {m : Mch} {v : V} {d : PyData} (hd : InL l v d) (nd : d.hasDict = false) (h1 : m.st.length ≤ 1000) (h2 : m.en.length ≤ 1000)
    (n : between d 0 (m.n - 1) = false → ∀ x, RD K D0 (star (xdo x [("state", v)]) (star (mach K a m) R)) l (E (.ref (He.ga K "UnknownState")) (some x)))
    (y : ∀ i, d = .int i → 0 ≤ i → i ≤ m.n - 1 → RD K D0 (star (mach K a (c m i)) R) l (Q (.bl (r m i)))) : RD K D0 (star (mach K a m) R) l (fun H => spEd K c r [.ref a, v] H Q E) :=
  fun N H A => ⟨a, m, v, d, D0, R, l, N, rfl, A, hd, nd, h1, h2, n, y⟩
theorem d_putIn {a : Addr} {i : Int} {is : List Int} (ha : (a, .dK (iKV is)) ∈ L) (hl : is.length ≤ 1000) (k : RD K D0 (star (objs (putO L a (.dK (iKV (addI is i))))) R) l (Q (.bl (!decide (i ∈ is))))) : RD K D0 (star (objs L) R) l (fun H => sp_put_in K [.ref a, .int i] H Q E) :=
  fun N H A => ⟨a, i, is, L, D0, R, l, N, rfl, A, ha, hl, k⟩
theorem d_takeOut {a : Addr} {i : Int} {is : List Int} (ha : (a, .dK (iKV is)) ∈ L) (k1 : i ∈ is → RD K D0 (star (objs (putO L a (.dK (iKV (delI is i))))) R) l (Q (.bl true))) (k2 : i ∉ is → RD K D0 (star (objs L) R) l (Q (.bl false))) : RD K D0 (star (objs L) R) l (fun H => sp_take_out K [.ref a, .int i] H Q E) :=
  fun N H A => ⟨a, i, is, L, D0, R, l, N, rfl, A, ha, k1, k2⟩
def t_Machine_add_start (K : PySem.W.Frag) (W : WX) : TS := (tSeq (tDrop (tGM (He.ga K "Machine") "_require_state" (sp_Machine__require_state K) W (tVar 0) (tCons (tVar 1) tNil)))
  (tRet (tG (sp_put_in K) W (tCons (tFld K (tVar 0) "_starts") (tCons (tVar 1) tNil)))))

theorem len_Machine_add_start (h : sp_Machine_add_start K vs H Q E) : vs.length = 2 := spEd_len h
theorem pure_Machine_add_start (M : MCls K) (h : sp_Machine_add_start K vs H Q E) : t_Machine_add_start K (fun cls d _ H => E cls d H) { nx := fun _ H' => Q .non H', rt := Q } (start ["self", "state"] vs) H := by
  obtain ⟨a, m, v, d, D0, F, l, N, rfl, A, hd, nd, h1, h2, kN, kY⟩ := h
  have dv := (A.dt hd).dv
  refine (?_ : RD K D0 (star (mach K a m) F) l (fun H => t_Machine_add_start K (fun cls d _ H => E cls d H) _ [some (.ref a), some v] H)) N H A
  unfold t_Machine_add_start
  walk_at "go"
  refine d_kGM (fun _ _ _ => rfl) ?_
  walk_at "go"
  refine d_reqState hd nd (fun hb => ?_) kN
  obtain ⟨i, rfl, rfl, i0, i1⟩ := between_int hb dv
  walk_at "go"
  refine openMach fun dx ed sd td nd5 => ?_
  refine d_fld (List.Mem.head _) M.c M.n4 (v := .ref sd) rfl ?_
  walk_at "go"
  refine d_putIn in_mS h1 ?_
  rw [put_mS nd5]
  exact closeMach nd5 (kY i rfl i0 i1)
def t_Machine_add_end (K : PySem.W.Frag) (W : WX) : TS := (tSeq (tDrop (tGM (He.ga K "Machine") "_require_state" (sp_Machine__require_state K) W (tVar 0) (tCons (tVar 1) tNil)))
  (tRet (tG (sp_put_in K) W (tCons (tFld K (tVar 0) "_ends") (tCons (tVar 1) tNil)))))

theorem len_Machine_add_end (h : sp_Machine_add_end K vs H Q E) : vs.length = 2 := spEd_len h
theorem pure_Machine_add_end (M : MCls K) (h : sp_Machine_add_end K vs H Q E) : t_Machine_add_end K (fun cls d _ H => E cls d H) { nx := fun _ H' => Q .non H', rt := Q } (start ["self", "state"] vs) H := by
  obtain ⟨a, m, v, d, D0, F, l, N, rfl, A, hd, nd, h1, h2, kN, kY⟩ := h
  have dv := (A.dt hd).dv
  refine (?_ : RD K D0 (star (mach K a m) F) l (fun H => t_Machine_add_end K (fun cls d _ H => E cls d H) _ [some (.ref a), some v] H)) N H A
  unfold t_Machine_add_end
  walk_at "go"
  refine d_kGM (fun _ _ _ => rfl) ?_
  walk_at "go"
  refine d_reqState hd nd (fun hb => ?_) kN
  obtain ⟨i, rfl, rfl, i0, i1⟩ := between_int hb dv
  walk_at "go"
  refine openMach fun dx ed sd td nd5 => ?_
  refine d_fld (List.Mem.head _) M.c M.n5 (v := .ref td) rfl ?_
  walk_at "go"
  refine d_putIn in_mN h2 ?_
  rw [put_mN nd5]
  exact closeMach nd5 (kY i rfl i0 i1)
def t_Machine_remove_start (K : PySem.W.Frag) (W : WX) : TS := (tSeq (tDrop (tGM (He.ga K "Machine") "_require_state" (sp_Machine__require_state K) W (tVar 0) (tCons (tVar 1) tNil)))
  (tRet (tG (sp_take_out K) W (tCons (tFld K (tVar 0) "_starts") (tCons (tVar 1) tNil)))))

theorem len_Machine_remove_start (h : sp_Machine_remove_start K vs H Q E) : vs.length = 2 := spEd_len h
theorem pure_Machine_remove_start (M : MCls K) (h : sp_Machine_remove_start K vs H Q E) : t_Machine_remove_start K (fun cls d _ H => E cls d H) { nx := fun _ H' => Q .non H', rt := Q } (start ["self", "state"] vs) H := by
  obtain ⟨a, m, v, d, D0, F, l, N, rfl, A, hd, nd, h1, h2, kN, kY⟩ := h
  have dv := (A.dt hd).dv
  refine (?_ : RD K D0 (star (mach K a m) F) l (fun H => t_Machine_remove_start K (fun cls d _ H => E cls d H) _ [some (.ref a), some v] H)) N H A
  unfold t_Machine_remove_start
  walk_at "go"
  refine d_kGM (fun _ _ _ => rfl) ?_
  walk_at "go"
  refine d_reqState hd nd (fun hb => ?_) kN
  obtain ⟨i, rfl, rfl, i0, i1⟩ := between_int hb dv
  have z := kY i rfl i0 i1
  dsimp only at z
  walk_at "go"
  refine openMach fun dx ed sd td nd5 => ?_
  refine d_fld (List.Mem.head _) M.c M.n4 (v := .ref sd) rfl ?_
  walk_at "go"
  refine d_takeOut in_mS (fun hi => ?_) (fun hi => ?_)
  · rw [put_mS nd5]
    rw [if_pos hi, decide_eq_true hi] at z
    exact closeMach nd5 z
  · rw [if_neg hi, decide_eq_false hi] at z
    exact closeMach nd5 z
/-! ### walks -/
def stepI (es : List (Int × Nat × Int)) (ns : List Int) (c : Nat) : List Int := sortI ((es.filter fun e => decide (e.2.1 = c) && decide (e.1 ∈ ns)).map (·.2.2))
def walkI (es : List (Int × Nat × Int)) (ns : List Int) (cs : List Nat) : List Int := cs.foldl (stepI es) ns
theorem ints_any (ns : List Int) (i : Int) : ((ns.map PyData.int).any fun e => PyData.eqv e (.int i)) = decide (i ∈ ns) := by
  rw [Bool.eq_iff_iff, List.any_eq_true, decide_eq_true_iff]
  constructor
  · rintro ⟨d, hd, e⟩
    obtain ⟨n, hn, rfl⟩ := List.mem_map.1 hd
    rw [eqv_int] at e
    exact of_decide_eq_true e ▸ hn
  · intro h
    exact ⟨.int i, List.mem_map.2 ⟨i, h, rfl⟩, by rw [eqv_int]; exact decide_eq_true rfl⟩
theorem sign_eq {c e : Nat} : decide (S [c] = S [e]) = decide (c = e) := decide_eq_decide.2 ⟨fun h => by simpa using SX.S_inj h, fun h => by rw [h]⟩
def sp_Machine__behind (K : PySem.W.Frag) : Sp := fun vs H Q _ => ∃ (a : Addr) (m : Mch) (v : V) (ns : List Int) (c : Nat) (D0 : Hp) (F : Res) (l : List (V × PyData)) (N : Addr → Prop), vs = [.ref a, v, .str (S [c])] ∧ At K D0 (star (mach K a m) F) l N H ∧ InL l v (.tuple (ns.map .int)) ∧ m.es.length ≤ 40 ∧
  ∀ q, D0 q = none → RD K (upd D0 q (.tup ((stepI m.es ns c).map V.int))) (star (mach K a m) F) ((.ref q, .tuple ((stepI m.es ns c).map .int)) :: l) (Q (.ref q))
def t_Machine__behind (K : PySem.W.Frag) (P : Program) (w : World) (W : WX) : TS := (tRet (tCB (gTuple K) (tCons (tCB (rSortL w) (tCons (tLockE (tSet SI P w (iKeys (tFld K (tVar 0) "_edges")) (gTup K 3 (gCons (gName 3) (gCons (gName 4) (gCons (gName 5) gNil)))) (tAnd (tTest (tOp (gEq K) (tVar 4) (tVar 2))) (tTest (tOp (gIn K false) (tVar 3) (tVar 1)))) (tVar 5) [3, 4, 5])) tNil)) tNil)))

theorem len_Machine__behind (h : sp_Machine__behind K vs H Q E) : vs.length = 3 := by
  obtain ⟨_, _, _, _, _, _, _, _, _, rfl, _⟩ := h
  rfl
theorem one_mE {a dx ed sd td : Addr} {m : Mch} (nd : [a, dx, ed, sd, td].Nodup) : ∀ p ∈ mL K a dx ed sd td m, p.1 = ed → p.2 = .dT (eKV m.es) := by
  simp only [List.nodup_cons, List.mem_cons, List.not_mem_nil, or_false, not_or] at nd
  obtain ⟨⟨h1, h2, h3, h4⟩, ⟨h5, h6, h7⟩, ⟨h8, h9⟩, h10, _⟩ := nd
  intro p hp e
  simp only [mL, List.mem_cons, List.not_mem_nil, or_false] at hp
  rcases hp with rfl | rfl | rfl | rfl | rfl
  · exact absurd e h2
  · exact absurd e h5
  · rfl
  · exact absurd e.symm h8
  · exact absurd e.symm h9
theorem pure_Machine__behind (M : MCls K) (h : sp_Machine__behind K vs H Q E) : t_Machine__behind K P w W { nx := fun _ H' => Q .non H', rt := Q } (start ["self", "states", "sign", "origin", "letter", "target"] vs) H := by
  obtain ⟨a, m, v, ns, c, D0, F, l, N, rfl, A, hv, he, kk⟩ := h
  refine (?_ : RD K D0 (star (mach K a m) F) l (fun H => t_Machine__behind K P w W _ [some (.ref a), some v, some (.str (S [c])), none, none, none] H)) N H A
  unfold t_Machine__behind
  walk_at "go"
  refine openMach fun dx ed sd td nd5 => ?_
  refine d_lock in_mE (one_mE nd5) trivial (fun _ z => by cases z) fun od => ?_
  walk_at "go"
  have me : (a, HO.ins (He.ga K "Machine") dx (mFs ed sd td m)) ∈ putO (mL K a dx ed sd td m) ed (.frz od (.dT (eKV m.es))) := by
    have ne : ¬ a = ed := fun z => by
      simp only [List.nodup_cons, List.mem_cons, List.not_mem_nil, or_false, not_or] at nd5
      exact nd5.1.2.1 z
    exact List.mem_map.2 ⟨(a, _), List.Mem.head _, by rw [if_neg ne]⟩
  refine d_fld me M.c M.n3 (v := .ref ed) rfl ?_
  refine d_setKeysT (putO_mem in_mE) (fun i acc => acc = ((m.es.take i).filter fun e => decide (e.2.1 = c) && decide (e.1 ∈ ns)).map (·.2.2)) rfl ?_ ?_
  · rintro i ks v0 q Dd acc hk rfl
    obtain ⟨e, hee, e2⟩ : ∃ e, m.es[i]? = some e ∧ ks = ekey e := by
      unfold eKV at hk
      rw [List.getElem?_map] at hk
      cases hm : m.es[i]? with
      | none => rw [hm] at hk; cases hk
      | some e =>
        rw [hm] at hk
        have := Option.some.inj hk
        exact ⟨e, rfl, (congrArg Prod.fst this).symm⟩
    subst e2
    obtain ⟨o, b, t⟩ := e
    have few : (((m.es.take i).filter fun e => decide (e.2.1 = c) && decide (e.1 ∈ ns)).map (·.2.2)).length < 62 := by
      rw [List.length_map]
      have h1 := List.length_filter_le (fun e : Int × Nat × Int => decide (e.2.1 = c) && decide (e.1 ∈ ns)) (m.es.take i)
      have h2 : (m.es.take i).length ≤ m.es.length := by rw [List.length_take]; omega
      omega
    refine d_gEdge (o := o) (s := S [b]) (t := t) (InL.mem (List.Mem.head _)) ?_
    walk_at "go"
    rw [sign_eq]
    refine d_iteP (fun hb => ?_) (fun hb => ?_)
    · walk_at "go"
      refine d_inT (.int o) (hv.tail) (dep0 (by simp only [PyData.depth])) ?_
      rw [ints_any]
      walk_at "go"
      refine d_iteP (fun ho => ?_) (fun ho => ?_)
      · walk_at "go"
        refine d_add few ?_ (by walk_at "sub")
        rw [List.take_succ, hee]
        simp [List.filter_append, hb, ho]
      · refine d_noAdd ?_ (by walk_at "sub")
        rw [List.take_succ, hee]
        simp [List.filter_append, ho]
    · walk_at "go"
      refine d_noAdd ?_ (by walk_at "sub")
      rw [List.take_succ, hee]
      simp [List.filter_append, hb]
  · rintro acc Dd rfl
    have e0 : (eKV m.es).length = m.es.length := List.length_map _
    rw [e0, List.take_length]
    refine d_locked2 in_mE (one_mE nd5) (fun _ z => by cases z) ?_
    walk_at "go"
    refine d_sortL ?_ fun u => ?_
    · rw [List.length_map]
      have h1 := List.length_filter_le (fun e : Int × Nat × Int => decide (e.2.1 = c) && decide (e.1 ∈ ns)) m.es
      omega
    refine closeMach nd5 ?_
    walk_at "go"
    refine d_tupleLG (InL.mem (List.Mem.head _)) fun q2 xs hq hx => ?_
    obtain rfl := hx _ rfl
    refine RD.weak ?_ (kk q2 hq)
    walk_at "sub"
end
end GL

/-! M4: the class Machine: logs, twins. -/
namespace GL
open PySem PySem.Spec L2
open PyProof.Rows hiding St
open SX (S)
local macro_rules | `(tactic| walk_at "mem") => `(tactic| (first | exact List.Mem.head _ | exact List.Mem.tail _ (List.Mem.head _) | exact List.Mem.tail _ (List.Mem.tail _ (List.Mem.head _)) | ((repeat (first | exact List.Mem.head _ | apply List.Mem.tail)); done)))
local macro_rules | `(tactic| walk_at "inl") => `(tactic| (first | exact InL.int _ | exact InL.str _ | exact InL.bl _ | exact InL.non | (refine InL.mem ?zm; walk_at "mem") | assumption))
local macro_rules | `(tactic| walk_at "inls") => `(tactic| (repeat (first | exact InLs.nil | (refine InLs.cons ?zi ?_; case zi => walk_at "inl"))))
local macro_rules | `(tactic| walk_at "set") => `(tactic| (simp only [wipe, List.set_cons_succ, List.set_cons_zero]; rfl))
local macro_rules | `(tactic| walk_at "tails") => `(tactic| (first | exact sub_refl | exact sub_tail sub_refl | exact sub_tail (sub_tail sub_refl) | exact sub_nil | ((repeat (first | exact sub_refl | apply sub_tail)); done)))
local macro_rules | `(tactic| walk_at "sub") => `(tactic| (first | walk_at "tails" | ((repeat (refine sub_cons ?zi ?_; case zi => walk_at "inl")); walk_at "tails")))
local macro_rules | `(tactic| walk_at "g1") => `(tactic| (first
  | with_reducible refine d_seq ?_
  | with_reducible refine d_asg ?_
  | ((with_reducible refine d_name (σ' := ?zs) ?zh ?_); (case zh => walk_at "set"))
  | ((with_reducible refine d_var (v := ?zs) ?zh ?_); (case zh => rfl))
  | with_reducible refine d_C ?_
  | with_reducible refine d_op ?_
  | with_reducible refine d_cons ?_
  | with_reducible refine d_nil ?_
  | with_reducible refine d_cb ?_
  | with_reducible refine d_g ?_
  | with_reducible refine d_ifS ?_
  | with_reducible refine d_test ?_
  | with_reducible refine d_bl ?_
  | with_reducible refine d_addI ?_
  | with_reducible refine d_I0 ?_
  | with_reducible refine d_ret ?_
  | with_reducible refine d_retN ?_
  | with_reducible refine d_next ?_
  | with_reducible refine d_drop ?_
  | with_reducible refine d_and ?_
  | with_reducible refine d_or ?_
  | with_reducible refine d_not ?_
  | with_reducible refine d_andV ?_
  | with_reducible refine d_orV ?_
  | with_reducible refine d_notV ?_
  | with_reducible refine d_tru ?_
  | with_reducible refine d_truB ?_
  | with_reducible refine d_tif ?_
  | with_reducible refine d_iteT ?_
  | with_reducible refine d_iteF ?_
  | with_reducible refine d_iteNT ?_
  | with_reducible refine d_iteNF ?_
  | with_reducible refine d_eqI ?_
  | with_reducible refine d_neI ?_
  | with_reducible refine d_eqS ?_
  | with_reducible refine d_neS ?_
  | with_reducible refine d_eqB ?_
  | with_reducible refine d_neB ?_
  | with_reducible refine d_isN ?_
  | with_reducible refine d_notN ?_
  | with_reducible refine d_bm ?_
  | with_reducible refine d_tyS ?_
  | with_reducible refine d_tyO ?_
  | with_reducible refine d_find3 ?_
  | with_reducible refine d_tup ?_
  | with_reducible refine d_lst ?_
  | with_reducible refine d_for ?_
  | with_reducible refine d_iRng1 ?_
  | with_reducible refine d_gIt ?_
  | with_reducible refine d_lc ?_
  | with_reducible refine d_yes ?_
  | with_reducible refine d_tSl ?_
  | with_reducible refine d_noPart ?_
  | with_reducible refine d_part ?_
  | with_reducible refine d_int ?_
  | ((with_reducible refine d_wipe ?zh ?_); (case zh => rfl))
  | ((with_reducible refine d_aug (v := ?zs) ?zh ?_); (case zh => rfl))
  | with_reducible refine d_ipI ?_
  | ((with_reducible refine d_set (σ' := ?zs) ?zh ?_); (case zh => walk_at "set"))))
local macro_rules | `(tactic| walk_at "go") => `(tactic| (repeat walk_at "g1"))
local macro_rules | `(tactic| walk_at "g1") => `(tactic| (first
  | with_reducible refine d_chain ?_
  | with_reducible refine d_tB ?_
  | with_reducible refine d_tGM ?_
  | with_reducible refine d_tGN ?_
  | with_reducible refine d_rz ?_
  | with_reducible refine d_tXf ?_
  | with_reducible refine d_tFld ?_
  | with_reducible refine d_sFld ?_
  | with_reducible refine d_tMix ?_
  | with_reducible refine d_tDIn ?_
  | with_reducible refine d_tDNotIn ?_
  | with_reducible refine d_sDPut ?_
  | with_reducible refine d_sDDelT ?_
  | with_reducible refine d_tSet ?_
  | with_reducible refine d_gcons ?_
  | with_reducible refine d_gnil ?_
  | with_reducible refine d_iKeys ?_))
/-! ### in order -/
theorem iSorted_eq {is : List Int} (nd : is.Nodup) : iSorted is = (sortI is).map PyData.int := by
  unfold iSorted
  have e1 := PySem.W.dataLe_int (fun i : Int => i)
  have e2 : (is.map PyData.int).mergeSort (PySem.W.dataLe false id) = (is.mergeSort (PySem.W.dataLe false fun i => PyData.int i)).map PyData.int :=
    (List.map_mergeSort (f := PyData.int) (r := PySem.W.dataLe false fun i => PyData.int i) (s := PySem.W.dataLe false id) (fun a _ b _ => rfl)).symm
  rw [e2, e1]
  refine congrArg (List.map PyData.int) ?_
  have pm := List.mergeSort_perm is fun a b : Int => decide (a ≤ b)
  have so : (is.mergeSort fun a b : Int => decide (a ≤ b)).Pairwise fun a b => decide (a ≤ b) = true := by
    first
      | exact List.pairwise_mergeSort (fun a b c => by simp only [decide_eq_true_eq]; omega) (fun a b => by simp only [Bool.or_eq_true, decide_eq_true_eq]; omega) is
      | exact List.sorted_mergeSort (fun a b c => by simp only [decide_eq_true_eq]; omega) (fun a b => by simp only [Bool.or_eq_true, decide_eq_true_eq]; omega) is
  refine sortI_eq ?_ fun z => pm.mem_iff
  have nd2 := pm.nodup_iff.2 nd
  rw [List.nodup_iff_pairwise_ne] at nd2
  refine (so.and nd2).imp fun {a b} h => ?_
  have h1 := of_decide_eq_true h.1
  have h2 := h.2
  omega
def sortE (es : List (Int × Nat × Int)) : List (Int × Nat × Int) := es.mergeSort fun a b => PySem.W.dataLe false id (eD a) (eD b)
theorem eSorted_eq (es : List (Int × Nat × Int)) : eSorted es = (sortE es).map eD := (List.map_mergeSort (f := eD) (r := fun a b => PySem.W.dataLe false id (eD a) (eD b)) (s := PySem.W.dataLe false id) (fun a _ b _ => rfl)).symm
theorem sortE_perm (es : List (Int × Nat × Int)) : (sortE es).Perm es := List.mergeSort_perm _ _
theorem nodup_sortI (l : List Int) : (sortI l).Nodup := List.nodup_iff_pairwise_ne.2 ((asc_sortI l).imp fun h => Int.ne_of_lt h)
/-- a machine as the class keeps it -/
structure MOk (m : Mch) : Prop where
  k1 : 1 ≤ m.k
  k3 : m.k ≤ 3
  n1 : 1 ≤ m.n
  n6 : m.n ≤ 6
  len : m.es.length ≤ 14
  nd : m.es.Nodup
  ed : ∀ e ∈ m.es, (0 ≤ e.1 ∧ e.1 < m.n) ∧ e.2.1 ∈ ([97, 98, 99] : List Nat).take m.k ∧ (0 ≤ e.2.2 ∧ e.2.2 < m.n)
  snd : m.st.Nodup
  st : ∀ i ∈ m.st, 0 ≤ i ∧ i < m.n
  nnd : m.en.Nodup
  en : ∀ i ∈ m.en, 0 ≤ i ∧ i < m.n
theorem nodup_len {α : Type} [DecidableEq α] : ∀ {xs ys : List α}, xs.Nodup → (∀ x ∈ xs, x ∈ ys) → xs.length ≤ ys.length
  | [], _, _, _ => Nat.zero_le _
  | x :: xs, ys, nd, h => by
    have hx := h x List.mem_cons_self
    have n2 := List.nodup_cons.1 nd
    have z := nodup_len (ys := ys.erase x) n2.2 fun y hy => (List.mem_erase_of_ne fun e => n2.1 (by rw [← e]; exact hy)).2 (h y (List.mem_cons_of_mem _ hy))
    rw [List.length_erase_of_mem hx] at z
    have pos := List.length_pos_of_mem hx
    rw [List.length_cons]
    omega
theorem range_len {n : Nat} {is : List Int} (nd : is.Nodup) (h : ∀ i ∈ is, 0 ≤ i ∧ i < (n : Int)) : is.length ≤ n := by
  have h2 := nodup_len (ys := (List.range n).map Int.ofNat) nd fun i hi => List.mem_map.2 ⟨i.toNat, List.mem_range.2 (by have := h i hi; omega), by
    have := h i hi
    show ((i.toNat : Nat) : Int) = i
    omega⟩
  rw [List.length_map, List.length_range] at h2
  exact h2
theorem MOk.stl {m : Mch} (h : MOk m) : m.st.length ≤ 6 := Nat.le_trans (range_len h.snd h.st) h.n6
theorem MOk.enl {m : Mch} (h : MOk m) : m.en.length ≤ 6 := Nat.le_trans (range_len h.nnd h.en) h.n6
section
variable {K : PySem.W.Frag} {W : WX} {D0 : Hp} {R : Res} {l : List (V × PyData)} {Q : VK} {vs : List V} {H : Hp} {E : XK} {P : Program} {w : World} {L : List (Addr × HO)} {σ : L2.St} {D : Ends}
theorem d_addEdgeOk {a : Addr} {m : Mch} {o t : Int} {c : Nat} (ho : 0 ≤ o ∧ o < m.n) (ht : 0 ≤ t ∧ t < m.n) (hc : c ∈ ([97, 98, 99] : List Nat).take m.k) (hn : (o, c, t) ∉ m.es) (hl : m.es.length < 14)
    (k : RD K D0 (star (mach K a { m with es := m.es ++ [(o, c, t)] }) R) l (Q .non)) : RD K D0 (star (mach K a m) R) l (fun H => sp_Machine_add_edge K [.ref a, .int o, .str (S [c]), .int t] H Q E) := fun N H A => by
  have b1 : between (.int o) 0 (m.n - 1) = true := by
    simp only [between, Bool.and_eq_true, decide_eq_true_eq]
    omega
  have b2 : between (.int t) 0 (m.n - 1) = true := by
    simp only [between, Bool.and_eq_true, decide_eq_true_eq]
    omega
  refine ⟨a, m, o, t, [c], D0, R, l, N, rfl, A, (show 1 ≤ 1000000 by decide), by omega, fun z => absurd (b1.symm.trans z) (by decide), fun _ z => absurd (b2.symm.trans z) (by decide), fun _ _ z => absurd ⟨c, rfl, hc⟩ z, fun c' e hc' _ _ => ?_⟩
  have e : c = c' := by simpa using e
  subst e
  exact ⟨fun z => absurd z hn, fun _ z => absurd z (by omega), fun _ _ => k⟩
theorem d_edOk {c : Mch → Int → Mch} {r : Mch → Int → Bool} {a : Addr} {m : Mch} {i : Int} (h1 : m.st.length ≤ 1000) (h2 : m.en.length ≤ 1000) (hi : 0 ≤ i ∧ i < m.n) (k : RD K D0 (star (mach K a (c m i)) R) l (Q (.bl (r m i)))) :
    RD K D0 (star (mach K a m) R) l (fun H => spEd K c r [.ref a, .int i] H Q E) := by
  have b1 : between (.int i) 0 (m.n - 1) = true := by
    simp only [between, Bool.and_eq_true, decide_eq_true_eq]
    omega
  refine d_ed (.int i) rfl h1 h2 (fun z => absurd (b1.symm.trans z) (by decide)) fun j e _ _ => ?_
  cases e
  exact k
theorem d_behind {a : Addr} {m : Mch} {v : V} {ns : List Int} {c : Nat} (hv : InL l v (.tuple (ns.map .int))) (he : m.es.length ≤ 40) (k : ∀ u, RD K D0 (star (mach K a m) R) ((u, .tuple ((stepI m.es ns c).map .int)) :: l) (Q u)) :
    RD K D0 (star (mach K a m) R) l (fun H => sp_Machine__behind K [.ref a, v, .str (S [c])] H Q E) := fun N H A => ⟨a, m, v, ns, c, D0, R, l, N, rfl, A, hv, he, fun q hq => RD.moreD (same_upd hq) (k (.ref q))⟩
theorem d_behindD {a : Addr} {m : Mch} {v : V} {ns : List Int} {c : Nat} (hv : InL l v (.tuple (ns.map .int))) (he : m.es.length ≤ 40) (k : ∀ q, D0 q = none → RD K (upd D0 q (.tup ((stepI m.es ns c).map V.int))) (star (mach K a m) R) ((.ref q, .tuple ((stepI m.es ns c).map .int)) :: l) (Q (.ref q))) :
    RD K D0 (star (mach K a m) R) l (fun H => sp_Machine__behind K [.ref a, v, .str (S [c])] H Q E) := fun N H A => ⟨a, m, v, ns, c, D0, R, l, N, rfl, A, hv, he, k⟩
theorem d_startsD {a : Addr} {m : Mch} {EX : XK} (nd : m.st.Nodup) (k : ∀ q, D0 q = none → RD K (upd D0 q (.tup ((sortI m.st).map V.int))) (star (mach K a m) R) ((.ref q, .tuple ((sortI m.st).map .int)) :: l) (Q (.ref q))) :
    RD K D0 (star (mach K a m) R) l (fun H => sp_Machine_starts K [.ref a] H Q EX) := fun N H A => ⟨a, m, D0, R, l, N, rfl, A, fun q xs hq hx => by
      have e := iSorted_eq nd
      obtain rfl := hx _ e
      rw [e]
      exact k q hq⟩
/-! ### states_behind, states_after -/
def sp_Machine_states_behind (K : PySem.W.Frag) : Sp := fun vs H Q _ => ∃ (a : Addr) (m : Mch) (v : V) (ns : List Int) (cs : List Nat) (D0 : Hp) (F : Res) (l : List (V × PyData)) (N : Addr → Prop), vs = [.ref a, v, .str (S cs)] ∧ At K D0 (star (mach K a m) F) l N H ∧ InL l v (.tuple (ns.map .int)) ∧ m.es.length ≤ 40 ∧
  ∀ u, RD K D0 (star (mach K a m) F) ((u, .tuple ((walkI m.es ns cs).map .int)) :: l) (Q u)
def t_Machine_states_behind (K : PySem.W.Frag) (W : WX) : TS := (tSeq (tFor (gIt K (tVar 2)) (gName 3) (tAsg (tGM (He.ga K "Machine") "_behind" (sp_Machine__behind K) W (tVar 0) (tCons (tVar 1) (tCons (tVar 3) tNil))) (gName 1)))
  (tRet (tVar 1)))

theorem len_Machine_states_behind (h : sp_Machine_states_behind K vs H Q E) : vs.length = 3 := by
  obtain ⟨_, _, _, _, _, _, _, _, _, rfl, _⟩ := h
  rfl
theorem pure_Machine_states_behind (M : MCls K) (h : sp_Machine_states_behind K vs H Q E) : t_Machine_states_behind K W { nx := fun _ H' => Q .non H', rt := Q } (start ["self", "states", "log", "sign"] vs) H := by
  obtain ⟨a, m, v, ns, cs, D0, F, l, N, rfl, A, hv, he, kk⟩ := h
  refine (?_ : RD K D0 (star (mach K a m) F) l (fun H => t_Machine_states_behind K W _ [some (.ref a), some v, some (.str (S cs)), none] H)) N H A
  unfold t_Machine_states_behind
  walk_at "go"
  refine d_forStr (fun i R' σ' l' => R' = star (mach K a m) F ∧ ∃ (u : V) (x : Option V), σ' = [some (.ref a), some u, some (.str (S cs)), x] ∧ InL l' u (.tuple ((walkI m.es ns (cs.take i)).map .int)) ∧ ∀ p ∈ l, InL l' p.1 p.2) ?_ ?_ ?_
  · exact ⟨rfl, v, none, rfl, hv, sub_refl⟩
  · rintro i c R' σ' l' hc ⟨rfl, u, x, rfl, hu, sub⟩
    rw [S_tl] at hc
    walk_at "go"
    refine d_kGM (fun _ _ _ => rfl) ?_
    walk_at "go"
    refine d_behind (c := c) hu he fun u2 => ?_
    walk_at "go"
    dsimp only
    refine d_end (l' := (u2, .tuple ((stepI m.es (walkI m.es ns (cs.take i)) c).map .int)) :: l') ?_ sub_refl
    refine ⟨rfl, u2, _, rfl, ?_, fun p hp => (sub p hp).tail⟩
    have e : walkI m.es ns (cs.take (i + 1)) = stepI m.es (walkI m.es ns (cs.take i)) c := by
      unfold walkI
      rw [List.take_succ, hc, List.foldl_append]
      rfl
    rw [e]
    exact .mem (List.Mem.head _)
  · rintro R' σ' l' ⟨rfl, u, x, rfl, hu, sub⟩
    rw [S_tl, List.take_length] at hu
    walk_at "go"
    exact RD.weak (sub_cons hu sub) (kk u)
theorem d_statesBehind {a : Addr} {m : Mch} {v : V} {ns : List Int} {cs : List Nat} (hv : InL l v (.tuple (ns.map .int))) (he : m.es.length ≤ 40) (k : ∀ u, RD K D0 (star (mach K a m) R) ((u, .tuple ((walkI m.es ns cs).map .int)) :: l) (Q u)) :
    RD K D0 (star (mach K a m) R) l (fun H => sp_Machine_states_behind K [.ref a, v, .str (S cs)] H Q E) := fun N H A => ⟨a, m, v, ns, cs, D0, R, l, N, rfl, A, hv, he, k⟩
/-- the states behind a log -/
def afterI (m : Mch) (cs : List Nat) : List Int := walkI m.es (sortI m.st) cs
def sp_Machine_states_after (K : PySem.W.Frag) : Sp := fun vs H Q _ => ∃ (a : Addr) (m : Mch) (cs : List Nat) (D0 : Hp) (F : Res) (l : List (V × PyData)) (N : Addr → Prop), vs = [.ref a, .str (S cs)] ∧ At K D0 (star (mach K a m) F) l N H ∧ MOk m ∧
  ∀ u, RD K D0 (star (mach K a m) F) ((u, .tuple ((afterI m cs).map .int)) :: l) (Q u)
def t_Machine_states_after (K : PySem.W.Frag) (W : WX) : TS := (tRet (tGM (He.ga K "Machine") "states_behind" (sp_Machine_states_behind K) W (tVar 0) (tCons (tGM (He.ga K "Machine") "starts" (sp_Machine_starts K) W (tVar 0) tNil) (tCons (tVar 1) tNil))))

theorem len_Machine_states_after (h : sp_Machine_states_after K vs H Q E) : vs.length = 2 := by
  obtain ⟨_, _, _, _, _, _, _, rfl, _⟩ := h
  rfl
theorem d_startsI {a : Addr} {m : Mch} (nd : m.st.Nodup) (k : ∀ v, RD K D0 (star (mach K a m) R) ((v, .tuple ((sortI m.st).map .int)) :: l) (Q v)) : RD K D0 (star (mach K a m) R) l (fun H => sp_Machine_starts K [.ref a] H Q E) :=
  d_starts (by rw [iSorted_eq nd]; exact k)
theorem d_endsI {a : Addr} {m : Mch} (nd : m.en.Nodup) (k : ∀ v, RD K D0 (star (mach K a m) R) ((v, .tuple ((sortI m.en).map .int)) :: l) (Q v)) : RD K D0 (star (mach K a m) R) l (fun H => sp_Machine_ends K [.ref a] H Q E) :=
  d_ends (by rw [iSorted_eq nd]; exact k)
theorem pure_Machine_states_after (M : MCls K) (h : sp_Machine_states_after K vs H Q E) : t_Machine_states_after K W { nx := fun _ H' => Q .non H', rt := Q } (start ["self", "log"] vs) H := by
  obtain ⟨a, m, cs, D0, F, l, N, rfl, A, mo, kk⟩ := h
  refine (?_ : RD K D0 (star (mach K a m) F) l (fun H => t_Machine_states_after K W _ [some (.ref a), some (.str (S cs))] H)) N H A
  unfold t_Machine_states_after
  walk_at "go"
  refine d_kGM (fun _ _ _ => rfl) ?_
  walk_at "go"
  refine d_kGM (fun _ _ _ => rfl) ?_
  walk_at "go"
  refine d_startsI mo.snd fun u => ?_
  walk_at "go"
  refine d_statesBehind (InL.mem (List.Mem.head _)) (Nat.le_trans mo.len (by decide)) fun u2 => ?_
  exact RD.weak (by walk_at "sub") (kk u2)
theorem d_statesAfter {a : Addr} {m : Mch} {cs : List Nat} (mo : MOk m) (k : ∀ u, RD K D0 (star (mach K a m) R) ((u, .tuple ((afterI m cs).map .int)) :: l) (Q u)) : RD K D0 (star (mach K a m) R) l (fun H => sp_Machine_states_after K [.ref a, .str (S cs)] H Q E) :=
  fun N H A => ⟨a, m, cs, D0, R, l, N, rfl, A, mo, k⟩
/-! ### has_log -/
def sp_Machine_holds_end (K : PySem.W.Frag) : Sp := fun vs H Q _ => ∃ (a : Addr) (m : Mch) (v : V) (ns : List Int) (D0 : Hp) (F : Res) (l : List (V × PyData)) (N : Addr → Prop), vs = [.ref a, v] ∧ At K D0 (star (mach K a m) F) l N H ∧ InL l v (.tuple (ns.map .int)) ∧ ns.length ≤ 1000 ∧
  RD K D0 (star (mach K a m) F) l (Q (.bl (ns.any fun i => decide (i ∈ m.en))))
def t_Machine_holds_end (K : PySem.W.Frag) (W : WX) : TS := (tRet (tCB (rAny K) (tCons (tLc (gIt K (tVar 1)) (gName 2) tYes (tDIn (tVar 2) (tFld K (tVar 0) "_ends")) [2]) tNil)))

theorem len_Machine_holds_end (h : sp_Machine_holds_end K vs H Q E) : vs.length = 2 := by
  obtain ⟨_, _, _, _, _, _, _, _, rfl, _⟩ := h
  rfl
theorem pure_Machine_holds_end (M : MCls K) (h : sp_Machine_holds_end K vs H Q E) : t_Machine_holds_end K W { nx := fun _ H' => Q .non H', rt := Q } (start ["self", "states", "state"] vs) H := by
  obtain ⟨a, m, v, ns, D0, F, l, N, rfl, A, hv, hl, kk⟩ := h
  refine (?_ : RD K D0 (star (mach K a m) F) l (fun H => t_Machine_holds_end K W _ [some (.ref a), some v, none] H)) N H A
  unfold t_Machine_holds_end
  walk_at "go"
  refine openMach fun dx ed sd td nd5 => ?_
  refine d_lcTup1 hv (fun i es => es = (ns.take i).map fun s => PyData.bool (decide (s ∈ m.en))) rfl ?_ ?_
  · rintro i d x Dd es hd dv rfl
    rw [List.getElem?_map] at hd
    obtain ⟨s, hs, rfl⟩ := Option.map_eq_some_iff.1 hd
    obtain rfl : x = .int s := dv
    walk_at "go"
    refine RD.rot ?_
    refine d_fld (List.Mem.head _) M.c M.n5 (v := .ref td) rfl ?_
    refine d_dinK (neg := false) (key := .inl s) in_mN ?_
    refine RD.rot ?_
    rw [if_neg (by decide), val_is]
    refine d_item1 (d := .bool (decide (s ∈ m.en))) (.bl _) ?_ ?_ (by walk_at "sub")
    · have : ((ns.take i).map fun s => PyData.bool (decide (s ∈ m.en))).length ≤ 1000 := by
        rw [List.length_map, List.length_take]
        omega
      exact Nat.lt_of_le_of_lt this (Nat.lt_of_lt_of_le (by decide) line_big)
    · rw [List.take_succ, hs]
      simp
  · rintro u es rfl
    rw [List.length_map, List.take_length]
    walk_at "go"
    refine d_any (bs := ns.map fun s => decide (s ∈ m.en)) (InL.mem (by rw [List.map_map]; exact List.Mem.head _)) ?_
    refine closeMach nd5 ?_
    refine RD.forget ?_
    have e : (ns.map fun s => decide (s ∈ m.en)).any id = ns.any fun i => decide (i ∈ m.en) := by
      rw [List.any_map]
      rfl
    rw [e]
    exact kk
theorem d_holdsEnd {a : Addr} {m : Mch} {v : V} {ns : List Int} (hv : InL l v (.tuple (ns.map .int))) (hl : ns.length ≤ 1000) (k : RD K D0 (star (mach K a m) R) l (Q (.bl (ns.any fun i => decide (i ∈ m.en))))) :
    RD K D0 (star (mach K a m) R) l (fun H => sp_Machine_holds_end K [.ref a, v] H Q E) := fun N H A => ⟨a, m, v, ns, D0, R, l, N, rfl, A, hv, hl, k⟩
theorem stepI_len (es : List (Int × Nat × Int)) (ns : List Int) (c : Nat) : (stepI es ns c).length ≤ es.length := by
  have key : ∀ l : List Int, (sortI l).length ≤ l.length := fun l => by
    induction l with
    | nil => exact Nat.le_refl _
    | cons x r ih =>
      have ins : ∀ (y : Int) (m : List Int), (insI y m).length ≤ m.length + 1 := fun y m => by
        induction m with
        | nil => exact Nat.le_refl _
        | cons z m ihm =>
          unfold insI
          split
          · exact Nat.le_refl _
          · split
            · exact Nat.le_succ _
            · exact Nat.succ_le_succ ihm
      exact Nat.le_trans (ins x (sortI r)) (Nat.succ_le_succ ih)
  refine Nat.le_trans (key _) ?_
  rw [List.length_map]
  exact List.length_filter_le _ _
theorem walkI_len {es : List (Int × Nat × Int)} {ns : List Int} (cs : List Nat) (h : ns.length ≤ 1000) (he : es.length ≤ 1000) : (walkI es ns cs).length ≤ 1000 := by
  unfold walkI
  induction cs generalizing ns with
  | nil => exact h
  | cons c cs ih => exact ih (Nat.le_trans (stepI_len _ _ _) he)
theorem sortI_len (l : List Int) : (sortI l).length ≤ l.length := by
  have h := stepI_len (l.map fun i => (0, 0, i)) [0] 0
  have e : stepI (l.map fun i => (0, 0, i)) [0] 0 = sortI l := by
    unfold stepI
    rw [List.filter_eq_self.2 (fun e he => by
      obtain ⟨i, _, rfl⟩ := List.mem_map.1 he
      simp), List.map_map]
    show sortI (l.map ((fun e : Int × Nat × Int => e.2.2) ∘ fun i : Int => ((0 : Int), (0 : Nat), i))) = sortI l
    rw [show ((fun e : Int × Nat × Int => e.2.2) ∘ fun i : Int => ((0 : Int), (0 : Nat), i)) = id from rfl, List.map_id]
  rw [e, List.length_map] at h
  exact h
def hasI (m : Mch) (cs : List Nat) : Bool := (afterI m cs).any fun i => decide (i ∈ m.en)
def sp_Machine_has_log (K : PySem.W.Frag) : Sp := fun vs H Q _ => ∃ (a : Addr) (m : Mch) (cs : List Nat) (D0 : Hp) (F : Res) (l : List (V × PyData)) (N : Addr → Prop), vs = [.ref a, .str (S cs)] ∧ At K D0 (star (mach K a m) F) l N H ∧ MOk m ∧
  RD K D0 (star (mach K a m) F) l (Q (.bl (hasI m cs)))
def t_Machine_has_log (K : PySem.W.Frag) (W : WX) : TS := (tRet (tGM (He.ga K "Machine") "holds_end" (sp_Machine_holds_end K) W (tVar 0) (tCons (tGM (He.ga K "Machine") "states_after" (sp_Machine_states_after K) W (tVar 0) (tCons (tVar 1) tNil)) tNil)))

theorem len_Machine_has_log (h : sp_Machine_has_log K vs H Q E) : vs.length = 2 := by
  obtain ⟨_, _, _, _, _, _, _, rfl, _⟩ := h
  rfl
theorem pure_Machine_has_log (M : MCls K) (h : sp_Machine_has_log K vs H Q E) : t_Machine_has_log K W { nx := fun _ H' => Q .non H', rt := Q } (start ["self", "log"] vs) H := by
  obtain ⟨a, m, cs, D0, F, l, N, rfl, A, mo, kk⟩ := h
  refine (?_ : RD K D0 (star (mach K a m) F) l (fun H => t_Machine_has_log K W _ [some (.ref a), some (.str (S cs))] H)) N H A
  unfold t_Machine_has_log
  walk_at "go"
  refine d_kGM (fun _ _ _ => rfl) ?_
  walk_at "go"
  refine d_kGM (fun _ _ _ => rfl) ?_
  walk_at "go"
  refine d_statesAfter mo fun u => ?_
  walk_at "go"
  refine d_holdsEnd (ns := afterI m cs) (InL.mem (List.Mem.head _)) ?_ ?_
  · exact walkI_len cs (Nat.le_trans (sortI_len _) (Nat.le_trans mo.stl (by decide))) (Nat.le_trans mo.len (by decide))
  · exact RD.forget kk
theorem d_hasLog {a : Addr} {m : Mch} {cs : List Nat} (mo : MOk m) (k : RD K D0 (star (mach K a m) R) l (Q (.bl (hasI m cs)))) : RD K D0 (star (mach K a m) R) l (fun H => sp_Machine_has_log K [.ref a, .str (S cs)] H Q E) :=
  fun N H A => ⟨a, m, cs, D0, R, l, N, rfl, A, mo, k⟩
end
end GL

/-! M5: twins of machines. -/
namespace GL
open PySem PySem.Spec L2
open PyProof.Rows hiding St
open SX (S)
local macro_rules | `(tactic| walk_at "mem") => `(tactic| (first | exact List.Mem.head _ | exact List.Mem.tail _ (List.Mem.head _) | exact List.Mem.tail _ (List.Mem.tail _ (List.Mem.head _)) | ((repeat (first | exact List.Mem.head _ | apply List.Mem.tail)); done)))
local macro_rules | `(tactic| walk_at "inl") => `(tactic| (first | exact InL.int _ | exact InL.str _ | exact InL.bl _ | exact InL.non | (refine InL.mem ?zm; walk_at "mem") | assumption))
local macro_rules | `(tactic| walk_at "inls") => `(tactic| (repeat (first | exact InLs.nil | (refine InLs.cons ?zi ?_; case zi => walk_at "inl"))))
local macro_rules | `(tactic| walk_at "set") => `(tactic| (simp only [wipe, List.set_cons_succ, List.set_cons_zero]; rfl))
local macro_rules | `(tactic| walk_at "tails") => `(tactic| (first | exact sub_refl | exact sub_tail sub_refl | exact sub_tail (sub_tail sub_refl) | exact sub_nil | ((repeat (first | exact sub_refl | apply sub_tail)); done)))
local macro_rules | `(tactic| walk_at "sub") => `(tactic| (first | walk_at "tails" | ((repeat (refine sub_cons ?zi ?_; case zi => walk_at "inl")); walk_at "tails")))
local macro_rules | `(tactic| walk_at "g1") => `(tactic| (first
  | with_reducible refine d_seq ?_
  | with_reducible refine d_asg ?_
  | ((with_reducible refine d_name (σ' := ?zs) ?zh ?_); (case zh => walk_at "set"))
  | ((with_reducible refine d_var (v := ?zs) ?zh ?_); (case zh => rfl))
  | with_reducible refine d_C ?_
  | with_reducible refine d_op ?_
  | with_reducible refine d_cons ?_
  | with_reducible refine d_nil ?_
  | with_reducible refine d_cb ?_
  | with_reducible refine d_g ?_
  | with_reducible refine d_ifS ?_
  | with_reducible refine d_test ?_
  | with_reducible refine d_bl ?_
  | with_reducible refine d_addI ?_
  | with_reducible refine d_I0 ?_
  | with_reducible refine d_ret ?_
  | with_reducible refine d_retN ?_
  | with_reducible refine d_next ?_
  | with_reducible refine d_drop ?_
  | with_reducible refine d_and ?_
  | with_reducible refine d_or ?_
  | with_reducible refine d_not ?_
  | with_reducible refine d_andV ?_
  | with_reducible refine d_orV ?_
  | with_reducible refine d_notV ?_
  | with_reducible refine d_tru ?_
  | with_reducible refine d_truB ?_
  | with_reducible refine d_tif ?_
  | with_reducible refine d_iteT ?_
  | with_reducible refine d_iteF ?_
  | with_reducible refine d_iteNT ?_
  | with_reducible refine d_iteNF ?_
  | with_reducible refine d_eqI ?_
  | with_reducible refine d_neI ?_
  | with_reducible refine d_eqS ?_
  | with_reducible refine d_neS ?_
  | with_reducible refine d_eqB ?_
  | with_reducible refine d_neB ?_
  | with_reducible refine d_isN ?_
  | with_reducible refine d_notN ?_
  | with_reducible refine d_bm ?_
  | with_reducible refine d_tyS ?_
  | with_reducible refine d_tyO ?_
  | with_reducible refine d_find3 ?_
  | with_reducible refine d_tup ?_
  | with_reducible refine d_lst ?_
  | with_reducible refine d_for ?_
  | with_reducible refine d_iRng1 ?_
  | with_reducible refine d_gIt ?_
  | with_reducible refine d_lc ?_
  | with_reducible refine d_yes ?_
  | with_reducible refine d_tSl ?_
  | with_reducible refine d_noPart ?_
  | with_reducible refine d_part ?_
  | with_reducible refine d_int ?_
  | ((with_reducible refine d_wipe ?zh ?_); (case zh => rfl))
  | ((with_reducible refine d_aug (v := ?zs) ?zh ?_); (case zh => rfl))
  | with_reducible refine d_ipI ?_
  | ((with_reducible refine d_set (σ' := ?zs) ?zh ?_); (case zh => walk_at "set"))))
local macro_rules | `(tactic| walk_at "go") => `(tactic| (repeat walk_at "g1"))
local macro_rules | `(tactic| walk_at "g1") => `(tactic| (first
  | with_reducible refine d_chain ?_
  | with_reducible refine d_tB ?_
  | with_reducible refine d_tGM ?_
  | with_reducible refine d_tGN ?_
  | with_reducible refine d_rz ?_
  | with_reducible refine d_tXf ?_
  | with_reducible refine d_tFld ?_
  | with_reducible refine d_sFld ?_
  | with_reducible refine d_tMix ?_
  | with_reducible refine d_tDIn ?_
  | with_reducible refine d_tDNotIn ?_
  | with_reducible refine d_sDPut ?_
  | with_reducible refine d_sDDelT ?_
  | with_reducible refine d_tSet ?_
  | with_reducible refine d_gcons ?_
  | with_reducible refine d_gnil ?_
  | with_reducible refine d_iKeys ?_))
theorem MOk.chars {m : Mch} (h : MOk m) {e : Int × Nat × Int} (he : e ∈ m.es) : (0 ≤ e.1 ∧ e.1 < m.n) ∧ e.2.1 ∈ ([97, 98, 99] : List Nat).take m.k ∧ (0 ≤ e.2.2 ∧ e.2.2 < m.n) := h.ed e he
def twinM (m : Mch) : Mch := ⟨m.k, m.n, sortE m.es, sortI m.st, sortI m.en⟩
theorem twin_ok {m : Mch} (h : MOk m) : MOk (twinM m) where
  k1 := h.k1
  k3 := h.k3
  n1 := h.n1
  n6 := h.n6
  len := by rw [show (twinM m).es.length = m.es.length from (sortE_perm m.es).length_eq]; exact h.len
  nd := (sortE_perm m.es).nodup_iff.2 h.nd
  ed := fun e he => h.ed e ((sortE_perm m.es).mem_iff.1 he)
  snd := nodup_sortI _
  st := fun i hi => h.st i (mem_sortI.1 hi)
  nnd := nodup_sortI _
  en := fun i hi => h.en i (mem_sortI.1 hi)
theorem take_new {α : Type} {xs : List α} {i : Nat} {x : α} (nd : xs.Nodup) (h : xs[i]? = some x) : x ∉ xs.take i := by
  obtain ⟨hi, rfl⟩ := List.getElem?_eq_some_iff.1 h
  intro z
  obtain ⟨j, hj, e⟩ := List.getElem_of_mem z
  rw [List.length_take] at hj
  rw [List.getElem_take] at e
  exact (List.pairwise_iff_getElem.1 (List.nodup_iff_pairwise_ne.1 nd)) j i (by omega) hi (by omega) e
section
variable {K : PySem.W.Frag} {W : WX} {D0 : Hp} {R : Res} {l : List (V × PyData)} {Q : VK} {vs : List V} {H : Hp} {E : XK} {P : Program} {w : World} {L : List (Addr × HO)} {σ : L2.St} {D : Ends}
theorem d_edgesE {a : Addr} {m : Mch} (k : ∀ v, RD K D0 (star (mach K a m) R) ((v, .tuple ((sortE m.es).map eD)) :: l) (Q v)) : RD K D0 (star (mach K a m) R) l (fun H => sp_Machine_edges K [.ref a] H Q E) :=
  fun N H A => ⟨a, m, D0, R, l, N, rfl, A, by rw [eSorted_eq]; exact k⟩
def sp_Machine_twin (K : PySem.W.Frag) : Sp := fun vs H Q _ => ∃ (a : Addr) (m : Mch) (D0 : Hp) (F : Res) (l : List (V × PyData)) (N : Addr → Prop), vs = [.ref a] ∧ At K D0 (star (mach K a m) F) l N H ∧ MOk m ∧
  ∀ x, RD K D0 (star (mach K x (twinM m)) (star (mach K a m) F)) l (Q (.ref x))
def t_Machine_twin (K : PySem.W.Frag) (W : WX) : TS := (tSeq (tAsg (tGN (He.ga K "Machine") (sp_Machine___init__ K) W (tCons (tFld K (tVar 0) "signs") (tCons (tFld K (tVar 0) "states") tNil))) (gName 1))
  (tSeq (tFor (gIt K (tGM (He.ga K "Machine") "edges" (sp_Machine_edges K) W (tVar 0) tNil)) (gTup K 3 (gCons (gName 2) (gCons (gName 3) (gCons (gName 4) gNil)))) (tDrop (tGM (He.ga K "Machine") "add_edge" (sp_Machine_add_edge K) W (tVar 1) (tCons (tVar 2) (tCons (tVar 3) (tCons (tVar 4) tNil))))))
  (tSeq (tFor (gIt K (tGM (He.ga K "Machine") "starts" (sp_Machine_starts K) W (tVar 0) tNil)) (gName 5) (tDrop (tGM (He.ga K "Machine") "add_start" (sp_Machine_add_start K) W (tVar 1) (tCons (tVar 5) tNil))))
  (tSeq (tFor (gIt K (tGM (He.ga K "Machine") "ends" (sp_Machine_ends K) W (tVar 0) tNil)) (gName 5) (tDrop (tGM (He.ga K "Machine") "add_end" (sp_Machine_add_end K) W (tVar 1) (tCons (tVar 5) tNil))))
  (tRet (tVar 1))))))

theorem len_Machine_twin (h : sp_Machine_twin K vs H Q E) : vs.length = 1 := by
  obtain ⟨_, _, _, _, _, _, rfl, _⟩ := h
  rfl
theorem d_twin {a : Addr} {m : Mch} (mo : MOk m) (k : ∀ x, RD K D0 (star (mach K x (twinM m)) (star (mach K a m) R)) l (Q (.ref x))) : RD K D0 (star (mach K a m) R) l (fun H => sp_Machine_twin K [.ref a] H Q E) :=
  fun N H A => ⟨a, m, D0, R, l, N, rfl, A, mo, k⟩
theorem pure_Machine_twin (M : MCls K) (h : sp_Machine_twin K vs H Q E) : t_Machine_twin K W { nx := fun _ H' => Q .non H', rt := Q } (start ["self", "other", "origin", "sign", "target", "state"] vs) H := by
  obtain ⟨a, m, D0, F, l, N, rfl, A, mo, kk⟩ := h
  refine (?_ : RD K D0 (star (mach K a m) F) l (fun H => t_Machine_twin K W _ [some (.ref a), none, none, none, none, none] H)) N H A
  have mo2 := twin_ok mo
  unfold t_Machine_twin
  walk_at "go"
  refine openMach fun dx ed sd td nd5 => ?_
  refine d_fld (List.Mem.head _) M.c M.n1 (v := .int m.k) rfl ?_
  walk_at "go"
  refine d_fld (List.Mem.head _) M.c M.n2 (v := .int m.n) rfl ?_
  walk_at "go"
  refine closeMach nd5 ?_
  have bk : between (.int m.k) 1 3 = true := by
    have := mo.k1
    have := mo.k3
    simp only [between, Bool.and_eq_true, decide_eq_true_eq]
    omega
  have bn : between (.int m.n) 1 6 = true := by
    have := mo.n1
    have := mo.n6
    simp only [between, Bool.and_eq_true, decide_eq_true_eq]
    omega
  refine d_make (.int _) rfl (.int _) rfl (fun z => absurd (bk.symm.trans z) (by decide)) (fun _ z => absurd (bn.symm.trans z) (by decide)) fun x k n ek en _ _ _ _ => ?_
  have ek : m.k = k := by injection ek with ek; omega
  have en : m.n = n := by injection en with en; omega
  subst ek en
  walk_at "go"
  refine RD.rot ?_
  refine d_kGM (fun _ _ _ => rfl) ?_
  walk_at "go"
  refine d_edgesE fun u => ?_
  refine RD.rot ?_
  refine d_forTup (v := u) (ds := (sortE m.es).map eD) (InL.mem (List.Mem.head _)) (fun i R' σ' l' => R' = star (mach K x ⟨m.k, m.n, (sortE m.es).take i, [], []⟩) (star (mach K a m) F) ∧
    (∃ v2 v3 v4 : Option V, σ' = [some (.ref a), some (.ref x), v2, v3, v4, none]) ∧ ∀ p ∈ (u, .tuple ((sortE m.es).map eD)) :: l, InL l' p.1 p.2) (fun i R' σ' l' h => h.2.2 _ List.mem_cons_self) ?_ ?_ ?_
  · exact ⟨rfl, ⟨none, none, none, rfl⟩, sub_refl⟩
  · rintro i d y R' σ' l' hd dv ⟨rfl, ⟨v2, v3, v4, rfl⟩, sub⟩
    rw [List.getElem?_map] at hd
    obtain ⟨⟨o, c, t⟩, he, rfl⟩ := Option.map_eq_some_iff.1 hd
    obtain ⟨h1, h2, h3⟩ := mo2.ed (o, c, t) (List.mem_of_getElem? he)
    have hi := (List.getElem?_eq_some_iff.1 he).1
    have ln := mo2.len
    refine d_gEdge (o := o) (s := S [c]) (t := t) (InL.mem (List.Mem.head _)) ?_
    walk_at "go"
    refine d_kGM (fun _ _ _ => rfl) ?_
    walk_at "go"
    refine d_addEdgeOk h1 h3 h2 (take_new mo2.nd he) ?_ ?_
    · have : (twinM m).es.length = (sortE m.es).length := rfl
      rw [List.length_take]
      omega
    · have e : (sortE m.es).take i ++ [(o, c, t)] = (sortE m.es).take (i + 1) := by
        rw [List.take_succ, he]
        rfl
      rw [e]
      dsimp only
      refine d_end (l' := l') ⟨rfl, ⟨_, _, _, rfl⟩, sub⟩ (by walk_at "sub")
  · rintro R' σ' l1 ⟨rfl, ⟨v2, v3, v4, rfl⟩, sub1⟩
    rw [List.length_map, List.take_length]
    have sub1' : ∀ p ∈ l, InL l1 p.1 p.2 := fun p hp => sub1 p (List.mem_cons_of_mem _ hp)
    walk_at "go"
    refine RD.rot ?_
    refine d_kGM (fun _ _ _ => rfl) ?_
    walk_at "go"
    refine d_startsI mo.snd fun u1 => ?_
    refine RD.rot ?_
    refine d_forTup (v := u1) (ds := (sortI m.st).map .int) (InL.mem (List.Mem.head _)) (fun i R' σ' l' => R' = star (mach K x ⟨m.k, m.n, sortE m.es, (sortI m.st).take i, []⟩) (star (mach K a m) F) ∧
      (∃ v2 v3 v4 v5 : Option V, σ' = [some (.ref a), some (.ref x), v2, v3, v4, v5]) ∧ ∀ p ∈ (u1, .tuple ((sortI m.st).map .int)) :: l, InL l' p.1 p.2) (fun i R' σ' l' h => h.2.2 _ List.mem_cons_self) ?_ ?_ ?_
    · exact ⟨rfl, ⟨_, _, _, _, rfl⟩, sub_cons (InL.mem (List.Mem.head _)) fun p hp => (sub1' p hp).tail⟩
    · rintro i d y R' σ' l' hd dv ⟨rfl, ⟨v2, v3, v4, v5, rfl⟩, sub⟩
      rw [List.getElem?_map] at hd
      obtain ⟨s, hs, rfl⟩ := Option.map_eq_some_iff.1 hd
      obtain rfl : y = .int s := dv
      have hm := mo2.st s (List.mem_of_getElem? hs)
      have sl := mo2.stl
      have hl : ((sortI m.st).take i).length ≤ 1000 := by
        have : (twinM m).st.length = (sortI m.st).length := rfl
        rw [List.length_take]
        omega
      walk_at "go"
      refine d_kGM (fun _ _ _ => rfl) ?_
      walk_at "go"
      refine d_edOk hl (Nat.zero_le _) hm ?_
      have e : addI ((sortI m.st).take i) s = (sortI m.st).take (i + 1) := by
        unfold addI
        rw [if_neg (take_new (nodup_sortI _) hs), List.take_succ, hs]
        rfl
      dsimp only
      rw [e]
      refine d_end (l' := l') ⟨rfl, ⟨_, _, _, _, rfl⟩, sub⟩ (by walk_at "sub")
    · rintro R' σ' l2 ⟨rfl, ⟨v2, v3, v4, v5, rfl⟩, sub2⟩
      rw [List.length_map, List.take_length]
      have sub2' : ∀ p ∈ l, InL l2 p.1 p.2 := fun p hp => sub2 p (List.mem_cons_of_mem _ hp)
      walk_at "go"
      refine RD.rot ?_
      refine d_kGM (fun _ _ _ => rfl) ?_
      walk_at "go"
      refine d_endsI mo.nnd fun u2 => ?_
      refine RD.rot ?_
      refine d_forTup (v := u2) (ds := (sortI m.en).map .int) (InL.mem (List.Mem.head _)) (fun i R' σ' l' => R' = star (mach K x ⟨m.k, m.n, sortE m.es, sortI m.st, (sortI m.en).take i⟩) (star (mach K a m) F) ∧
        (∃ v2 v3 v4 v5 : Option V, σ' = [some (.ref a), some (.ref x), v2, v3, v4, v5]) ∧ ∀ p ∈ (u2, .tuple ((sortI m.en).map .int)) :: l, InL l' p.1 p.2) (fun i R' σ' l' h => h.2.2 _ List.mem_cons_self) ?_ ?_ ?_
      · exact ⟨rfl, ⟨_, _, _, _, rfl⟩, sub_cons (InL.mem (List.Mem.head _)) fun p hp => (sub2' p hp).tail⟩
      · rintro i d y R' σ' l' hd dv ⟨rfl, ⟨v2, v3, v4, v5, rfl⟩, sub⟩
        rw [List.getElem?_map] at hd
        obtain ⟨s, hs, rfl⟩ := Option.map_eq_some_iff.1 hd
        obtain rfl : y = .int s := dv
        have hm := mo2.en s (List.mem_of_getElem? hs)
        have sl := mo2.enl
        have tl := mo2.stl
        have hl : ((sortI m.en).take i).length ≤ 1000 := by
          have : (twinM m).en.length = (sortI m.en).length := rfl
          rw [List.length_take]
          omega
        have hl2 : (sortI m.st).length ≤ 1000 := Nat.le_trans tl (by decide)
        walk_at "go"
        refine d_kGM (fun _ _ _ => rfl) ?_
        walk_at "go"
        refine d_edOk hl2 hl hm ?_
        have e : addI ((sortI m.en).take i) s = (sortI m.en).take (i + 1) := by
          unfold addI
          rw [if_neg (take_new (nodup_sortI _) hs), List.take_succ, hs]
          rfl
        dsimp only
        rw [e]
        refine d_end (l' := l') ⟨rfl, ⟨_, _, _, _, rfl⟩, sub⟩ (by walk_at "sub")
      · rintro R' σ' l3 ⟨rfl, ⟨v2, v3, v4, v5, rfl⟩, sub3⟩
        rw [List.length_map, List.take_length]
        walk_at "go"
        exact RD.weak (fun p hp => sub3 p (List.mem_cons_of_mem _ hp)) (kk x)
end
end GL

/-! I3: data whose repr fits; ints in order. -/
namespace GL
open PySem PySem.Spec L2
open PyProof.Rows hiding St
open SX (S)
/-- repr fits: nested at most g deep, at most n signs and items -/
structure Fine (d : PyData) (g n : Nat) : Prop where
  s : d.showable = true
  dp : d.depth ≤ g
  lv : d.leavesShort 13 = true
  bk : d.bulk ≤ n
  nd : d.hasDict = false
structure Fines (ds : List PyData) (g n : Nat) : Prop where
  s : PyData.showableAll ds = true
  dp : PyData.depthAll ds ≤ g
  lv : PyData.leavesShortAll 13 ds = true
  bk : PyData.bulkAll ds ≤ n
  nd : PyData.hasDictAll ds = false
theorem Fine.weak {d : PyData} {g n g' n' : Nat} (h : Fine d g n) (h1 : g ≤ g') (h2 : n ≤ n') : Fine d g' n' := ⟨h.s, Nat.le_trans h.dp h1, h.lv, Nat.le_trans h.bk h2, h.nd⟩
theorem Fine.none : Fine .none 0 0 := ⟨rfl, Nat.le_refl _, rfl, Nat.le_refl _, rfl⟩
theorem Fine.bool (b : Bool) : Fine (.bool b) 0 0 := ⟨rfl, Nat.le_refl _, rfl, Nat.le_refl _, rfl⟩
theorem Fine.str {cs : List Nat} (h : ∀ c ∈ cs, c < 16 ^ 8) : Fine (.str (S cs)) 0 cs.length :=
  ⟨by simp only [PyData.showable], by simp only [PyData.depth]; exact Nat.le_refl _, by simpa [PyData.leavesShort] using h, by simp [PyData.bulk], by simp only [PyData.hasDict]⟩
def okInt (i : Int) : Bool := (PyData.int i).showable && (PyData.int i).leavesShort 13
theorem Fine.int0 {i : Int} (h : okInt i = true) : Fine (.int i) 0 0 := by
  unfold okInt at h
  rw [Bool.and_eq_true] at h
  exact ⟨h.1, by simp only [PyData.depth]; exact Nat.le_refl _, h.2, by simp only [PyData.bulk]; exact Nat.le_refl _, by simp only [PyData.hasDict]⟩
theorem okInt_small : ∀ n : Fin 1000, okInt ((n : Nat) : Int) = true := by decide +kernel
theorem Fine.int {n : Nat} (h : n < 1000) : Fine (.int (n : Int)) 0 0 := Fine.int0 (okInt_small ⟨n, h⟩)
def fineB (d : PyData) (g n : Nat) : Bool := d.showable && (decide (d.depth ≤ g) && (d.leavesShort 13 && (decide (d.bulk ≤ n) && !d.hasDict)))
theorem Fine.ofB {d : PyData} {g n : Nat} (h : fineB d g n = true) : Fine d g n := by
  unfold fineB at h
  simp only [Bool.and_eq_true, decide_eq_true_eq, Bool.not_eq_true'] at h
  exact ⟨h.1, h.2.1, h.2.2.1, h.2.2.2.1, h.2.2.2.2⟩
theorem Fine.okB {ds : List PyData} {g n : Nat} (h : (ds.all fun d => fineB d g n) = true) : ∀ d ∈ ds, Fine d g n := fun d hd => Fine.ofB (List.all_eq_true.1 h d hd)
theorem Fines.nil {g : Nat} : Fines [] g 0 := ⟨by simp only [PyData.showableAll], by simp only [PyData.depthAll]; exact Nat.zero_le _, by simp only [PyData.leavesShortAll], by simp only [PyData.bulkAll]; exact Nat.le_refl _, by simp only [PyData.hasDictAll]⟩
theorem Fines.cons {d : PyData} {ds : List PyData} {g n m : Nat} (h : Fine d g n) (t : Fines ds g m) : Fines (d :: ds) g (n + 1 + m) :=
  ⟨by simp only [PyData.showableAll, h.s, t.s, Bool.and_self], by simp only [PyData.depthAll]; exact Nat.max_le.2 ⟨h.dp, t.dp⟩, by simp only [PyData.leavesShortAll, h.lv, t.lv, Bool.and_self],
    by simp only [PyData.bulkAll]; have := h.bk; have := t.bk; omega, by simp only [PyData.hasDictAll, h.nd, t.nd, Bool.or_self]⟩
theorem Fines.weakN {ds : List PyData} {g n n' : Nat} (h : Fines ds g n) (h2 : n ≤ n') : Fines ds g n' := ⟨h.s, h.dp, h.lv, Nat.le_trans h.bk h2, h.nd⟩
theorem Fines.weak {ds : List PyData} {g n g' n' : Nat} (h : Fines ds g n) (h1 : g ≤ g') (h2 : n ≤ n') : Fines ds g' n' := ⟨h.s, Nat.le_trans h.dp h1, h.lv, Nat.le_trans h.bk h2, h.nd⟩
theorem Fines.of {g n : Nat} : ∀ {ds : List PyData}, (∀ d ∈ ds, Fine d g n) → Fines ds g (ds.length * (n + 1))
  | [], _ => ⟨(Fines.nil (g := g)).s, Fines.nil.dp, (Fines.nil (g := g)).lv, by simp [PyData.bulkAll], (Fines.nil (g := g)).nd⟩
  | d :: ds, h => by
    have t := Fines.of fun x hx => h x (List.mem_cons_of_mem _ hx)
    have c := Fines.cons (h d List.mem_cons_self) t
    rw [show (d :: ds).length * (n + 1) = n + 1 + ds.length * (n + 1) by rw [List.length_cons, Nat.add_mul]; omega]
    exact c
theorem Fines.tup {ds : List PyData} {g n : Nat} (h : Fines ds g n) : Fine (.tuple ds) (g + 1) n :=
  ⟨by simp only [PyData.showable]; exact h.s, by simp only [PyData.depth]; have := h.dp; omega, by simp only [PyData.leavesShort]; exact h.lv, by simp only [PyData.bulk]; exact h.bk, by simp only [PyData.hasDict]; exact h.nd⟩
theorem Fines.list {ds : List PyData} {g n : Nat} (h : Fines ds g n) : Fine (.list ds) (g + 1) n :=
  ⟨by simp only [PyData.showable]; exact h.s, by simp only [PyData.depth]; have := h.dp; omega, by simp only [PyData.leavesShort]; exact h.lv, by simp only [PyData.bulk]; exact h.bk, by simp only [PyData.hasDict]; exact h.nd⟩
theorem Fine.tup {ds : List PyData} {g n m : Nat} (h : ∀ d ∈ ds, Fine d g n) (hm : ds.length * (n + 1) ≤ m) : Fine (.tuple ds) (g + 1) m := (Fines.of h).tup.weak (Nat.le_refl _) hm
theorem Fine.list {ds : List PyData} {g n m : Nat} (h : ∀ d ∈ ds, Fine d g n) (hm : ds.length * (n + 1) ≤ m) : Fine (.list ds) (g + 1) m := (Fines.of h).list.weak (Nat.le_refl _) hm
theorem Fines.take {g n : Nat} : ∀ {ds : List PyData} (i : Nat), Fines ds g n → Fines (ds.take i) g n
  | _, 0, h => Fines.nil.weakN (Nat.zero_le _)
  | [], i + 1, h => h
  | d :: ds, i + 1, h => by
    obtain ⟨h1, h2, h3, h4, h5⟩ := h
    simp only [PyData.showableAll, Bool.and_eq_true] at h1
    simp only [PyData.depthAll] at h2
    simp only [PyData.leavesShortAll, Bool.and_eq_true] at h3
    simp only [PyData.bulkAll] at h4
    simp only [PyData.hasDictAll, Bool.or_eq_false_iff] at h5
    have h2' := Nat.max_le.1 h2
    have t := Fines.take i (⟨h1.2, h2'.2, h3.2, Nat.le_refl _, h5.2⟩ : Fines ds g (PyData.bulkAll ds))
    rw [List.take_succ_cons]
    exact (Fines.cons ⟨h1.1, h2'.1, h3.1, Nat.le_refl _, h5.1⟩ t).weakN h4
theorem Fines.drop {g n : Nat} : ∀ {ds : List PyData} (i : Nat), Fines ds g n → Fines (ds.drop i) g n
  | _, 0, h => h
  | [], i + 1, h => h
  | d :: ds, i + 1, h => by
    obtain ⟨h1, h2, h3, h4, h5⟩ := h
    simp only [PyData.showableAll, Bool.and_eq_true] at h1
    simp only [PyData.depthAll] at h2
    simp only [PyData.leavesShortAll, Bool.and_eq_true] at h3
    simp only [PyData.bulkAll] at h4
    simp only [PyData.hasDictAll, Bool.or_eq_false_iff] at h5
    have h2' := Nat.max_le.1 h2
    rw [List.drop_succ_cons]
    exact Fines.drop i ⟨h1.2, h2'.2, h3.2, by omega, h5.2⟩
theorem Fines.append {g n m : Nat} : ∀ {ds es : List PyData}, Fines ds g n → Fines es g m → Fines (ds ++ es) g (n + m)
  | [], es, _, h => h.weakN (Nat.le_add_left _ _)
  | d :: ds, es, h, k => by
    obtain ⟨h1, h2, h3, h4, h5⟩ := h
    simp only [PyData.showableAll, Bool.and_eq_true] at h1
    simp only [PyData.depthAll] at h2
    simp only [PyData.leavesShortAll, Bool.and_eq_true] at h3
    simp only [PyData.bulkAll] at h4
    simp only [PyData.hasDictAll, Bool.or_eq_false_iff] at h5
    have h2' := Nat.max_le.1 h2
    have t := Fines.append (⟨h1.2, h2'.2, h3.2, Nat.le_refl _, h5.2⟩ : Fines ds g (PyData.bulkAll ds)) k
    rw [List.cons_append]
    exact (Fines.cons ⟨h1.1, h2'.1, h3.1, Nat.le_refl _, h5.1⟩ t).weakN (by omega)
theorem Fine.tupInv {ds : List PyData} {g n : Nat} (h : Fine (.tuple ds) (g + 1) n) : Fines ds g n := by
  obtain ⟨h1, h2, h3, h4, h5⟩ := h
  simp only [PyData.showable] at h1
  simp only [PyData.depth] at h2
  simp only [PyData.leavesShort] at h3
  simp only [PyData.bulk] at h4
  simp only [PyData.hasDict] at h5
  exact ⟨h1, by omega, h3, h4, h5⟩
theorem Fines.mem {g n : Nat} : ∀ {ds : List PyData} {d : PyData}, Fines ds g n → d ∈ ds → Fine d g n
  | [], d, _, hd => absurd hd List.not_mem_nil
  | x :: ds, d, h, hd => by
    obtain ⟨h1, h2, h3, h4, h5⟩ := h
    simp only [PyData.showableAll, Bool.and_eq_true] at h1
    simp only [PyData.depthAll] at h2
    simp only [PyData.leavesShortAll, Bool.and_eq_true] at h3
    simp only [PyData.bulkAll] at h4
    simp only [PyData.hasDictAll, Bool.or_eq_false_iff] at h5
    have h2' := Nat.max_le.1 h2
    rcases List.mem_cons.1 hd with rfl | hd
    · exact ⟨h1.1, h2'.1, h3.1, by omega, h5.1⟩
    · exact Fines.mem ⟨h1.2, h2'.2, h3.2, by omega, h5.2⟩ hd
theorem Fine.fits {d : PyData} {g n : Nat} (h : Fine d g n) (hg : g ≤ 60) (hn : n ≤ 2 ^ 20) : d.showable = true ∧ d.depth ≤ 60 ∧ d.shown.length ≤ sizeLine ∧ d.hasDict = false :=
  ⟨h.s, Nat.le_trans h.dp hg, PyData.shown_fits_bulk (by decide) (Nat.le_refl _) h.lv (Nat.le_trans h.bk hn), h.nd⟩
section
variable {K : PySem.W.Frag} {D0 : Hp} {R : Res} {l : List (V × PyData)} {σ : L2.St} {D : Ends} {Q : VK}
theorem d_reprF {x : V} {d : PyData} {g n : Nat} (hx : InL l x d) (h : Fine d g n) (hg : g ≤ 60) (hn : n ≤ 2 ^ 20) (k : RD K D0 R l (Q (.str d.shown))) : RD K D0 R l (fun H => rRepr K [x] H Q) := by
  obtain ⟨h1, h2, h3, h4⟩ := h.fits hg hn
  exact d_repr hx h1 h2 h3 h4 k
/-! ### sorted of ints -/
theorem ints_alikeI (is : List Int) : PySem.W.AllAlike (is.map PyData.int) := PySem.W.AllAlike.of fun _ _ => by simp [PySem.W.alike]
theorem ints_sortableI (is : List Int) : PySem.W.Sortable (is.map PyData.int) := PySem.W.Sortable.others fun _ => ⟨(fun z => nomatch z), (fun _ z => nomatch z)⟩
theorem intSort_eq (is : List Int) : (is.map PyData.int).mergeSort (PySem.W.dataLe false id) = (is.mergeSort fun a b => decide (a ≤ b)).map PyData.int := by
  have e1 := PySem.W.dataLe_int (fun i : Int => i)
  have e2 : (is.map PyData.int).mergeSort (PySem.W.dataLe false id) = (is.mergeSort (PySem.W.dataLe false fun i => PyData.int i)).map PyData.int :=
    (List.map_mergeSort (f := PyData.int) (r := PySem.W.dataLe false fun i => PyData.int i) (s := PySem.W.dataLe false id) (fun a _ b _ => rfl)).symm
  rw [e2, e1]
theorem asc_unique : ∀ {l m : List Int}, (l.Pairwise (· ≤ ·)) → (m.Pairwise (· ≤ ·)) → l.Perm m → l = m
  | [], m, _, _, p => (List.nil_perm.1 p).symm
  | x :: l, [], _, _, p => absurd (List.perm_nil.1 p) (by simp)
  | x :: l, y :: m, h1, h2, p => by
    obtain ⟨a1, a2⟩ := List.pairwise_cons.1 h1
    obtain ⟨b1, b2⟩ := List.pairwise_cons.1 h2
    have l1 : x ≤ y := by
      rcases List.mem_cons.1 (p.mem_iff.2 List.mem_cons_self) with e | e
      · omega
      · exact a1 y e
    have l2 : y ≤ x := by
      rcases List.mem_cons.1 (p.mem_iff.1 List.mem_cons_self) with e | e
      · omega
      · exact b1 x e
    obtain rfl : x = y := by omega
    exact congrArg (x :: ·) (asc_unique a2 b2 ((List.perm_cons x).1 p))
theorem intSort_asc (is : List Int) : (is.mergeSort fun a b => decide (a ≤ b)).Pairwise (· ≤ ·) := by
  have h : (is.mergeSort fun a b : Int => decide (a ≤ b)).Pairwise fun a b => decide (a ≤ b) = true := by
    first
      | exact List.pairwise_mergeSort (fun a b c => by simp only [decide_eq_true_eq]; omega) (fun a b => by simp only [Bool.or_eq_true, decide_eq_true_eq]; omega) is
      | exact List.sorted_mergeSort (fun a b c => by simp only [decide_eq_true_eq]; omega) (fun a b => by simp only [Bool.or_eq_true, decide_eq_true_eq]; omega) is
  exact h.imp fun h => of_decide_eq_true h
theorem intSort_down {is : List Int} (h : is.Pairwise (· ≥ ·)) : (is.mergeSort fun a b => decide (a ≤ b)) = is.reverse :=
  asc_unique (intSort_asc is) (List.pairwise_reverse.2 h) ((List.mergeSort_perm _ _).trans (List.reverse_perm is).symm)
theorem d_sortedI {x : V} {is : List Int} (hx : InL l x (.list (is.map .int))) (k : ∀ v, RD K D0 R ((v, .list ((is.mergeSort fun a b => decide (a ≤ b)).map .int)) :: l) (Q v)) : RD K D0 R l (fun H => gSorted K [x] H Q) := by
  refine d_sorted hx (ints_alikeI is) (ints_sortableI is) (fun d hd => ?_) fun v => ?_
  · obtain ⟨i, _, rfl⟩ := List.mem_map.1 hd
    simp only [PyData.depth]
    exact Nat.zero_le _
  · rw [intSort_eq]
    exact k v
theorem eqv_selfI (is : List Int) : PyData.eqv (.list (is.map PyData.int)) (.list (is.map PyData.int)) = true := by
  rw [PyData.eqv]
  induction is with
  | nil => simp [PyData.eqvAll]
  | cons i is ih => simp only [List.map_cons, PyData.eqvAll, PyData.eqv, ih]; simp
end
end GL

/-! G32: enumerate over lists, tuples, texts; a dict display of texts, read at once; list.extend by a tuple. -/
namespace GL
open PySem PySem.Spec L2
open PyProof.Rows hiding St
section
variable {prog : Program} {w : World} {A : Around} {E : Value → Shared → Prop} {s : Shared}
abbrev enO (i : Addr) : Obj := { cls := .type "enumerate", data := .fields #[.none, .bool false, .ref i, rawInt 0, .none, .none] }
set_option maxHeartbeats 1000000 in
theorem en_new {v : Value} {o : Obj} {Hd : Heap → Prop} (B : Begins v o Hd) : Meets (Builtin.«enumerate.__new__» ⟨[.type "enumerate", v], []⟩)
    (fun _ R s => Hd s.heap ∧ R (.ok (.ret (.ref (s.heap.push o).objs.size))) { s with heap := (s.heap.push o).push (enO s.heap.objs.size) }) := by
  refine .of_wp fun P' w' A' R' s' hq => ?_
  obtain ⟨hp, gs, dr, tk, os⟩ := s'
  obtain ⟨h1, hq⟩ := hq
  have hsub := sub_enumerate
  have go : ∀ {A2 : Around} {E2 : Value → Shared → Prop} {Q2 : Value → Shared → Prop}, Q2 (.ref hp.objs.size) ⟨hp.push o, gs, dr, tk, os⟩ → wpAny (model P' w') A2 (pyIter v) Q2 E2 ⟨hp, gs, dr, tk, os⟩ :=
    fun q => B.iter P' w' _ _ ⟨hp, gs, dr, tk, os⟩ _ h1 q
  wp_walk using go
  refine wpAny_stack_any fun st => ?_
  refine wpAny_pure ?_
  split
  · rename_i c _ _ _ _ _
    cases (c == Value.type "enumerate") <;> (wp_walk using go; exact ⟨_, rfl, hq⟩)
  · wp_walk using go
    exact ⟨_, rfl, hq⟩
/-- enumerate(v): its two new cells -/
theorem en_begins {v : Value} {o : Obj} {Hd : Heap → Prop} {Q : Value → Shared → Prop} (B : Begins v o Hd) (h1 : Hd s.heap)
    (h : ∀ h', IsEnum h' (s.heap.objs.size + 1) s.heap.objs.size 0 .none → h'.get? s.heap.objs.size = some o → (∀ b u, s.heap.get? b = some u → h'.get? b = some u) → Q (.ref (s.heap.objs.size + 1)) { s with heap := h' }) :
    wpAny (model prog w) A (call (.type "enumerate") [v]) Q E s := by
  have z := F.typeCall_enumerate_1 v
  refine callType_new F.called_enumerate (by decide) z (F.newCall_enumerate_1 v) (fun x => F.args_object_init_2 x v) F.entry_enumerate_new (en_new B) ⟨h1, ?_⟩
  have hz : (s.heap.push o).objs.size = s.heap.objs.size + 1 := Heap.size_push ..
  have he : ((s.heap.push o).push (enO s.heap.objs.size)).get? (s.heap.objs.size + 1) = some (enO s.heap.objs.size) := by
    have q := Heap.get?_push_size (s.heap.push o) (o := enO s.heap.objs.size) rfl
    rw [hz] at q
    exact q
  show _ ∧ _
  rw [hz]
  refine ⟨⟨_, he, rfl⟩, h _ he (Heap.get?_push_of_some _ (Heap.get?_push_size _ B.free)) fun b u x => ?_⟩
  exact Heap.get?_push_of_some _ (Heap.get?_push_of_some _ x)
end
/-- enumerate(c): each item in a new pair -/
def Iteg (K : PySem.W.Frag) (c : Sc) : It :=
  ⟨fun i H => ∃ xs : List V, c.has K H xs ∧ i < xs.length,
    fun i H v H' => ∃ T x, v = .ref T ∧ H T = none ∧ H' = upd H T (.tup [.int (i : Nat), x]) ∧ ∀ xs, c.has K H xs → xs[i]? = some x,
    fun i H => ∃ xs : List V, c.has K H xs ∧ i = xs.length⟩
abbrev efp (n : Nat) : List Addr := [n + 1, n]
def est (c : Sc) (n i : Nat) (h : Heap) : Prop := (∃ old, IsEnum h (n + 1) n (0 + (i : Int)) old) ∧ c.cell n i h
theorem esep {X : Cx} {A : Around} {c : Sc} {n i : Nat} {xs : List V} {h : Heap} {f1 : List Addr} {P1 : Nat → Value → Prop} {T1 : Nat → Heap → Prop} (D1 : Drawn1 X A c n n i xs h f1 P1 T1) : (show Addr from n + 1) ∉ f1 := fun q => by
  rcases D1.lt _ q with e | e
  · exact absurd (show (n + 1 : Nat) = n from e) (by omega)
  · exact absurd (show (n + 1 : Nat) < n from e) (by omega)
theorem turn_eng {P : Program} {w : World} {K : PySem.W.Frag} {elts : List Expr} {kk : Nat} {tpos : Pos} {c : Sc} {n : Nat} (b1 : c.below n) :
    Turn P w K (.Tuple elts kk tpos) (Iteg K c) (efp n) (n + 1) (est c n) where
  mem := List.mem_cons_self
  obj := fun i h st b hb => by
    obtain ⟨⟨old, he⟩, h1⟩ := st
    have q : b = n + 1 ∨ b = n := by simpa using hb
    rcases q with rfl | rfl
    · exact ⟨_, he, nofun⟩
    · exact c.live h1
  keep := fun i h h' st k => by
    obtain ⟨⟨old, he⟩, h1⟩ := st
    exact ⟨⟨old, k _ (by simp) _ he⟩, c.stay h1 fun o e => k _ (by simp) o e⟩
  item := by
    intro X hP hw hK hc i pins s σ H E I hf st hg
    subst hP hw hK
    have lv : ∀ b, b ∈ efp n → ∃ o, s.heap.get? b = some o := fun b hb => (by
      obtain ⟨⟨old, he⟩, h1⟩ := st
      have q : b = n + 1 ∨ b = n := by simpa using hb
      rcases q with rfl | rfl
      · exact ⟨_, he⟩
      · obtain ⟨o, e, _⟩ := c.live h1; exact ⟨o, e⟩)
    obtain ⟨he, h1⟩ := st
    obtain ⟨xs, hx, l1⟩ := hg
    have hh : X.A.in1.handled = none := I.ok.hd hc
    obtain ⟨f1, P1, T1, D1⟩ := c.draws (A := X.A.in1) hh I hx b1 (Nat.le_refl _) h1
    have W := GoesN.enumFrom (elts := elts) (x1 := kk) (pos := tpos) 0 D1.d (n + 1) (show ¬ ((n + 1 : Nat) = n) by omega) (esep D1) D1.mem
    refine W.goes i s _ E l1 ⟨he, D1.st⟩ fun v h' tk hY st' hk _ => ?_
    obtain ⟨T, t, a, rfl, hT, p1, hTup⟩ := hY
    obtain ⟨x, ex, rx⟩ := D1.rel _ _ p1
    have new : ObjOk X.prog X.w (upd H T (.tup [.int (i : Nat), x])) h' T (.tup [.int (i : Nat), x]) :=
      ⟨by show 2 ≤ sizeLine; decide, [.int (0 + (i : Int)) t, a], .cons ⟨t, by rw [Int.zero_add]⟩ (.cons rx .nil), hTup⟩
    have I1 : Inv X pins σ (upd H T (.tup [.int (i : Nat), x])) { s with heap := h', toks := tk } :=
      I.turnedNew (t' := tk) (ch := [n + 1, n]) hk (fun b hb => hf b hb) hT new
    refine ⟨.ref T, _, I1, rfl, ⟨T, x, rfl, I.hok.fresh hT, rfl, fun zs hz' => by rw [c.inj I hz' hx]; exact ex⟩, ?_, fun b hb => ?_⟩
    · obtain ⟨g1, g4⟩ := st'
      exact ⟨g1, D1.cell _ _ g4⟩
    · obtain ⟨o, e⟩ := lv b hb
      rw [upd_ne (Nat.ne_of_lt (Nat.lt_of_lt_of_le (Heap.lt_size e) hT))]
      exact (hf b hb).1
  done := by
    intro X hP hw hK hc i pins s σ H E I hf st hg
    subst hP hw hK
    obtain ⟨he, h1⟩ := st
    obtain ⟨xs, hx, rfl⟩ := hg
    have hh : X.A.in1.handled = none := I.ok.hd hc
    obtain ⟨f1, P1, T1, D1⟩ := c.draws (A := X.A.in1) hh I hx b1 (Nat.le_refl _) h1
    have W := GoesN.enumFrom (elts := elts) (x1 := kk) (pos := tpos) 0 D1.d (n + 1) (show ¬ ((n + 1 : Nat) = n) by omega) (esep D1) D1.mem
    refine W.stops s _ E ⟨he, D1.st⟩ fun h' tk hk _ => ?_
    exact I.turnedL (t' := tk) (ch := [n + 1, n]) hk fun b hb => hf b hb
  self := fun A i s Q E st h => wpAny_pyIter_enum st.1.choose_spec h
def iEng (K : PySem.W.Frag) (ta : TA) : TI := fun σ H R => ta σ H fun vs H1 => ∃ (c : Sc) (xs : List V), vs = [c.v] ∧ c.has K H1 xs ∧ R (Iteg K c) H1
theorem pi_eng {X : Cx} {e : Expr} {ta : TA} {p pos tpos : Pos} {elts : List Expr} {kk : Nat} (hg : Gl X "enumerate") (hm : X.mg "enumerate" = none) (ha : PA X [e] ta)
    (hs : starEach [e] X.env = [(false, eval e X.env)] := by rfl) : PI X (.Tuple elts kk tpos) (.Call (.Name "enumerate" p) [e] [] pos) (iEng X.K ta) := by
  constructor
  intro pins s σ H R I h
  refine Call_ ?_
  refine ld_blt I hg hm boot_enumerate ?_
  refine PyProof.Rows.callWith_type1 ?_ hs rfl
  apply thn (ha.run pos pins s σ H _ I h)
  rintro us s1 ⟨vs, H1, I1, r1, c, xs, rfl, hx, q⟩
  obtain ⟨u1, rfl, ru⟩ := vals1 r1
  obtain ⟨o1, Hd1, B1, q1, b1, k1⟩ := c.begins I1 hx ru
  apply en_begins B1 q1
  intro h' he e1 hk
  apply wpAny_pyIter_enum he
  refine ⟨_, efp s1.heap.objs.size, est c s1.heap.objs.size, Iteg X.K c, H1, rfl, I1.kept (t' := s1.toks) hk, turn_eng b1, ⟨⟨_, he⟩, k1 _ _ e1⟩, fun b hb => ?_, q⟩
  have hle : s1.heap.objs.size ≤ b := by
    have q : b = s1.heap.objs.size + 1 ∨ b = s1.heap.objs.size := by simpa using hb
    rcases q with rfl | rfl
    · exact Nat.le_add_right _ _
    · exact Nat.le_refl _
  exact I1.fpOk hle (I1.hok.fresh hle)
section
variable {K : PySem.W.Frag} {D0 : Hp} {R : Res} {l : List (V × PyData)} {σ : L2.St} {D : Ends} {Q : VK}
def kEng (K : PySem.W.Frag) (vs : List V) (H1 : Hp) (Ri : It → Hp → Prop) : Prop := ∃ (c : Sc) (xs : List V), vs = [c.v] ∧ c.has K H1 xs ∧ Ri (Iteg K c) H1
theorem d_iEng {ta : TA} {Ri : It → Hp → Prop} (k : RD K D0 R l (fun H => ta σ H fun vs H1 => kEng K vs H1 Ri)) : RD K D0 R l (fun H => iEng K ta σ H Ri) := k
/-- for i, x in enumerate(a tuple) -/
theorem d_forEngT {g : TG} {tb : TS} {v : V} {ds : List PyData} (hv : InL l v (.tuple ds)) (P : Nat → Res → L2.St → List (V × PyData) → Prop) (hkeep : ∀ i R' σ' l', P i R' σ' l' → InL l' v (.tuple ds)) (h0 : P 0 R σ l)
    (hs : ∀ (i : Nat) d y R' σ' l', ds[i]? = some d → P i R' σ' l' → RD K D0 R' ((y, .tuple [.int i, d]) :: l') (fun H => g y σ' H fun σ2 H2 => tb { D with nx := Cont K D0 (P (i + 1)), ct := Cont K D0 (P (i + 1)), bk := D.nx } σ2 H2))
    (hd : ∀ R' σ' l', P ds.length R' σ' l' → RD K D0 R' l' (fun H => D.nx σ' H)) :
    RD K D0 R l (fun H => kEng K [v] H fun J H1 => ForK g tb D σ J H1) := fun N H A => by
  obtain ⟨a, xs, rfl, ha, hd0⟩ := (A.dt hv).tuple
  have hl : ∀ {i R' σ' l' N' H'}, P i R' σ' l' → At K D0 R' l' N' H' → ∃ xs', SqT K H' a xs' ∧ DtAll K (off H' N') xs' ds := fun p A' => by
    obtain ⟨a', xs', e, h', d'⟩ := (A'.dt (hkeep _ _ _ _ p)).tuple
    cases e
    exact ⟨xs', same_sqT off_same h', d'⟩
  refine ⟨.tup a, xs, rfl, same_sqT off_same ha, fun i m σ H => m = ds.length - i ∧ i ≤ ds.length ∧ Cont K D0 (P i) σ H, ⟨_, rfl, Nat.zero_le _, R, l, N, h0, A⟩, ?_⟩
  rintro i m σ' H' ⟨rfl, hi, R', l', N', p, A'⟩
  obtain ⟨xs', hq, d'⟩ := hl p A'
  by_cases hlt : i < ds.length
  · have hx : i < xs'.length := by rw [d'.len]; exact hlt
    refine .inr ⟨⟨xs', hq, hx⟩, Cont K D0 (P (i + 1)), fun σ2 H2 p => ⟨ds.length - (i + 1), by omega, rfl, hlt, p⟩, ?_⟩
    rintro y H2 ⟨T, x, rfl, hT, rfl, hy⟩
    obtain ⟨d, e1, e2⟩ := d'.get (hy xs' hq)
    obtain ⟨A2, e⟩ := (A'.facts e2).new (.tup [.int (i : Nat), x]) hT
    have f : Dt K (off (upd H' T (.tup [.int (i : Nat), x])) N') (.ref T) (.tuple [.int (i : Nat), d]) := .tup (.inl (.inl e)) (.cons (.int _) (.cons (A2.dt (.mem List.mem_cons_self)) .nil))
    exact hs i d (.ref T) R' σ' l' e1 p N' _ ((A2.weak (l' := l') fun p hp => .mem (List.mem_cons_of_mem _ hp)).facts f)
  · have e : i = ds.length := by omega
    subst e
    exact .inl ⟨⟨xs', hq, d'.len.symm⟩, hd R' σ' l' p N' H' A'⟩
/-! ### a dict display with texts or ints as keys; d[k] -/
theorem At.objs0 {N : Addr → Prop} {H : Hp} (A : At K D0 R l N H) : At K D0 (star (objs []) R) l N H :=
  ⟨A.nt, ⟨fun _ => False, N, fun b => ⟨.inr, fun z => z.elim False.elim id⟩, fun _ z _ => z, ⟨fun b => ⟨False.elim, fun ⟨_, z⟩ => by cases z⟩, fun p hp => by cases hp⟩, A.r⟩, A.d0, A.f⟩
def kDisp (p : Addr) (Q : VK) (ps : List (V × V)) (H2 : Hp) : Prop := H2 p = some (.dK []) ∧ ∃ kvs : List (Key × V), ps = kvs.map (fun kv => (kV kv.1, kv.2)) ∧ kvs.length ≤ 15 ∧ Q (.ref p) (upd H2 p (.dK (mergeK [] kvs)))
theorem d_disp {trs : List (TE × TE)} (k : ∀ p, RD K D0 (star (objs [(p, .dK [])]) R) l (fun H => tPairs trs σ H (kDisp p Q))) : RD K D0 R l (fun H => tDisp trs σ H Q) := fun N H A p hp =>
  k p _ _ (A.objs0.newOb (o := .dK []) (fun _ z => by cases z) hp)
theorem d_pairs {tk tv : TE} {r : List (TE × TE)} {Qp : List (V × V) → Hp → Prop} (k : RD K D0 R l (fun H => tk σ H fun x H1 => tv σ H1 fun y H2 => tPairs r σ H2 fun ps H3 => Qp ((x, y) :: ps) H3)) : RD K D0 R l (fun H => tPairs ((tk, tv) :: r) σ H Qp) := k
theorem d_pairs0 {Qp : List (V × V) → Hp → Prop} (k : RD K D0 R l (Qp [])) : RD K D0 R l (fun H => tPairs [] σ H Qp) := k
theorem d_kDisp {p : Addr} {ps : List (V × V)} (kvs : List (Key × V)) (e : ps = kvs.map (fun kv => (kV kv.1, kv.2))) (h15 : kvs.length ≤ 15) (k : RD K D0 (star (objs [(p, .dK (mergeK [] kvs))]) R) l (Q (.ref p))) : RD K D0 (star (objs [(p, .dK [])]) R) l (kDisp p Q ps) := fun N H A => by
  refine ⟨A.ob (List.Mem.head _), kvs, e, h15, ?_⟩
  have A2 := A.setOb (o := .dK (mergeK [] kvs)) (fun _ z => by cases z) (List.Mem.head _)
  rw [show putO [(p, HO.dK [])] p (.dK (mergeK [] kvs)) = [(p, .dK (mergeK [] kvs))] from by simp [putO]] at A2
  exact k _ _ A2
def kDGet (x y : V) (H2 : Hp) (Q : VK) : Prop := ∃ a v, x = .ref a ∧ DGet H2 a y (some v) ∧ Q v H2
theorem d_tDGet {td ty : TE} (k : RD K D0 R l (fun H => td σ H fun x H1 => ty σ H1 fun y H2 => kDGet x y H2 Q)) : RD K D0 R l (fun H => tDGet td ty σ H Q) := k
theorem d_getK {a : Addr} {L : List (Addr × HO)} {kvs : List (Key × V)} {key : Key} {v : V} (ha : (a, .dK kvs) ∈ L) (hv : valV kvs key = some v) (k : RD K D0 (star (objs L) R) l (Q v)) : RD K D0 (star (objs L) R) l (fun H => kDGet (.ref a) (kV key) H Q) := fun N H A =>
  ⟨a, v, rfl, hv ▸ DGet.k (A.ob ha), k N H A⟩
/-- {'A': 'B', 'B': 'A'}[x] -/
def abS (b : Bool) : Str := if b then "B" else "A"
theorem d_flip {i : Nat} {b : Bool} (h : σ[i]? = some (some (.str (abS b)))) (k : RD K D0 R l (Q (.str (abS !b)))) :
    RD K D0 R l (fun H => tDGet (tDisp [(tC (.str "A"), tC (.str "B")), (tC (.str "B"), tC (.str "A"))]) (tVar i) σ H Q) := by
  refine d_tDGet (d_disp fun p => d_pairs (d_C (d_C (d_pairs (d_C (d_C (d_pairs0 ?_)))))))
  refine d_kDisp [(.inr "A", .str "B"), (.inr "B", .str "A")] rfl (by decide) ?_
  refine d_var h ?_
  refine d_getK (key := .inr (abS b)) (v := .str (abS !b)) (List.Mem.head _) ?_ (RD.drop k)
  cases b <;> decide +kernel
/-! ### list.extend by a list or a tuple -/
theorem ext_tup (l b : Addr) (xs ys : Array Value) (n m : Nat) (dc : Option Addr) (sl : Array (Option Value)) (h0 : ¬(!xs.isEmpty && Builtin.List.listTooLong (xs.size + ys.size)) = true) (h1 : xs.size ≤ sizeLine) (h2 : xs.size + ys.size ≤ sizeLine + 1) :
    Meets (Builtin.«list.extend» ⟨[.ref l, .ref b], []⟩) (fun _ R s => s.heap.get? l = some { cls := .type "list", data := .seq xs n } ∧ s.heap.get? b = some { cls := .type "tuple", dict := dc, data := .seq ys m, slots := sl } ∧
      R (.ok (.ret Value.none)) { s with heap := s.heap.update l (Obj.mapSeq fun x => x ++ ys), toks := s.toks }) := by
  refine .of_wp fun P' w' A' R' s' hq => ?_
  obtain ⟨hp, gs, dr, tk, os⟩ := s'
  obtain ⟨hl, hb, hq⟩ := hq
  have g1 := AutoSeq1.idx_int
  have g2 := AutoSeq1.sub_tuple_tuple
  have g3 := AutoSeq1.sub_list_list
  have g4 := AutoSeq1.sub_tuple_list
  have g5 := AutoSeq1.sub_list_tuple
  have hz' : (xs ++ ys).size ≤ sizeLine + 1 := by
    rw [Array.size_append]
    exact h2
  wp_walk using (wpAny_updateSeq hl rfl (hz := h1) (_hz' := hz')), AutoSeq1.wpAny_loadPart' hl, AutoSeq1.wpAny_loadPart' hb
  exact ⟨_, rfl, hq⟩
def rExtG (K : PySem.W.Frag) : V → List V → Hp → VK → Prop := fun x vs H Q => rExtend x vs H Q ∨ ∃ l b xs zs, x = .ref l ∧ vs = [.ref b] ∧ H l = some (.lst xs) ∧ SqT K H b zs ∧ xs.length + zs.length ≤ sizeLine ∧ Q .non (upd H l (.lst (xs ++ zs)))
theorem mt_extG {X : Cx} : MtM X "list.extend" (rExtG X.K) := by
  intro pins s σ H x vs v us Q I rx rv h
  rcases h with h | ⟨l, b, xs, zs, rfl, rfl, hH, hB, hz, q⟩
  · exact mt_extend pins s σ H x vs v us Q I rx rv h
  cases rx
  obtain ⟨u, rfl, ru⟩ := rv.one
  cases ru
  obtain ⟨z, its, n, r, hl, e⟩ := I.lstM hH
  obtain ⟨its2, r2, p2, hz2⟩ := I.tuple hB
  obtain ⟨⟨c2, d2, t2, s2⟩, e2, hc2, n2, hd2⟩ := p2
  replace hc2 : c2 = .type "tuple" := hc2
  replace hd2 : t2 = .seq its2.toArray n2 := hd2
  subst hc2 hd2
  have hsz : its.toArray.size + its2.toArray.size ≤ sizeLine := by
    have h1 := r.length
    have h2 := r2.length
    rw [List.size_toArray, List.size_toArray]
    omega
  have hlong : ¬ (!its.toArray.isEmpty && Builtin.List.listTooLong (its.toArray.size + its2.toArray.size)) = true := by
    rw [notLongL hsz]
    simp
  refine call_meets F.slot_list_extend ⟨_, e, rfl⟩ F.entry_list_extend (F.args_list_extend_2 _ _) (ext_tup l b its.toArray its2.toArray n n2 d2 s2 hlong (by omega) (by omega)) ⟨e, e2, ?_⟩
  refine ⟨.non, _, I.lset (its' := its ++ its2) hH e (by simp) (r.append r2) ?_, rfl, q⟩
  have h1 := r.length
  have h2 := r2.length
  rw [List.length_append]
  omega
theorem d_extendT {a : Addr} {ds es : List PyData} {y : V} (hy : InL l y (.tuple es)) (hz : ds.length + es.length ≤ sizeLine) (k : RD K D0 (star (own K a (ds ++ es)) R) l (Q .non)) : RD K D0 (star (own K a ds) R) l (fun H => rExtG K (.ref a) [y] H Q) := fun N H A => by
  obtain ⟨xs, hx, hd⟩ := A.ownAt
  obtain ⟨b, zs, rfl, hb, he⟩ := (A.dt hy).tuple
  exact .inr ⟨a, b, xs, zs, rfl, rfl, hx, same_sqT off_same hb, by rw [hd.len, he.len]; exact hz, k _ _ (A.setOwn (hd.append he))⟩
end
end GL

/-! I4: tuples: joined, cut, as lists; items picked at a drawn place. -/
namespace GL
open PySem PySem.Spec L2
open PyProof.Rows hiding St
theorem add_nilT (a b : Addr) (xs ys : Array Value) (n m : Nat) (d1 d2 : Option Addr) (s1 s2 : Array (Option Value)) (h0 : xs.isEmpty = true) :
    Meets (Builtin.«tuple.__add__» ⟨[.ref a, .ref b], []⟩) (fun _ R s => s.heap.get? a = some { cls := .type "tuple", dict := d1, data := .seq xs n, slots := s1 } ∧ s.heap.get? b = some { cls := .type "tuple", dict := d2, data := .seq ys m, slots := s2 } ∧
      R (.ok (.ret (Value.ref b))) { s with heap := s.heap, toks := s.toks }) := by
  refine .of_wp fun P' w' A' R' s' hq => ?_
  obtain ⟨hp, gs, dr, tk, os⟩ := s'
  obtain ⟨ha, hb, hq⟩ := hq
  have g1 := AutoSeq1.idx_int
  have g2 := AutoSeq1.sub_tuple_tuple
  have g3 := AutoSeq1.sub_list_list
  have g4 := AutoSeq1.sub_tuple_list
  have g5 := AutoSeq1.sub_list_tuple
  wp_walk using AutoSeq1.wpAny_loadPart' ha, AutoSeq1.wpAny_loadPart' hb
  exact ⟨_, rfl, hq⟩
/-- () + u is u -/
def rCat0 (K : PySem.W.Frag) : R2 := fun x y H Q => ∃ a b ys, x = .ref a ∧ y = .ref b ∧ SqT K H a [] ∧ SqT K H b ys ∧ Q (.ref b) H
theorem op_cat0 {X : Cx} : OpR X (binaryOp .Add) (rCat0 X.K) := by
  intro pins s σ H x y v u Q I rx ry h
  obtain ⟨a, b, ys, rfl, rfl, ha, hb, q⟩ := h
  cases rx
  cases ry
  obtain ⟨its, r1, p1, _⟩ := I.tuple ha
  obtain ⟨its2, r2, p2, _⟩ := I.tuple hb
  cases r1
  obtain ⟨⟨c1, d1, t1, s1⟩, e1, hc1, n1, hd1⟩ := p1
  obtain ⟨⟨c2, d2, t2, s2⟩, e2, hc2, n2, hd2⟩ := p2
  replace hc1 : c1 = .type "tuple" := hc1
  replace hd1 : t1 = .seq #[] n1 := hd1
  replace hc2 : c2 = .type "tuple" := hc2
  replace hd2 : t2 = .seq its2.toArray n2 := hd2
  subst hc1 hd1 hc2 hd2
  refine concat_meets ⟨_, e1, rfl⟩ ⟨_, e2, rfl⟩ noFill_tuple_add seq_tuple_add PySem.F.slot_tuple_add PySem.F.entry_tuple_add (PySem.F.args_tuple_add_2 _ _) (add_nilT a b #[] its2.toArray n1 n2 d1 d2 s1 s2 rfl) ⟨e1, e2, ?_⟩
  exact ⟨.ref b, H, I, rfl, q⟩
def gAddT (K : PySem.W.Frag) : R2 := fun x y H Q => gAdd K x y H Q ∨ rCat0 K x y H Q
theorem op_gaddT {X : Cx} : OpR X (binaryOp .Add) (gAddT X.K) := op_gadd.or op_cat0
section
variable {K : PySem.W.Frag} {D0 : Hp} {R : Res} {l : List (V × PyData)} {σ : L2.St} {D : Ends} {Q : VK}
theorem d_gaddT {x y : V} (k : RD K D0 R l (fun H => gAdd K x y H Q)) : RD K D0 R l (fun H => gAddT K x y H Q) := fun N H A => .inl (k N H A)
/-- t + u of tuples -/
theorem d_catT {x y : V} {ds es : List PyData} (hx : InL l x (.tuple ds)) (hy : InL l y (.tuple es)) (hz : ds.length + es.length ≤ sizeLine) (k : ∀ v, RD K D0 R ((v, .tuple (ds ++ es)) :: l) (Q v)) : RD K D0 R l (fun H => gAddT K x y H Q) := fun N H A => by
  obtain ⟨a, xs, rfl, ha, hd⟩ := (A.dt hx).tuple
  obtain ⟨b, ys, rfl, hb, he⟩ := (A.dt hy).tuple
  by_cases h0 : xs = []
  · subst h0
    cases hd
    exact .inr ⟨a, b, ys, rfl, rfl, same_sqT off_same ha, same_sqT off_same hb, k _ N H (A.facts (.tup hb he))⟩
  · refine .inl (.inr (.inr (.inr ⟨a, b, xs, ys, rfl, rfl, same_sqT off_same ha, same_sqT off_same hb, h0, by rw [hd.len, he.len]; exact hz, fun h1 => ?_, fun h1 p hp => ?_⟩)))
    · subst h1
      cases he
      rw [List.append_nil] at k
      exact k _ N H (A.facts (.tup ha hd))
    · obtain ⟨A', e⟩ := A.new (.tup (xs ++ ys)) hp
      have sm : Same (off H N) (off (upd H p (.tup (xs ++ ys))) N) := fun c u hc => by
        by_cases hb2 : N c
        · unfold off at hc; rw [if_pos hb2] at hc; cases hc
        · rw [off_ne hb2] at hc ⊢
          rw [upd_ne (ne_of_none hc hp)]
          exact hc
      exact k _ N _ (A'.facts (.tup (.inl (.inl e)) ((hd.mono sm).append (he.mono sm))))
/-- t[lo:hi] of a tuple, not the whole -/
theorem d_slT {x : V} {ds : List PyData} {lo hi : Option Int} (hx : InL l x (.tuple ds)) (hne : ¬ (HT.sIx ds.length 0 lo = 0 ∧ HT.sIx ds.length ds.length hi = ds.length)) (k : ∀ v, RD K D0 R ((v, .tuple (cutD ds lo hi)) :: l) (Q v)) : RD K D0 R l (fun H => gSl K x lo hi H Q) := fun N H A => by
  obtain ⟨a, xs, rfl, ha, hd⟩ := (A.dt hx).tuple
  refine .inr (.inr ⟨a, xs, rfl, same_sqT off_same ha, by rw [hd.len]; exact hne, fun p hp => ?_⟩)
  obtain ⟨A', e⟩ := A.new (.tup (cutV xs lo hi)) hp
  have sm : Same (off H N) (off (upd H p (.tup (cutV xs lo hi))) N) := fun c u hc => by
    by_cases hb2 : N c
    · unfold off at hc; rw [if_pos hb2] at hc; cases hc
    · rw [off_ne hb2] at hc ⊢
      rw [upd_ne (ne_of_none hc hp)]
      exact hc
  refine k _ N _ (A'.facts (.tup (.inl (.inl e)) ?_))
  have z2 : cutD ds lo hi = (ds.drop (HT.sIx xs.length 0 lo)).take (HT.sIx xs.length xs.length hi - HT.sIx xs.length 0 lo) := by unfold cutD; rw [hd.len]
  rw [z2]
  exact ((hd.mono sm).drop _).take _
theorem cutD_head {ds : List PyData} {n : Nat} (h : n ≤ ds.length) : cutD ds none (some (n : Int)) = ds.take n := by
  unfold cutD
  rw [HT.sIx_none, HT.sIx_nat, Nat.min_eq_left h, List.drop_zero, Nat.sub_zero]
theorem cutD_tail {ds : List PyData} {n : Nat} (h : n ≤ ds.length) : cutD ds (some (n : Int)) none = ds.drop n := by
  unfold cutD
  rw [HT.sIx_none, HT.sIx_nat, Nat.min_eq_left h, List.take_of_length_le (by rw [List.length_drop]; omega)]
/-- t[:n], n not beyond -/
theorem d_headT {x : V} {ds : List PyData} {n : Nat} (hx : InL l x (.tuple ds)) (h : n < ds.length) (k : ∀ v, RD K D0 R ((v, .tuple (ds.take n)) :: l) (Q v)) : RD K D0 R l (fun H => gSl K x none (some (n : Int)) H Q) :=
  d_slT hx (by rw [HT.sIx_none, HT.sIx_nat]; omega) fun v => by rw [cutD_head (by omega)]; exact k v
theorem d_tailT {x : V} {ds : List PyData} {n : Nat} (hx : InL l x (.tuple ds)) (h0 : 0 < n) (h : n ≤ ds.length) (k : ∀ v, RD K D0 R ((v, .tuple (ds.drop n)) :: l) (Q v)) : RD K D0 R l (fun H => gSl K x (some (n : Int)) none H Q) :=
  d_slT hx (by rw [HT.sIx_none, HT.sIx_nat]; omega) fun v => by rw [cutD_tail h]; exact k v
/-- list(t) -/
theorem d_listTup {x : V} {ds : List PyData} (hx : InL l x (.tuple ds)) (k : ∀ v, RD K D0 R ((v, .list ds) :: l) (Q v)) : RD K D0 R l (fun H => gList K [x] H Q) := fun N H A => by
  obtain ⟨a, xs, rfl, ha, hd⟩ := (A.dt hx).tuple
  refine ⟨a, xs, rfl, .inr (same_sqT off_same ha), fun p hp => ?_⟩
  obtain ⟨A', e⟩ := A.new (.lst xs) hp
  have sm : Same (off H N) (off (upd H p (.lst xs)) N) := fun c u hc => by
    by_cases hb2 : N c
    · unfold off at hc; rw [if_pos hb2] at hc; cases hc
    · rw [off_ne hb2] at hc ⊢
      rw [upd_ne (ne_of_none hc hp)]
      exact hc
  exact k _ N _ (A'.facts (.lst e (hd.mono sm)))
/-- an item at a drawn place -/
theorem at_pick {α : Type} {xs : List α} {i : Int} (h0 : 0 ≤ i) (h1 : i < xs.length) : ∃ x ∈ xs, atI xs i = some x := by
  obtain ⟨j, rfl⟩ := Int.eq_ofNat_of_zero_le h0
  have hj : j < xs.length := by omega
  exact ⟨xs[j], List.getElem_mem hj, atI_nat (List.getElem?_eq_getElem hj)⟩
theorem d_pickL {x : V} {i : Int} {ds : List PyData} (hx : InL l x (.list ds)) (h0 : 0 ≤ i) (h1 : i < ds.length) (k : ∀ v d, d ∈ ds → Dv v d → RD K D0 R ((v, d) :: l) (Q v)) : RD K D0 R l (fun H => rIx K x (.int i) H Q) := by
  obtain ⟨d, hd, e⟩ := at_pick h0 h1
  exact d_ixL hx e fun v hv => k v d hd hv
theorem d_pickT {x : V} {i : Int} {ds : List PyData} (hx : InL l x (.tuple ds)) (h0 : 0 ≤ i) (h1 : i < ds.length) (k : ∀ v d, d ∈ ds → Dv v d → RD K D0 R ((v, d) :: l) (Q v)) : RD K D0 R l (fun H => rIx K x (.int i) H Q) := by
  obtain ⟨d, hd, e⟩ := at_pick h0 h1
  exact d_ixT hx e fun v hv => k v d hd hv
theorem d_pickI {x : V} {i : Int} {ns : List Int} (hx : InL l x (.list (ns.map .int))) (h0 : 0 ≤ i) (h1 : i < ns.length) (k : ∀ n ∈ ns, RD K D0 R l (Q (.int n))) : RD K D0 R l (fun H => rIx K x (.int i) H Q) :=
  d_pickL hx h0 (by rw [List.length_map]; exact h1) fun v d hd hv => by
    obtain ⟨n, hn, rfl⟩ := List.mem_map.1 hd
    cases hv
    exact RD.forget (k n hn)
end
end GL

/-! I5: owned lists of any values. -/
namespace GL
open PySem PySem.Spec L2
open PyProof.Rows hiding St
section
variable {K : PySem.W.Frag} {D0 D1 : Hp} {R S : Res} {l l' : List (V × PyData)} {σ : L2.St} {D : Ends} {Q : VK} {L : List (Addr × HO)} {T : Hp → Prop} {w : World}
theorem d_newX {xs : List V} (hl : xs.length ≤ sizeLine) (k : ∀ a, RD K D0 (star (objs [(a, .lst xs)]) R) l (Q (.ref a))) : RD K D0 R l (fun H => kLst xs H Q) := fun N H A => ⟨hl, fun p hp => k p _ _ (A.objs0.newOb (fun _ z => by cases z) hp)⟩
theorem d_ixX {a : Addr} {xs : List V} {i : Int} {v : V} (ha : (a, .lst xs) ∈ L) (hi : atI xs i = some v) (k : RD K D0 (star (objs L) R) l (Q v)) : RD K D0 (star (objs L) R) l (fun H => rIx K (.ref a) (.int i) H Q) := fun N H A =>
  .inl ⟨a, xs, i, v, rfl, rfl, SqL.of (A.ob ha), hi, k N H A⟩
theorem d_setX {a : Addr} {xs : List V} {i : Int} {j : Nat} {v : V} {Qs : Hp → Prop} (ha : (a, .lst xs) ∈ L) (hj : ixN xs.length i = some j) (k : RD K D0 (star (objs (putO L a (.lst (xs.set j v)))) R) l Qs) : RD K D0 (star (objs L) R) l (fun H => rSetL (.ref a) (.int i) v H Qs) := fun N H A =>
  ⟨a, xs, i, j, rfl, rfl, A.ob ha, hj, k _ _ (A.setOb (fun _ z => by cases z) ha)⟩
theorem RD.freezeX {a : Addr} {xs : List V} {ds : List PyData} (hx : InLs l xs ds) (k : RD K D0 R ((.ref a, .list ds) :: l) T) : RD K D0 (star (GL.objs [(a, .lst xs)]) R) l T := fun N H A => by
  obtain ⟨N1, N2, e, dj, h1, h2⟩ := A.r
  exact RD.freeze k N H ⟨A.nt, ⟨N1, N2, e, dj, ⟨fun b => (h1.1 b).trans ⟨fun ⟨o, m⟩ => congrArg Prod.fst (List.mem_singleton.1 m), fun z => ⟨.lst xs, by rw [z]; exact List.Mem.head _⟩⟩, xs, A.ob (List.Mem.head _), A.dts hx⟩, h2⟩, A.d0, A.f⟩
theorem d_lenX {a : Addr} {xs : List V} (ha : (a, .lst xs) ∈ L) (k : RD K D0 (star (objs L) R) l (Q (.int (xs.length : Nat)))) : RD K D0 (star (objs L) R) l (fun H => gLen K [.ref a] H Q) := fun N H A =>
  ⟨_, _, rfl, .inl ⟨xs, SqL.of (A.ob ha), rfl⟩, k N H A⟩
theorem d_appX {a : Addr} {xs : List V} {y : V} (ha : (a, .lst xs) ∈ L) (hz : xs.length < sizeLine) (k : RD K D0 (star (objs (putO L a (.lst (xs ++ [y])))) R) l (Q .non)) : RD K D0 (star (objs L) R) l (fun H => rAppend (.ref a) [y] H Q) := fun N H A =>
  ⟨a, xs, y, rfl, rfl, A.ob ha, hz, k _ _ (A.setOb (fun _ z => by cases z) ha)⟩
theorem d_tyX {a : Addr} {xs : List V} {T' : Hp → Prop} (ha : (a, .lst xs) ∈ L) (k : RD K D0 (star (objs L) R) l T') : RD K D0 (star (objs L) R) l (fun H => kTy K "list" (.ref a) H T') := fun N H A => ⟨.inl ⟨rfl, xs, SqL.of (A.ob ha)⟩, k N H A⟩
theorem d_while {c : TT} {tb : TS} (P : Nat → Res → L2.St → List (V × PyData) → Prop) {m0 : Nat} (h0 : P m0 R σ l)
    (hs : ∀ m R' σ' l', P m R' σ' l' → RD K D0 R' l' (fun H => c σ' H fun b H1 => if b = true then ∃ N : L2.St → Hp → Prop, (∀ σ2 H2, N σ2 H2 → ∃ m', m' < m ∧ Cont K D0 (P m') σ2 H2) ∧ tb { D with nx := N, ct := N, bk := D.nx } σ' H1 else D.nx σ' H1)) :
    RD K D0 R l (fun H => tWhile c tb D σ H) := fun N H A =>
  ⟨fun m => Cont K D0 (P m), ⟨m0, R, l, N, h0, A⟩, fun m σ' H' ⟨R', l', N', p, A'⟩ => hs m R' σ' l' p N' H' A'⟩
theorem d_whileIn {tb : TS} {P : Nat → Res → L2.St → List (V × PyData) → Prop} {m : Nat} (k : RD K D0 R l (fun H => tb { D with nx := fun σ2 H2 => ∃ m', m' < m ∧ Cont K D0 (P m') σ2 H2, ct := fun σ2 H2 => ∃ m', m' < m ∧ Cont K D0 (P m') σ2 H2, bk := D.nx } σ H)) :
    RD K D0 R l (fun H => ∃ N : L2.St → Hp → Prop, (∀ σ2 H2, N σ2 H2 → ∃ m', m' < m ∧ Cont K D0 (P m') σ2 H2) ∧ tb { D with nx := N, ct := N, bk := D.nx } σ H) := fun N H A => ⟨_, fun _ _ h => h, k N H A⟩
theorem d_whileEnd {P : Nat → Res → L2.St → List (V × PyData) → Prop} {m m' : Nat} {l' : List (V × PyData)} (lt : m' < m) (h : P m' R σ l') (s : ∀ p ∈ l', InL l p.1 p.2) : RD K D0 R l (fun H => ∃ m', m' < m ∧ Cont K D0 (P m') σ H) := fun N H A => ⟨m', lt, R, l', N, h, A.weak s⟩
/-- a new tuple of any values, known by name -/
theorem d_newTV {xs : List V} (hl : xs.length ≤ sizeLine) (k : ∀ q, D0 q = none → RD K (upd D0 q (.tup xs)) R l (Q (.ref q))) : RD K D0 R l (fun H => kTup xs H Q) := fun N H A => by
  refine ⟨hl, fun q hq => ?_⟩
  have dq : D0 q = none := by
    cases e : D0 q with
    | none => rfl
    | some u => exact absurd (A.fixed e) (by rw [hq]; exact fun z => by cases z)
  obtain ⟨A', e⟩ := A.new (.tup xs) hq
  have A2 : At K (upd D0 q (.tup xs)) R l N (upd H q (.tup xs)) := ⟨A'.nt, A'.r, fun b u h => by
    by_cases z : b = q
    · subst z
      rw [upd_same] at h
      cases h
      exact e
    · rw [upd_ne z] at h
      exact A'.d0 b u h, A'.f⟩
  exact k q dq N _ A2
theorem d_gTup2D {q : Addr} {v1 v2 : V} {g : TGs} {Qn : L2.St → Hp → Prop} (hq : D0 q = some (.tup [v1, v2])) (k : RD K D0 R l (g [v1, v2] σ · Qn)) : RD K D0 R l (fun H => gTup K 2 g (.ref q) σ H Qn) := fun N H A =>
  ⟨q, [v1, v2], rfl, .inl (.inl (A.fixed hq)), rfl, k N H A⟩
/-- a display of any values, among the owned objects -/
theorem d_newLX {xs : List V} (hl : xs.length ≤ sizeLine) (k : ∀ a, (∀ p ∈ L, a ≠ p.1) → RD K D0 (star (objs ((a, .lst xs) :: L)) R) l (Q (.ref a))) : RD K D0 (star (objs L) R) l (fun H => kLst xs H Q) := fun N H A =>
  ⟨hl, fun p hp => k p (A.ob_ne hp) _ _ (A.newOb (fun _ z => by cases z) hp)⟩
theorem InLs.tail {p : V × PyData} {vs : List V} {ds : List PyData} (h : InLs l vs ds) : InLs (p :: l) vs ds := h.weak (sub_tail sub_refl)
theorem InLs.at : ∀ {vs : List V} {ds : List PyData}, InLs l vs ds → ∀ {i : Nat} {d : PyData}, ds[i]? = some d → ∃ v, vs[i]? = some v ∧ InL l v d
  | _, _, .nil, i, d, h => by simp at h
  | _, _, .cons a b, 0, d, h => by simp at h; subst h; exact ⟨_, rfl, a⟩
  | _, _, .cons a b, i + 1, d, h => by
    obtain ⟨v, e, x⟩ := InLs.at b (i := i) (d := d) (by simpa using h)
    exact ⟨v, by simpa using e, x⟩
theorem InLs.append : ∀ {vs ws : List V} {ds es : List PyData}, InLs l vs ds → InLs l ws es → InLs l (vs ++ ws) (ds ++ es)
  | _, _, _, _, .nil, h => h
  | _, _, _, _, .cons a b, h => .cons a (InLs.append b h)
theorem star_assoc2 {R S T : Res} {N : Addr → Prop} {D H : Hp} (h : (star R (star S T)).h N D H) : (star (star R S) T).h N D H :=
  star_comm (star_assoc (star_comm (star_assoc (star_comm h))))
theorem RD.pull {S U : Res} {T : Hp → Prop} (k : RD K D0 (star S (star U R)) l T) : RD K D0 (star (star S U) R) l T := RD.res star_assoc k
theorem RD.push {S U : Res} {T : Hp → Prop} (k : RD K D0 (star (star S U) R) l T) : RD K D0 (star S (star U R)) l T := RD.res star_assoc2 k
theorem putF_new {f : Str} {v : V} : ∀ {fs : List (Str × V)}, (fs.all fun p => !decide (p.1 = f)) = true → putF f v fs = fs ++ [(f, v)]
  | [], _ => rfl
  | p :: fs, h => by
    rw [List.all_cons, Bool.and_eq_true, Bool.not_eq_true', decide_eq_false_iff_not] at h
    obtain ⟨q, u⟩ := p
    show (if q = f then _ else _) = _
    rw [if_neg h.1, putF_new h.2]
    rfl
/-- for x in (v1, .., vn), a tuple of any values known by name -/
theorem d_forTV {g : TG} {tb : TS} {q : Addr} {xs : List V} (hq : D0 q = some (.tup xs)) (P : Nat → Res → L2.St → List (V × PyData) → Prop) (h0 : P 0 R σ l)
    (hs : ∀ i x R' σ' l', xs[i]? = some x → P i R' σ' l' → RD K D0 R' l' (fun H => g x σ' H fun σ2 H2 => tb { D with nx := Cont K D0 (P (i + 1)), ct := Cont K D0 (P (i + 1)), bk := D.nx } σ2 H2))
    (hd : ∀ R' σ' l', P xs.length R' σ' l' → RD K D0 R' l' (fun H => D.nx σ' H)) :
    RD K D0 R l (fun H => wIt K (.ref q) H fun J H1 => ForK g tb D σ J H1) := fun N H A => by
  refine .inr (.inl ⟨q, rfl, ⟨xs, .inl (.inl (A.fixed hq))⟩, fun i m σ H => m = xs.length - i ∧ i ≤ xs.length ∧ Cont K D0 (P i) σ H, ⟨_, rfl, Nat.zero_le _, R, l, N, h0, A⟩, ?_⟩)
  rintro i m σ' H' ⟨rfl, hi, R', l', N', p, A'⟩
  have hq' : SqT K H' q xs := .inl (.inl (A'.fixed hq))
  by_cases hlt : i < xs.length
  · refine .inr ⟨⟨xs, xs[i], hq', by simp [hlt]⟩, Cont K D0 (P (i + 1)), fun σ2 H2 p => ⟨xs.length - (i + 1), by omega, rfl, hlt, p⟩, ?_⟩
    rintro x H2 ⟨rfl, hy⟩
    exact hs i x R' σ' l' (hy xs hq') p N' _ A'
  · have e : i = xs.length := by omega
    subst e
    exact .inl ⟨⟨xs, hq', Nat.le_refl _⟩, hd R' σ' l' p N' H' A'⟩
end
end GL

/-! I8: list.extend of an owned list; all strings in order. -/
namespace GL
open PySem PySem.Spec L2
open PyProof.Rows hiding St
open SX (S)
local macro_rules | `(tactic| walk_at "mem") => `(tactic| (first | exact List.Mem.head _ | exact List.Mem.tail _ (List.Mem.head _) | exact List.Mem.tail _ (List.Mem.tail _ (List.Mem.head _)) | ((repeat (first | exact List.Mem.head _ | apply List.Mem.tail)); done)))
local macro_rules | `(tactic| walk_at "inl") => `(tactic| (first | exact InL.int _ | exact InL.str _ | exact InL.bl _ | exact InL.non | (refine InL.mem ?zm; walk_at "mem") | assumption))
local macro_rules | `(tactic| walk_at "inls") => `(tactic| (repeat (first | exact InLs.nil | (refine InLs.cons ?zi ?_; case zi => walk_at "inl"))))
local macro_rules | `(tactic| walk_at "set") => `(tactic| (simp only [wipe, List.set_cons_succ, List.set_cons_zero]; rfl))
local macro_rules | `(tactic| walk_at "tails") => `(tactic| (first | exact sub_refl | exact sub_tail sub_refl | exact sub_tail (sub_tail sub_refl) | exact sub_nil | ((repeat (first | exact sub_refl | apply sub_tail)); done)))
local macro_rules | `(tactic| walk_at "sub") => `(tactic| (first | walk_at "tails" | ((repeat (refine sub_cons ?zi ?_; case zi => walk_at "inl")); walk_at "tails")))
local macro_rules | `(tactic| walk_at "g1") => `(tactic| (first
  | with_reducible refine d_seq ?_
  | with_reducible refine d_asg ?_
  | ((with_reducible refine d_name (σ' := ?zs) ?zh ?_); (case zh => walk_at "set"))
  | ((with_reducible refine d_var (v := ?zs) ?zh ?_); (case zh => rfl))
  | with_reducible refine d_C ?_
  | with_reducible refine d_op ?_
  | with_reducible refine d_cons ?_
  | with_reducible refine d_nil ?_
  | with_reducible refine d_cb ?_
  | with_reducible refine d_g ?_
  | with_reducible refine d_ifS ?_
  | with_reducible refine d_test ?_
  | with_reducible refine d_bl ?_
  | with_reducible refine d_addI ?_
  | with_reducible refine d_I0 ?_
  | with_reducible refine d_ret ?_
  | with_reducible refine d_retN ?_
  | with_reducible refine d_next ?_
  | with_reducible refine d_drop ?_
  | with_reducible refine d_and ?_
  | with_reducible refine d_or ?_
  | with_reducible refine d_not ?_
  | with_reducible refine d_andV ?_
  | with_reducible refine d_orV ?_
  | with_reducible refine d_notV ?_
  | with_reducible refine d_tru ?_
  | with_reducible refine d_truB ?_
  | with_reducible refine d_tif ?_
  | with_reducible refine d_iteT ?_
  | with_reducible refine d_iteF ?_
  | with_reducible refine d_iteNT ?_
  | with_reducible refine d_iteNF ?_
  | with_reducible refine d_eqI ?_
  | with_reducible refine d_neI ?_
  | with_reducible refine d_eqS ?_
  | with_reducible refine d_neS ?_
  | with_reducible refine d_eqB ?_
  | with_reducible refine d_neB ?_
  | with_reducible refine d_isN ?_
  | with_reducible refine d_notN ?_
  | with_reducible refine d_bm ?_
  | with_reducible refine d_tyS ?_
  | with_reducible refine d_tyO ?_
  | with_reducible refine d_find3 ?_
  | with_reducible refine d_tup ?_
  | with_reducible refine d_lst ?_
  | with_reducible refine d_for ?_
  | with_reducible refine d_iRng1 ?_
  | with_reducible refine d_gIt ?_
  | with_reducible refine d_lc ?_
  | with_reducible refine d_yes ?_
  | with_reducible refine d_tSl ?_
  | with_reducible refine d_noPart ?_
  | with_reducible refine d_part ?_
  | with_reducible refine d_int ?_
  | ((with_reducible refine d_wipe ?zh ?_); (case zh => rfl))
  | ((with_reducible refine d_aug (v := ?zs) ?zh ?_); (case zh => rfl))
  | with_reducible refine d_ipI ?_
  | ((with_reducible refine d_set (σ' := ?zs) ?zh ?_); (case zh => walk_at "set"))))
local macro_rules | `(tactic| walk_at "go") => `(tactic| (repeat walk_at "g1"))
local macro_rules | `(tactic| walk_at "g1") => `(tactic| (first
  | with_reducible refine d_par ?_
  | with_reducible refine d_kPar ?_))
section
variable {K : PySem.W.Frag} {W : WX} {D0 : Hp} {R : Res} {l : List (V × PyData)} {Q : VK} {vs : List V} {H : Hp} {E : XK} {σ : L2.St}
theorem few_sz {n : Nat} (h : n ≤ 1000) : n < sizeLine := Nat.lt_of_le_of_lt h (Nat.lt_of_lt_of_le (by decide) line_big)
theorem d_extend {a : Addr} {ds es : List PyData} {y : V} (hy : InL l y (.list es)) (hz : ds.length + es.length ≤ sizeLine) (k : RD K D0 (star (own K a (ds ++ es)) R) l (Q .non)) : RD K D0 (star (own K a ds) R) l (fun H => rExtend (.ref a) [y] H Q) := fun N H A => by
  obtain ⟨xs, hx, hd⟩ := A.ownAt
  obtain ⟨b, zs, rfl, hb, he⟩ := (A.dt hy).list
  exact ⟨a, b, xs, zs, rfl, rfl, hx, off_same b _ hb, by rw [hd.len, he.len]; exact hz, k _ _ (A.setOwn (hd.append he))⟩
def levelS (k : Nat) : Nat → List (List Nat)
  | 0 => [[]]
  | i + 1 => (levelS k i).flatMap fun cs => (([97, 98, 99] : List Nat).take k).map fun c => cs ++ [c]
def allS (k : Nat) : Nat → List (List Nat)
  | 0 => [[]]
  | i + 1 => allS k i ++ levelS k (i + 1)
def strD (cs : List Nat) : PyData := .str (S cs)
theorem level_few : ∀ k ≤ 3, ∀ i ≤ 4, (levelS k i).length ≤ 81 ∧ (allS k i).length ≤ 121 := by decide +kernel
theorem level_len {k : Nat} : ∀ {i : Nat} {cs : List Nat}, cs ∈ levelS k i → cs.length = i
  | 0, cs, h => by rw [List.mem_singleton.1 h]; rfl
  | i + 1, cs, h => by
    obtain ⟨bs, hb, hc⟩ := List.mem_flatMap.1 h
    obtain ⟨c, _, rfl⟩ := List.mem_map.1 hc
    rw [List.length_append, level_len hb]
    rfl
theorem all_len {k : Nat} : ∀ {i : Nat} {cs : List Nat}, cs ∈ allS k i → cs.length ≤ i
  | 0, cs, h => by rw [List.mem_singleton.1 h]; exact Nat.le_refl _
  | i + 1, cs, h => by
    rcases List.mem_append.1 h with h | h
    · exact Nat.le_succ_of_le (all_len h)
    · exact Nat.le_of_eq (level_len h)
def sp__law_all_strings (K : PySem.W.Frag) : Sp := fun vs H Q _ => ∃ (k m : Nat) (D0 : Hp) (F : Res) (l : List (V × PyData)) (N : Addr → Prop), vs = [.int k, .int m] ∧ At K D0 F l N H ∧ 1 ≤ k ∧ k ≤ 3 ∧ m ≤ 4 ∧
  ∀ x, RD K D0 F ((x, .list ((allS k m).map strD)) :: l) (Q x)
def t__law_all_strings (K : PySem.W.Frag) (W : WX) : TS := (tSeq (tPar 2 3 (tCons (tLst (tCons (tC (.str "")) tNil)) (tCons (tLst (tCons (tC (.str "")) tNil)) tNil)))
  (tSeq (tFor (iRng1 (tCons (tVar 1) tNil)) (gName 4) (tSeq (tAsg (tLst tNil) (gName 5))
  (tSeq (tFor (gIt K (tVar 3)) (gName 6) (tDrop (tBM K "list" rExtend (tVar 5) (tCons (tLc (gIt K (tSl (gSl K) (tC (.str "abc")) tNoPart (tPart (tVar 0)))) (gName 7) tYes (tOp (gAdd K) (tVar 6) (tVar 7)) [7]) tNil))))
  (tPar 2 3 (tCons (tOp (gAdd K) (tVar 2) (tVar 5)) (tCons (tVar 5) tNil))))))
  (tRet (tVar 2))))

theorem len__law_all_strings (h : sp__law_all_strings K vs H Q E) : vs.length = 2 := by
  obtain ⟨_, _, _, _, _, _, rfl, _⟩ := h
  rfl
theorem d_allStrings {k m : Nat} (k1 : 1 ≤ k) (k3 : k ≤ 3) (m3 : m ≤ 4) (kk : ∀ x, RD K D0 R ((x, .list ((allS k m).map strD)) :: l) (Q x)) : RD K D0 R l (fun H => sp__law_all_strings K [.int k, .int m] H Q E) := fun N H A => ⟨k, m, D0, R, l, N, rfl, A, k1, k3, m3, kk⟩
theorem pure__law_all_strings (h : sp__law_all_strings K vs H Q E) : t__law_all_strings K W { nx := fun _ H' => Q .non H', rt := Q } (start ["signs", "most", "found", "level", "step", "after", "one", "sign"] vs) H := by
  obtain ⟨k, m, D0, F, l, N, rfl, A, k1, k3, m3, kk⟩ := h
  refine (?_ : RD K D0 F l (fun H => t__law_all_strings K W _ [some (.int k), some (.int m), none, none, none, none, none, none] H)) N H A
  unfold t__law_all_strings
  walk_at "go"
  rw [emp_S]
  refine d_newL (ds := [strD []]) (show 1 ≤ sizeLine by decide) (.cons (.str _) .nil) fun vf => ?_
  walk_at "go"
  refine d_newL (ds := [strD []]) (show 1 ≤ sizeLine by decide) (.cons (.str _) .nil) fun vl => ?_
  walk_at "go"
  refine d_rng1 (by omega) (by omega) ?_
  refine d_forRange (fun i R' σ' l' => R' = F ∧ ∃ (vf vl : V) (v4 v5 v6 : Option V), σ' = [some (.int k), some (.int m), some vf, some vl, v4, v5, v6, none] ∧ InL l' vf (.list ((allS k i).map strD)) ∧ InL l' vl (.list ((levelS k i).map strD)) ∧ ∀ q ∈ l, InL l' q.1 q.2) ?_ ?_ ?_
  · exact ⟨rfl, vf, vl, none, none, none, rfl, .mem (by walk_at "mem"), .mem (by walk_at "mem"), by walk_at "sub"⟩
  · rintro i R' σ' l1 hi ⟨rfl, vf, vl, v4, v5, v6, rfl, hf, hl, sub⟩
    have i3 : i + 1 ≤ 4 := by omega
    obtain ⟨few1, few2⟩ := level_few k k3 i (by omega)
    obtain ⟨few3, few4⟩ := level_few k k3 (i + 1) i3
    walk_at "go"
    refine d_newO (ds := []) (Nat.zero_le _) .nil fun a5 => ?_
    walk_at "go"
    have nxt : ∀ cs : List Nat, ((([97, 98, 99] : List Nat).take k).map fun c => cs ++ [c]).length ≤ 3 := fun cs => by
      rw [List.length_map, List.length_take]
      show min k 3 ≤ 3
      omega
    refine d_forList (v := vl) (ds := (levelS k i).map strD) hl (fun j R'' σ'' l' => R'' = star (own K a5 ((((levelS k i).take j).flatMap fun cs => (([97, 98, 99] : List Nat).take k).map fun c => cs ++ [c]).map strD)) R' ∧
      (∃ v6 : Option V, σ'' = [some (.int k), some (.int m), some vf, some vl, some (.int (0 + (i : Int))), some (.ref a5), v6, none]) ∧ ∀ q ∈ l1, InL l' q.1 q.2) (fun j R'' σ'' l' h => hl.weak h.2.2) ?_ ?_ ?_
    · exact ⟨rfl, ⟨_, rfl⟩, sub_refl⟩
    · rintro j d x R'' σ'' l' hd dv ⟨rfl, ⟨v6, rfl⟩, sub2⟩
      rw [List.getElem?_map] at hd
      obtain ⟨cs, hcs, rfl⟩ := Option.map_eq_some_iff.1 hd
      obtain rfl : x = .str (S cs) := dv
      have lcs : cs.length = i := level_len (List.mem_of_getElem? hcs)
      walk_at "go"
      rw [abc_S]
      refine d_takeA (by decide) ?_
      walk_at "go"
      refine d_lcStr1 (fun n es => es = ((((([97, 98, 99] : List Nat).take k).take n).map fun c => cs ++ [c])).map strD) rfl ?_ ?_
      · rintro n c Dd es hc rfl
        rw [S_tl] at hc
        walk_at "go"
        refine d_cat (b := [c]) (by rw [lcs]; show i + 1 ≤ 1000000; omega) ?_
        refine d_item1 (d := strD (cs ++ [c])) (.str _) ?_ ?_ (by walk_at "sub")
        · rw [List.length_map, List.length_map, List.length_take]
          have := nxt cs
          rw [List.length_map] at this
          exact few_sz (by omega)
        · rw [List.take_succ, hc]
          simp
      · rintro u es rfl
        rw [S_tl, List.take_length]
        walk_at "go"
        refine d_extend (.mem (by walk_at "mem")) ?_ ?_
        · rw [List.length_map, List.length_map]
          have h1 : (((levelS k i).take j).flatMap fun cs => (([97, 98, 99] : List Nat).take k).map fun c => cs ++ [c]).length ≤ 81 := by
            refine Nat.le_trans ?_ few3
            show _ ≤ ((levelS k i).flatMap _).length
            conv => rhs; rw [← List.take_append_drop j (levelS k i)]
            rw [List.flatMap_append, List.length_append]
            exact Nat.le_add_right _ _
          exact Nat.le_of_lt (few_sz (by have := nxt cs; omega))
        · walk_at "go"
          dsimp only
          refine d_end (l' := l') ⟨?_, ⟨_, rfl⟩, sub2⟩ (by walk_at "sub")
          rw [List.take_succ, hcs, List.flatMap_append, List.map_append]
          simp
    · rintro R'' σ'' l' ⟨rfl, ⟨v6, rfl⟩, sub2⟩
      rw [List.length_map, List.take_length]
      refine RD.freeze ?_
      walk_at "go"
      refine d_catL (ds := (allS k i).map strD) (es := (levelS k (i + 1)).map strD) ((hf.weak sub2).tail) (.mem (by walk_at "mem")) ?_ fun u => ?_
      · rw [List.length_map, List.length_map]
        exact Nat.le_of_lt (few_sz (by omega))
      walk_at "go"
      dsimp only
      refine d_end (l' := (u, .list ((allS k i).map strD ++ (levelS k (i + 1)).map strD)) :: (.ref a5, .list ((levelS k (i + 1)).map strD)) :: l') ⟨rfl, u, .ref a5, _, _, _, rfl, ?_, .mem (by walk_at "mem"), fun q hq => ((sub q hq).weak sub2).tail.tail⟩ sub_refl
      rw [← List.map_append]
      exact .mem (List.Mem.head _)
  · rintro R' σ' l1 ⟨rfl, vf, vl, v4, v5, v6, rfl, hf, hl, sub⟩
    walk_at "go"
    exact RD.weak (sub_cons hf sub) (kk vf)
end
end GL

/-! G23: lists lent for a while, comprehensions whose list stays open, lists of owned lists. -/
namespace GL
open PySem PySem.Spec L2
open PyProof.Rows hiding St
/-- the heap without one address -/
noncomputable def cut (D : Hp) (a : Addr) : Hp := fun b => open Classical in if b = a then none else D b
theorem cut_self {D : Hp} {a : Addr} : cut D a a = none := if_pos rfl
theorem cut_ne {D : Hp} {a b : Addr} (h : b ≠ a) : cut D a b = D b := if_neg h
theorem cut_same {D D' : Hp} {a : Addr} (h : Same D D') : Same (cut D a) (cut D' a) := fun b o e => by
  by_cases z : b = a
  · rw [z, cut_self] at e
    cases e
  · rw [cut_ne z] at e ⊢
    exact h b o e
/-- R, whatever stands at a -/
noncomputable def less (a : Addr) (R : Res) : Res where
  h := fun N D H => R.h N (cut D a) H
  st := fun h s k => R.st h (cut_same s) k
/-- a resource that asks nothing of what stands -/
def Loc (S : Res) : Prop := ∀ {N : Addr → Prop} {D D' H : Hp}, S.h N D H → S.h N D' H
theorem loc_objs (L : List (Addr × HO)) : Loc (objs L) := fun h => h
theorem loc_mach {K : PySem.W.Frag} {a : Addr} {m : Mch} : Loc (mach K a m) := fun h => h
theorem loc_star {R S : Res} (h1 : Loc R) (h2 : Loc S) : Loc (star R S) := fun ⟨N1, N2, e, dj, a, b⟩ => ⟨N1, N2, e, dj, h1 a, h2 b⟩
theorem loc_emp : Loc emp := fun h => h
section
variable {K : PySem.W.Frag} {D0 D1 : Hp} {R S : Res} {l l' : List (V × PyData)} {σ : L2.St} {D : Ends} {Q : VK} {L : List (Addr × HO)} {T : Hp → Prop} {w : World}
/-! ### lending -/
/-- D1: what stood, and the list at a with items xs -/
structure Lent (K : PySem.W.Frag) (D0 D1 : Hp) (a : Addr) (xs : List V) (l : List (V × PyData)) (Dm : Hp) : Prop where
  no : Dm a = none
  eq : D1 = upd Dm a (.lst xs)
  d0 : Same D0 Dm
  f : ∀ p ∈ l, Dt K Dm p.1 p.2
theorem lend_at {N : Addr → Prop} {H : Hp} {a : Addr} {xs : List V} {ds : List PyData} (A : At K D0 (star S R) l N H) (hS : ∀ N1 D, S.h N1 D H → ∀ b, N1 b ↔ b = a) (hx : H a = some (.lst xs)) (hd : DtAll K (off H N) xs ds) :
    ∃ N2, Lent K D0 (upd (off H N) a (.lst xs)) a xs l (off H N) ∧ At K (upd (off H N) a (.lst xs)) (less a R) ((.ref a, .list ds) :: l) N2 H := by
  obtain ⟨N1, N2, e, dj, h1, h2⟩ := A.r
  have e1 := hS N1 _ h1
  have na : ¬ N2 a := fun z => dj a ((e1 a).2 rfl) z
  have offa : off H N a = none := if_pos ((e a).2 (.inl ((e1 a).2 rfl)))
  have sm : Same (off H N) (off H N2) := off_grow fun b hb _ => ⟨fun z => hb ((e b).2 (.inr z)), rfl⟩
  have ce : off H N = cut (off H N2) a := funext fun b => by
    by_cases z : b = a
    · rw [z, cut_self, offa]
    · rw [cut_ne z]
      by_cases n2 : N2 b
      · rw [show off H N2 b = none from if_pos n2, show off H N b = none from if_pos ((e b).2 (.inr n2))]
      · rw [off_ne n2, off_ne (fun q => ((e b).1 q).elim (fun q => z ((e1 b).1 q)) n2)]
  have sm2 : Same (upd (off H N) a (.lst xs)) (off H N2) := fun b o q => by
    by_cases z : b = a
    · subst z
      rw [upd_same] at q
      cases q
      rw [off_ne na]
      exact hx
    · rw [upd_ne z] at q
      exact sm b o q
  refine ⟨N2, ⟨offa, rfl, A.d0, A.f⟩, fun b hb => A.nt b ((e b).2 (.inr hb)), ?_, sm2, fun q hq => ?_⟩
  · show R.h N2 (cut (off H N2) a) H
    rw [← ce]
    exact h2
  · rcases List.mem_cons.1 hq with rfl | hq
    · exact .lst (by rw [off_ne na]; exact hx) (hd.mono sm)
    · exact (A.f q hq).mono sm
theorem RD.lend {a : Addr} {ds : List PyData} (k : ∀ xs D1 Dm, Lent K D0 D1 a xs l Dm → DtAll K Dm xs ds → RD K D1 (less a R) ((.ref a, .list ds) :: l) T) : RD K D0 (star (own K a ds) R) l T := fun N H A => by
  obtain ⟨xs, hx, hd⟩ := A.ownAt
  obtain ⟨N2, le, A'⟩ := lend_at A (fun _ _ h => h.1) hx hd
  exact k xs _ _ le hd N2 H A'
theorem RD.lendO {a : Addr} {xs : List V} {ds : List PyData} (hx : InLs l xs ds) (k : ∀ D1 Dm, Lent K D0 D1 a xs l Dm → RD K D1 (less a R) ((.ref a, .list ds) :: l) T) : RD K D0 (star (GL.objs [(a, .lst xs)]) R) l T := fun N H A => by
  obtain ⟨N2, le, A'⟩ := lend_at (S := GL.objs [(a, .lst xs)]) A (fun _ _ h b => (h.1 b).trans ⟨fun ⟨o, m⟩ => congrArg Prod.fst (List.mem_singleton.1 m), fun z => ⟨.lst xs, by rw [z]; exact List.Mem.head _⟩⟩) (A.ob (List.Mem.head _)) (A.dts hx)
  exact k _ _ le N2 H A'
theorem thaw_at {a : Addr} {xs : List V} {N : Addr → Prop} {H Dm : Hp} (le : Lent K D0 D1 a xs l Dm) (hS : Loc S) {U : Res} (hU : ∀ D, Same Dm D → H a = some (.lst xs) → U.h (· = a) D H) (A : At K D1 (star S (less a R)) l' N H) : ∃ N', At K D0 (star S (star U R)) l N' H := by
  have e := le.eq
  have da := le.no
  have ha : off H N a = some (.lst xs) := A.d0 a _ (by rw [e, upd_same])
  have na : ¬ N a := fun z => by
    unfold off at ha
    rw [if_pos z] at ha
    cases ha
  have hx : H a = some (.lst xs) := by
    rw [← off_ne na (H := H)]
    exact ha
  have ce : cut (off H N) a = off H fun b => b = a ∨ N b := funext fun b => by
    by_cases z : b = a
    · rw [z, cut_self, show off H (fun b => b = a ∨ N b) a = none from if_pos (.inl rfl)]
    · rw [cut_ne z]
      by_cases n : N b
      · rw [show off H N b = none from if_pos n, show off H (fun b => b = a ∨ N b) b = none from if_pos (.inr n)]
      · rw [off_ne n, off_ne (N := fun b => b = a ∨ N b) (fun q => q.elim z n)]
  have sm : Same Dm (off H fun b => b = a ∨ N b) := fun b o h => by
    have ne : b ≠ a := fun z => by rw [z, da] at h; cases h
    have h' : off H N b = some o := A.d0 b o (by rw [e, upd_ne ne]; exact h)
    rw [← ce, cut_ne ne]
    exact h'
  obtain ⟨N1, N2, en, dj, h1, h2⟩ := A.r
  refine ⟨fun b => b = a ∨ N b, ?_, ⟨N1, fun b => b = a ∨ N2 b, fun b => ?_, fun b x y => ?_, hS h1, fun b => b = a, N2, fun b => Iff.rfl, fun b x y => ?_, hU _ sm hx, ?_⟩, le.d0.trans sm, fun p hp => (le.f p hp).mono sm⟩
  · rintro b (rfl | hb)
    · exact ⟨_, hx, fun _ z => by cases z⟩
    · exact A.nt b hb
  · show (b = a ∨ N b) ↔ N1 b ∨ (b = a ∨ N2 b)
    rw [en b]
    exact ⟨fun q => q.elim (fun z => .inr (.inl z)) fun q => q.elim .inl fun z => .inr (.inr z), fun q => q.elim (fun z => .inr (.inl z)) fun q => q.elim .inl fun z => .inr (.inr z)⟩
  · rcases y with y | y
    · exact na (y ▸ (en b).2 (.inl x))
    · exact dj b x y
  · exact na (x ▸ (en b).2 (.inr y))
  · have h2 : R.h N2 (cut (off H N) a) H := h2
    rw [ce] at h2
    exact h2
theorem own_sits {a : Addr} {xs : List V} {ds : List PyData} {H Dm D : Hp} (hd : DtAll K Dm xs ds) (s : Same Dm D) (hx : H a = some (.lst xs)) : (own K a ds).h (· = a) D H := ⟨fun _ => Iff.rfl, xs, hx, hd.mono s⟩
theorem RD.thaw1 {a : Addr} {xs : List V} {ds : List PyData} {Dm : Hp} (le : Lent K D0 D1 a xs l Dm) (hd : DtAll K Dm xs ds) (hS : Loc S) (k : RD K D0 (star S (star (own K a ds) R)) l T) : RD K D1 (star S (less a R)) l' T := fun N H A => by
  obtain ⟨N', A'⟩ := thaw_at le hS (fun D s hx => own_sits hd s hx) A
  exact k N' H A'
theorem At.emp1 {N : Addr → Prop} {H : Hp} (A : At K D0 R l N H) : At K D0 (star emp R) l N H :=
  ⟨A.nt, ⟨fun _ => False, N, fun b => ⟨.inr, fun z => z.elim False.elim id⟩, fun _ z _ => z, fun _ z => z, A.r⟩, A.d0, A.f⟩
theorem RD.thaw {a : Addr} {xs : List V} {ds : List PyData} {Dm : Hp} (le : Lent K D0 D1 a xs l Dm) (hd : DtAll K Dm xs ds) (k : RD K D0 (star (own K a ds) R) l T) : RD K D1 (less a R) l' T := fun N H A =>
  RD.thaw1 (S := emp) le hd loc_emp (RD.drop k) N H A.emp1
theorem objs_sits {a : Addr} {xs : List V} {H D : Hp} (hx : H a = some (.lst xs)) : (objs [(a, .lst xs)]).h (· = a) D H :=
  ⟨fun b => ⟨fun z => ⟨.lst xs, by rw [z]; exact List.Mem.head _⟩, fun ⟨o, m⟩ => congrArg Prod.fst (List.mem_singleton.1 m)⟩, fun p hp => by rw [List.mem_singleton.1 hp]; exact hx⟩
theorem RD.thawO1 {a : Addr} {xs : List V} {Dm : Hp} (le : Lent K D0 D1 a xs l Dm) (hS : Loc S) (k : RD K D0 (star S (star (GL.objs [(a, .lst xs)]) R)) l T) : RD K D1 (star S (less a R)) l' T := fun N H A => by
  obtain ⟨N', A'⟩ := thaw_at le hS (fun D s hx => objs_sits hx) A
  exact k N' H A'
theorem RD.thawO {a : Addr} {xs : List V} {Dm : Hp} (le : Lent K D0 D1 a xs l Dm) (k : RD K D0 (star (GL.objs [(a, .lst xs)]) R) l T) : RD K D1 (less a R) l' T := fun N H A =>
  RD.thawO1 (S := emp) le loc_emp (RD.drop k) N H A.emp1
/-! ### comprehensions whose list stays open -/
end
end GL

/-! N1: what the laws over machines share: plans, their machines, walks of their own. -/
namespace GL
open PySem PySem.Spec L2
open PyProof.Rows hiding St
open SX (S)
local macro_rules | `(tactic| walk_at "mem") => `(tactic| (first | exact List.Mem.head _ | exact List.Mem.tail _ (List.Mem.head _) | exact List.Mem.tail _ (List.Mem.tail _ (List.Mem.head _)) | ((repeat (first | exact List.Mem.head _ | apply List.Mem.tail)); done)))
local macro_rules | `(tactic| walk_at "inl") => `(tactic| (first | exact InL.int _ | exact InL.str _ | exact InL.bl _ | exact InL.non | (refine InL.mem ?zm; walk_at "mem") | assumption))
local macro_rules | `(tactic| walk_at "inls") => `(tactic| (repeat (first | exact InLs.nil | (refine InLs.cons ?zi ?_; case zi => walk_at "inl"))))
local macro_rules | `(tactic| walk_at "set") => `(tactic| (simp only [wipe, List.set_cons_succ, List.set_cons_zero]; rfl))
local macro_rules | `(tactic| walk_at "tails") => `(tactic| (first | exact sub_refl | exact sub_tail sub_refl | exact sub_tail (sub_tail sub_refl) | exact sub_nil | ((repeat (first | exact sub_refl | apply sub_tail)); done)))
local macro_rules | `(tactic| walk_at "sub") => `(tactic| (first | walk_at "tails" | ((repeat (refine sub_cons ?zi ?_; case zi => walk_at "inl")); walk_at "tails")))
local macro_rules | `(tactic| walk_at "g1") => `(tactic| (first
  | with_reducible refine d_seq ?_
  | with_reducible refine d_asg ?_
  | ((with_reducible refine d_name (σ' := ?zs) ?zh ?_); (case zh => walk_at "set"))
  | ((with_reducible refine d_var (v := ?zs) ?zh ?_); (case zh => rfl))
  | with_reducible refine d_C ?_
  | with_reducible refine d_op ?_
  | with_reducible refine d_cons ?_
  | with_reducible refine d_nil ?_
  | with_reducible refine d_cb ?_
  | with_reducible refine d_g ?_
  | with_reducible refine d_ifS ?_
  | with_reducible refine d_test ?_
  | with_reducible refine d_bl ?_
  | with_reducible refine d_addI ?_
  | with_reducible refine d_I0 ?_
  | with_reducible refine d_ret ?_
  | with_reducible refine d_retN ?_
  | with_reducible refine d_next ?_
  | with_reducible refine d_drop ?_
  | with_reducible refine d_and ?_
  | with_reducible refine d_or ?_
  | with_reducible refine d_not ?_
  | with_reducible refine d_andV ?_
  | with_reducible refine d_orV ?_
  | with_reducible refine d_notV ?_
  | with_reducible refine d_tru ?_
  | with_reducible refine d_truB ?_
  | with_reducible refine d_tif ?_
  | with_reducible refine d_iteT ?_
  | with_reducible refine d_iteF ?_
  | with_reducible refine d_iteNT ?_
  | with_reducible refine d_iteNF ?_
  | with_reducible refine d_eqI ?_
  | with_reducible refine d_neI ?_
  | with_reducible refine d_eqS ?_
  | with_reducible refine d_neS ?_
  | with_reducible refine d_eqB ?_
  | with_reducible refine d_neB ?_
  | with_reducible refine d_isN ?_
  | with_reducible refine d_notN ?_
  | with_reducible refine d_bm ?_
  | with_reducible refine d_tyS ?_
  | with_reducible refine d_tyO ?_
  | with_reducible refine d_find3 ?_
  | with_reducible refine d_tup ?_
  | with_reducible refine d_lst ?_
  | with_reducible refine d_for ?_
  | with_reducible refine d_iRng1 ?_
  | with_reducible refine d_gIt ?_
  | with_reducible refine d_lc ?_
  | with_reducible refine d_yes ?_
  | with_reducible refine d_tSl ?_
  | with_reducible refine d_noPart ?_
  | with_reducible refine d_part ?_
  | with_reducible refine d_int ?_
  | ((with_reducible refine d_wipe ?zh ?_); (case zh => rfl))
  | ((with_reducible refine d_aug (v := ?zs) ?zh ?_); (case zh => rfl))
  | with_reducible refine d_ipI ?_
  | ((with_reducible refine d_set (σ' := ?zs) ?zh ?_); (case zh => walk_at "set"))))
local macro_rules | `(tactic| walk_at "go") => `(tactic| (repeat walk_at "g1"))
local macro_rules | `(tactic| walk_at "g1") => `(tactic| (first
  | with_reducible refine d_chain ?_
  | with_reducible refine d_tB ?_
  | with_reducible refine d_tGM ?_
  | with_reducible refine d_tGN ?_
  | with_reducible refine d_rz ?_
  | with_reducible refine d_tXf ?_
  | with_reducible refine d_tFld ?_
  | with_reducible refine d_sFld ?_
  | with_reducible refine d_tMix ?_
  | with_reducible refine d_tDIn ?_
  | with_reducible refine d_tDNotIn ?_
  | with_reducible refine d_sDPut ?_
  | with_reducible refine d_sDDelT ?_
  | with_reducible refine d_tSet ?_
  | with_reducible refine d_gcons ?_
  | with_reducible refine d_gnil ?_
  | with_reducible refine d_iKeys ?_))
local macro_rules | `(tactic| walk_at "g1") => `(tactic| (first
  | with_reducible refine d_par ?_
  | with_reducible refine d_kPar ?_))
/-! ### plans -/
structure Plan where
  n : Nat
  st : List Int
  en : List Int
  es : List (Int × Nat × Int)
structure PlanOk (k s e : Nat) (p : Plan) : Prop where
  n1 : 1 ≤ p.n
  ns : p.n ≤ s
  snd : p.st.Nodup
  st : ∀ i ∈ p.st, 0 ≤ i ∧ i < p.n
  nnd : p.en.Nodup
  en : ∀ i ∈ p.en, 0 ≤ i ∧ i < p.n
  nd : p.es.Nodup
  len : p.es.length ≤ e
  ed : ∀ x ∈ p.es, (0 ≤ x.1 ∧ x.1 < p.n) ∧ x.2.1 ∈ ([97, 98, 99] : List Nat).take k ∧ (0 ≤ x.2.2 ∧ x.2.2 < p.n)
def planD (p : Plan) : PyData := .list [.int p.n, .list (p.st.map .int), .list (p.en.map .int), .list (p.es.map eD)]
def machP (k : Nat) (p : Plan) : Mch := ⟨k, p.n, p.es, p.st, p.en⟩
theorem PlanOk.mach {k s e : Nat} {p : Plan} (h : PlanOk k s e p) (k1 : 1 ≤ k) (k3 : k ≤ 3) (s6 : s ≤ 6) (e14 : e ≤ 14) : MOk (machP k p) :=
  ⟨k1, k3, h.n1, Nat.le_trans h.ns s6, Nat.le_trans h.len e14, h.nd, h.ed, h.snd, h.st, h.nnd, h.en⟩
def planX (p : Plan) (a1 a2 a3 : Addr) : List V := [.int p.n, .ref a1, .ref a2, .ref a3]
def planR (K : PySem.W.Frag) (q : Addr) (p : Plan) : Res where
  h := fun N D H => ∃ a1 a2 a3, (star (objs [(q, .lst (planX p a1 a2 a3))]) (star (own K a3 (p.es.map eD)) (star (own K a2 (p.en.map .int)) (own K a1 (p.st.map .int))))).h N D H
  st := fun ⟨a1, a2, a3, h⟩ s k => ⟨a1, a2, a3, Res.st _ h s k⟩
theorem star_right {R S S' : Res} {N : Addr → Prop} {D H : Hp} (k : ∀ {N}, S.h N D H → S'.h N D H) (h : (star R S).h N D H) : (star R S').h N D H := by
  obtain ⟨N1, N2, e, dj, h1, h2⟩ := h
  exact ⟨N1, N2, e, dj, h1, k h2⟩
theorem star_back {R S T : Res} {N : Addr → Prop} {D H : Hp} (h : (star R (star S T)).h N D H) : (star (star R S) T).h N D H :=
by
  obtain ⟨N1, N2, e, dj, h1, N3, N4, e', dj', h2, h3⟩ := h
  refine ⟨fun b => N1 b ∨ N3 b, N4, fun b => ?_, fun b x y => ?_, ⟨N1, N3, fun b => Iff.rfl, fun b x y => dj b x ((e' b).2 (.inl y)), h1, h2⟩, h3⟩
  · rw [e b, e' b, or_assoc]
  · rcases x with x | x
    · exact dj b x ((e' b).2 (.inr y))
    · exact dj' b x y
section
variable {K : PySem.W.Frag} {W : WX} {D0 : Hp} {R : Res} {l : List (V × PyData)} {Q : VK} {vs : List V} {H : Hp} {E : XK} {P : Program} {w : World} {L : List (Addr × HO)} {σ : L2.St} {D : Ends} {T : Hp → Prop}
theorem openPlan {q : Addr} {p : Plan} (k : ∀ a1 a2 a3, RD K D0 (star (objs [(q, .lst (planX p a1 a2 a3))]) (star (own K a3 (p.es.map eD)) (star (own K a2 (p.en.map .int)) (star (own K a1 (p.st.map .int)) R)))) l T) : RD K D0 (star (planR K q p) R) l T := fun N H A => by
  obtain ⟨N1, N2, e, dj, ⟨a1, a2, a3, h1⟩, h2⟩ := A.r
  refine k a1 a2 a3 N H ⟨A.nt, ?_, A.d0, A.f⟩
  have z : (star (star (objs [(q, .lst (planX p a1 a2 a3))]) (star (own K a3 (p.es.map eD)) (star (own K a2 (p.en.map .int)) (own K a1 (p.st.map .int))))) R).h N (off H N) H := ⟨N1, N2, e, dj, h1, h2⟩
  exact star_right (fun y => star_right (fun x => star_assoc x) (star_assoc y)) (star_assoc z)
theorem closePlan {q : Addr} {p : Plan} {a1 a2 a3 : Addr} (k : RD K D0 (star (planR K q p) R) l T) : RD K D0 (star (objs [(q, .lst (planX p a1 a2 a3))]) (star (own K a3 (p.es.map eD)) (star (own K a2 (p.en.map .int)) (star (own K a1 (p.st.map .int)) R)))) l T :=
  RD.res (S := star (planR K q p) R) (fun h => star_mono (R := star (objs [(q, .lst (planX p a1 a2 a3))]) (star (own K a3 (p.es.map eD)) (star (own K a2 (p.en.map .int)) (own K a1 (p.st.map .int))))) (fun z => ⟨a1, a2, a3, z⟩)
    (star_back (star_right (fun y => star_back (star_right (fun x => star_back x) y)) h))) k
theorem freezePlan {q : Addr} {p : Plan} (k : RD K D0 R ((.ref q, planD p) :: l) T) : RD K D0 (star (planR K q p) R) l T := openPlan fun a1 a2 a3 => by
  refine RD.rot ?_
  refine RD.freeze ?_
  refine RD.rot ?_
  refine RD.freeze ?_
  refine RD.rot ?_
  refine RD.freeze ?_
  refine RD.freezeX (ds := [.int p.n, .list (p.st.map .int), .list (p.en.map .int), .list (p.es.map eD)]) ?_ ?_
  · exact .cons (.int _) (.cons (.mem (by walk_at "mem")) (.cons (.mem (by walk_at "mem")) (.cons (.mem (by walk_at "mem")) .nil)))
  · refine RD.weak ?_ k
    walk_at "sub"
theorem edges_any (es : List (Int × Nat × Int)) (x : Int × Nat × Int) : ((es.map eD).any fun e => PyData.eqv e (eD x)) = decide (x ∈ es) := by
  rw [Bool.eq_iff_iff, List.any_eq_true, decide_eq_true_iff]
  have key : ∀ a b : Int × Nat × Int, PyData.eqv (eD a) (eD b) = true ↔ a = b := fun a b => by
    obtain ⟨o, c, t⟩ := a
    obtain ⟨o', c', t'⟩ := b
    simp only [eD, PyData.eqv, PyData.eqvAll, Bool.and_eq_true, Bool.and_true, beq_iff_eq, Prod.mk.injEq]
    constructor
    · rintro ⟨h1, h2, h3⟩
      have := SX.S_inj h2
      exact ⟨h1, by simpa using this, h3⟩
    · rintro ⟨rfl, rfl, rfl⟩
      exact ⟨rfl, rfl, rfl⟩
  constructor
  · rintro ⟨d, hd, e⟩
    obtain ⟨y, hy, rfl⟩ := List.mem_map.1 hd
    exact (key y x).1 e ▸ hy
  · intro h
    exact ⟨eD x, List.mem_map.2 ⟨x, h, rfl⟩, (key x x).2 rfl⟩
theorem eD_depth (x : Int × Nat × Int) : (eD x).depth ≤ 60 := by
  simp only [eD, PyData.depth, PyData.depthAll]
  decide
theorem d_abc {k : Nat} {c : Int} (c0 : 0 ≤ c) (c1 : c < k) (k3 : k ≤ 3) (kk : 97 + c.toNat ∈ ([97, 98, 99] : List Nat).take k → RD K D0 R l (Q (.str (S [97 + c.toNat])))) : RD K D0 R l (fun H => rIx K (.str "abc") (.int c) H Q) := by
  rw [abc_S]
  have hc : atI (S [97, 98, 99]).cps.toList c = some (97 + c.toNat) := by
    have h3 : c = 0 ∨ c = 1 ∨ c = 2 := by omega
    rcases h3 with rfl | rfl | rfl <;> rfl
  refine d_ixS (by rw [S_len]; exact Nat.le_trans (by decide) line_big) hc ?_
  refine kk ?_
  have : ∀ k : Nat, k ≤ 3 → ∀ j : Nat, j < k → 97 + j ∈ ([97, 98, 99] : List Nat).take k := by decide
  exact this k k3 c.toNat (by omega)
def sp__law_plan (K : PySem.W.Frag) : Sp := fun vs H Q _ => ∃ (q : Addr) (k s e : Nat) (D0 : Hp) (F : Res) (l : List (V × PyData)) (N : Addr → Prop), vs = [.ref q, .int k, .int s, .int e] ∧ At K D0 (star (pen K q) F) l N H ∧ 1 ≤ k ∧ k ≤ 3 ∧ 1 ≤ s ∧ s ≤ 6 ∧ e ≤ 14 ∧
  ∀ r p, PlanOk k s e p → RD K D0 (star (planR K r p) (star (pen K q) F)) l (Q (.ref r))
def t__law_plan (K : PySem.W.Frag) (W : WX) : TS := (tSeq (tAsg (tOp (gAdd K) (tC (.int 1)) (tG (sp__law_draw K) W (tCons (tVar 0) (tCons (tVar 2) tNil)))) (gName 4))
  (tSeq (tAsg (tLc (iRng1 (tCons (tVar 4) tNil)) (gName 6) (tOr (tTest (tOp (gEq K) (tVar 6) (tC (.int 0)))) (tTest (tOp (gEq K) (tG (sp__law_draw K) W0 (tCons (tVar 0) (tCons (tC (.int 4)) tNil))) (tC (.int 0))))) (tVar 6) [6]) (gName 5))
  (tSeq (tAsg (tLc (iRng1 (tCons (tVar 4) tNil)) (gName 6) (tTest (tOp (gEq K) (tG (sp__law_draw K) W0 (tCons (tVar 0) (tCons (tC (.int 2)) tNil))) (tC (.int 0)))) (tVar 6) [6]) (gName 7))
  (tSeq (tAsg (tLst tNil) (gName 8))
  (tSeq (tFor (iRng1 (tCons (tG (sp__law_draw K) W (tCons (tVar 0) (tCons (tOp (gAdd K) (tVar 3) (tC (.int 1))) tNil))) tNil)) (gName 9) (tSeq (tAsg (tTup (tCons (tG (sp__law_draw K) W (tCons (tVar 0) (tCons (tVar 4) tNil))) (tCons (tOp (rIx K) (tC (.str "abc")) (tG (sp__law_draw K) W (tCons (tVar 0) (tCons (tVar 1) tNil)))) (tCons (tG (sp__law_draw K) W (tCons (tVar 0) (tCons (tVar 4) tNil))) tNil)))) (gName 10))
  (tIfS (tTest (tOp (gIn K true) (tVar 10) (tVar 8))) (tDrop (tBM K "list" rAppend (tVar 8) (tCons (tVar 10) tNil))) tNext)))
  (tRet (tLst (tCons (tVar 4) (tCons (tVar 5) (tCons (tVar 7) (tCons (tVar 8) tNil)))))))))))

theorem len__law_plan (h : sp__law_plan K vs H Q E) : vs.length = 4 := by
  obtain ⟨_, _, _, _, _, _, _, _, rfl, _⟩ := h
  rfl
theorem pure__law_plan (h : sp__law_plan K vs H Q E) : t__law_plan K W { nx := fun _ H' => Q .non H', rt := Q } (start ["pen", "signs", "states", "edges", "many", "starts", "state", "ends", "found", "step", "edge"] vs) H := by
  obtain ⟨q, k, s, e, D0, F, l, N, rfl, A, k1, k3, s1, s6, e14, kk⟩ := h
  refine (?_ : RD K D0 (star (pen K q) F) l (fun H => t__law_plan K W _ [some (.ref q), some (.int k), some (.int s), some (.int e), none, none, none, none, none, none, none] H)) N H A
  unfold t__law_plan
  walk_at "go"
  refine d_draw (by omega) (by omega) fun n n0 n1 => ?_
  obtain ⟨n, rfl⟩ := Int.eq_ofNat_of_zero_le n0
  walk_at "go"
  rw [show (1 : Int) + (n : Nat) = ((n + 1 : Nat) : Int) by omega]
  refine d_rng1 (by omega) (by omega) ?_
  refine d_lcRangeO (fun i R' l' es => R' = star (pen K q) F ∧ l' = l ∧ ∃ is : List Int, es = is.map PyData.int ∧ is.Nodup ∧ is.length ≤ i ∧ ∀ x ∈ is, 0 ≤ x ∧ x < (i : Int)) ?_ ?_ ?_
  · exact ⟨rfl, rfl, [], rfl, List.nodup_nil, Nat.zero_le _, fun x h => nomatch h⟩
  · rintro i Dd R' l' es hi ⟨rfl, rfl, is, rfl, nd, ln, rg⟩
    have hi' : i < n + 1 := by omega
    have out : RD K D0 (star (own K Dd (is.map PyData.int)) (star (pen K q) F)) l' (fun H => kItem Dd (.int (0 + (i : Int))) H (ContC K D0 Dd fun R' l'' es => R' = star (pen K q) F ∧ l'' = l' ∧ ∃ is : List Int, es = is.map PyData.int ∧ is.Nodup ∧ is.length ≤ i + 1 ∧ ∀ x ∈ is, 0 ≤ x ∧ x < ((i + 1 : Nat) : Int))) := by
      refine d_item (l' := l') (d := .int (0 + (i : Int))) (.int _) ?_ ?_ sub_refl
      · rw [List.length_map]
        exact few_sz (by omega)
      · refine ⟨rfl, rfl, is ++ [0 + (i : Int)], by rw [List.map_append]; rfl, ?_, by rw [List.length_append]; simp; omega, fun x hx => ?_⟩
        · rw [List.nodup_append]
          refine ⟨nd, by simp, fun x hx y hy => ?_⟩
          have := rg x hx
          have := List.mem_singleton.1 hy
          omega
        · rcases List.mem_append.1 hx with hx | hx
          · have := rg x hx
            omega
          · have := List.mem_singleton.1 hx
            omega
    walk_at "go"
    refine d_iteP (fun _ => ?_) (fun _ => ?_)
    · walk_at "go"
      exact out
    · walk_at "go"
      refine d_draw2 (by decide) (by decide) fun m _ _ => ?_
      walk_at "go"
      refine d_iteP (fun _ => ?_) (fun _ => ?_)
      · walk_at "go"
        exact out
      · refine d_noItem (l' := l') ⟨rfl, rfl, is, rfl, nd, by omega, fun x hx => ?_⟩ sub_refl
        have := rg x hx
        omega
  rintro a1 R' l' es ⟨rfl, rfl, is, rfl, nd, ln, rg⟩
  walk_at "go"
  refine d_rng1 (by omega) (by omega) ?_
  refine RD.rot ?_
  refine d_lcRangeO (fun i R' l'' es => R' = star (pen K q) (star (own K a1 (is.map PyData.int)) F) ∧ l'' = l' ∧ ∃ js : List Int, es = js.map PyData.int ∧ js.Nodup ∧ js.length ≤ i ∧ ∀ x ∈ js, 0 ≤ x ∧ x < (i : Int)) ?_ ?_ ?_
  · exact ⟨rfl, rfl, [], rfl, List.nodup_nil, Nat.zero_le _, fun x h => nomatch h⟩
  · rintro i Dd R' l'' es hi ⟨rfl, rfl, js, rfl, jnd, jln, jrg⟩
    have hi' : i < n + 1 := by omega
    walk_at "go"
    refine d_draw2 (by decide) (by decide) fun m _ _ => ?_
    walk_at "go"
    refine d_iteP (fun _ => ?_) (fun _ => ?_)
    · walk_at "go"
      refine d_item (l' := l'') (d := .int (0 + (i : Int))) (.int _) ?_ ?_ sub_refl
      · rw [List.length_map]
        exact few_sz (by omega)
      · refine ⟨rfl, rfl, js ++ [0 + (i : Int)], by rw [List.map_append]; rfl, ?_, by rw [List.length_append]; simp; omega, fun x hx => ?_⟩
        · rw [List.nodup_append]
          refine ⟨jnd, by simp, fun x hx y hy => ?_⟩
          have := jrg x hx
          have := List.mem_singleton.1 hy
          omega
        · rcases List.mem_append.1 hx with hx | hx
          · have := jrg x hx
            omega
          · have := List.mem_singleton.1 hx
            omega
    · refine d_noItem (l' := l'') ⟨rfl, rfl, js, rfl, jnd, by omega, fun x hx => ?_⟩ sub_refl
      have := jrg x hx
      omega
  rintro a2 R' l'' es ⟨rfl, rfl, js, rfl, jnd, jln, jrg⟩
  walk_at "go"
  refine d_newO (ds := []) (Nat.zero_le _) .nil fun a3 => ?_
  walk_at "go"
  refine RD.third ?_
  refine d_draw (by omega) (by omega) fun c c0 c1 => ?_
  walk_at "go"
  refine d_rng1 (by omega) (by omega) ?_
  refine d_forRange (fun i R' σ' l1 => l1 = l'' ∧ ∃ (es : List (Int × Nat × Int)) (v9 v10 : Option V), R' = star (pen K q) (star (own K a3 (es.map eD)) (star (own K a2 (js.map PyData.int)) (star (own K a1 (is.map PyData.int)) F))) ∧
    σ' = [some (.ref q), some (.int k), some (.int s), some (.int e), some (.int ((n + 1 : Nat) : Int)), some (.ref a1), none, some (.ref a2), some (.ref a3), v9, v10] ∧
    es.Nodup ∧ es.length ≤ i ∧ ∀ x ∈ es, (0 ≤ x.1 ∧ x.1 < ((n + 1 : Nat) : Int)) ∧ x.2.1 ∈ ([97, 98, 99] : List Nat).take k ∧ (0 ≤ x.2.2 ∧ x.2.2 < ((n + 1 : Nat) : Int))) ?_ ?_ ?_
  · exact ⟨rfl, [], none, none, rfl, rfl, List.nodup_nil, Nat.zero_le _, fun x h => nomatch h⟩
  · rintro i R' σ' l1 hi ⟨rfl, es, v9, v10, rfl, rfl, end_, eln, erg⟩
    walk_at "go"
    refine d_draw (by omega) (by omega) fun o o0 o1 => ?_
    walk_at "go"
    refine d_draw (by omega) (by omega) fun b b0 b1 => ?_
    refine d_abc b0 b1 k3 fun hb => ?_
    walk_at "go"
    refine d_draw (by omega) (by omega) fun t t0 t1 => ?_
    walk_at "go"
    refine d_newT (ds := [.int o, .str (S [97 + b.toNat]), .int t]) (show 3 ≤ sizeLine by decide) (by walk_at "inls") fun u => ?_
    walk_at "go"
    refine RD.rot ?_
    refine d_inO (neg := true) (d := eD (o, 97 + b.toNat, t)) (InL.mem (List.Mem.head _)) (eD_depth _) ?_
    rw [if_pos rfl, edges_any]
    walk_at "go"
    by_cases hm : (o, 97 + b.toNat, t) ∈ es
    · refine d_iteN (by simp [hm]) ?_
      walk_at "go"
      refine RD.rot ?_
      dsimp only
      exact d_end (l' := l1) ⟨rfl, es, _, _, rfl, rfl, end_, by omega, erg⟩ (by walk_at "sub")
    · refine d_iteY (by simp [hm]) ?_
      walk_at "go"
      refine d_append (d := eD (o, 97 + b.toNat, t)) (InL.mem (List.Mem.head _)) ?_ ?_
      · rw [List.length_map]
        exact few_sz (by omega)
      walk_at "go"
      refine RD.rot ?_
      dsimp only
      refine d_end (l' := l1) ⟨rfl, es ++ [(o, 97 + b.toNat, t)], _, _, by rw [List.map_append]; rfl, rfl, ?_, ?_, fun x hx => ?_⟩ (by walk_at "sub")
      · rw [List.nodup_append]
        exact ⟨end_, by simp, fun x hx y hy z => hm (by rw [← List.mem_singleton.1 hy, ← z]; exact hx)⟩
      · rw [List.length_append]
        simp
        omega
      · rcases List.mem_append.1 hx with hx | hx
        · exact erg x hx
        · rw [List.mem_singleton.1 hx]
          exact ⟨⟨o0, o1⟩, hb, t0, t1⟩
  · rintro R' σ' l1 ⟨rfl, es, v9, v10, rfl, rfl, end_, eln, erg⟩
    walk_at "go"
    refine d_newX (show 4 ≤ sizeLine by decide) fun r => ?_
    refine RD.res (S := star (objs [(r, .lst (planX ⟨n + 1, is, js, es⟩ a1 a2 a3))]) (star (own K a3 (es.map eD)) (star (own K a2 (js.map PyData.int)) (star (own K a1 (is.map PyData.int)) (star (pen K q) F)))))
      (fun h => star_right (fun z => star_right (fun y => star_right (fun x => star_swap x) y) (star_right (fun y => star_swap y) z)) (star_right (fun z => star_swap z) h)) ?_
    refine closePlan (p := ⟨n + 1, is, js, es⟩) ?_
    exact kk r ⟨n + 1, is, js, es⟩ ⟨Nat.succ_pos _, by show n + 1 ≤ s; omega, nd, fun x hx => by have := rg x hx; show 0 ≤ x ∧ x < ((n + 1 : Nat) : Int); omega,
      jnd, fun x hx => by have := jrg x hx; show 0 ≤ x ∧ x < ((n + 1 : Nat) : Int); omega, end_, by show es.length ≤ e; omega, erg⟩
end
end GL

/-! N2: the machine of a plan, the laws' own walks. -/
namespace GL
open PySem PySem.Spec L2
open PyProof.Rows hiding St
open SX (S)
local macro_rules | `(tactic| walk_at "mem") => `(tactic| (first | exact List.Mem.head _ | exact List.Mem.tail _ (List.Mem.head _) | exact List.Mem.tail _ (List.Mem.tail _ (List.Mem.head _)) | ((repeat (first | exact List.Mem.head _ | apply List.Mem.tail)); done)))
local macro_rules | `(tactic| walk_at "inl") => `(tactic| (first | exact InL.int _ | exact InL.str _ | exact InL.bl _ | exact InL.non | (refine InL.mem ?zm; walk_at "mem") | assumption))
local macro_rules | `(tactic| walk_at "inls") => `(tactic| (repeat (first | exact InLs.nil | (refine InLs.cons ?zi ?_; case zi => walk_at "inl"))))
local macro_rules | `(tactic| walk_at "set") => `(tactic| (simp only [wipe, List.set_cons_succ, List.set_cons_zero]; rfl))
local macro_rules | `(tactic| walk_at "tails") => `(tactic| (first | exact sub_refl | exact sub_tail sub_refl | exact sub_tail (sub_tail sub_refl) | exact sub_nil | ((repeat (first | exact sub_refl | apply sub_tail)); done)))
local macro_rules | `(tactic| walk_at "sub") => `(tactic| (first | walk_at "tails" | ((repeat (refine sub_cons ?zi ?_; case zi => walk_at "inl")); walk_at "tails")))
local macro_rules | `(tactic| walk_at "g1") => `(tactic| (first
  | with_reducible refine d_seq ?_
  | with_reducible refine d_asg ?_
  | ((with_reducible refine d_name (σ' := ?zs) ?zh ?_); (case zh => walk_at "set"))
  | ((with_reducible refine d_var (v := ?zs) ?zh ?_); (case zh => rfl))
  | with_reducible refine d_C ?_
  | with_reducible refine d_op ?_
  | with_reducible refine d_cons ?_
  | with_reducible refine d_nil ?_
  | with_reducible refine d_cb ?_
  | with_reducible refine d_g ?_
  | with_reducible refine d_ifS ?_
  | with_reducible refine d_test ?_
  | with_reducible refine d_bl ?_
  | with_reducible refine d_addI ?_
  | with_reducible refine d_I0 ?_
  | with_reducible refine d_ret ?_
  | with_reducible refine d_retN ?_
  | with_reducible refine d_next ?_
  | with_reducible refine d_drop ?_
  | with_reducible refine d_and ?_
  | with_reducible refine d_or ?_
  | with_reducible refine d_not ?_
  | with_reducible refine d_andV ?_
  | with_reducible refine d_orV ?_
  | with_reducible refine d_notV ?_
  | with_reducible refine d_tru ?_
  | with_reducible refine d_truB ?_
  | with_reducible refine d_tif ?_
  | with_reducible refine d_iteT ?_
  | with_reducible refine d_iteF ?_
  | with_reducible refine d_iteNT ?_
  | with_reducible refine d_iteNF ?_
  | with_reducible refine d_eqI ?_
  | with_reducible refine d_neI ?_
  | with_reducible refine d_eqS ?_
  | with_reducible refine d_neS ?_
  | with_reducible refine d_eqB ?_
  | with_reducible refine d_neB ?_
  | with_reducible refine d_isN ?_
  | with_reducible refine d_notN ?_
  | with_reducible refine d_bm ?_
  | with_reducible refine d_tyS ?_
  | with_reducible refine d_tyO ?_
  | with_reducible refine d_find3 ?_
  | with_reducible refine d_tup ?_
  | with_reducible refine d_lst ?_
  | with_reducible refine d_for ?_
  | with_reducible refine d_iRng1 ?_
  | with_reducible refine d_gIt ?_
  | with_reducible refine d_lc ?_
  | with_reducible refine d_yes ?_
  | with_reducible refine d_tSl ?_
  | with_reducible refine d_noPart ?_
  | with_reducible refine d_part ?_
  | with_reducible refine d_int ?_
  | ((with_reducible refine d_wipe ?zh ?_); (case zh => rfl))
  | ((with_reducible refine d_aug (v := ?zs) ?zh ?_); (case zh => rfl))
  | with_reducible refine d_ipI ?_
  | ((with_reducible refine d_set (σ' := ?zs) ?zh ?_); (case zh => walk_at "set"))))
local macro_rules | `(tactic| walk_at "go") => `(tactic| (repeat walk_at "g1"))
local macro_rules | `(tactic| walk_at "g1") => `(tactic| (first
  | with_reducible refine d_chain ?_
  | with_reducible refine d_tB ?_
  | with_reducible refine d_tGM ?_
  | with_reducible refine d_tGN ?_
  | with_reducible refine d_rz ?_
  | with_reducible refine d_tXf ?_
  | with_reducible refine d_tFld ?_
  | with_reducible refine d_sFld ?_
  | with_reducible refine d_tMix ?_
  | with_reducible refine d_tDIn ?_
  | with_reducible refine d_tDNotIn ?_
  | with_reducible refine d_sDPut ?_
  | with_reducible refine d_sDDelT ?_
  | with_reducible refine d_tSet ?_
  | with_reducible refine d_gcons ?_
  | with_reducible refine d_gnil ?_
  | with_reducible refine d_iKeys ?_))
local macro_rules | `(tactic| walk_at "g1") => `(tactic| (first
  | with_reducible refine d_par ?_
  | with_reducible refine d_kPar ?_))
section
variable {K : PySem.W.Frag} {W : WX} {D0 : Hp} {R : Res} {l : List (V × PyData)} {Q : VK} {vs : List V} {H : Hp} {E : XK} {P : Program} {w : World} {L : List (Addr × HO)} {σ : L2.St} {D : Ends} {T : Hp → Prop}
theorem between_nat_of {k hi : Nat} (h1 : 1 ≤ k) (h2 : k ≤ hi) : between (.int k) 1 hi = true := by
  simp only [between, Bool.and_eq_true, decide_eq_true_eq]
  omega
/-- Machine(k, n) with numbers in range -/
theorem d_makeOk {k n : Nat} (k1 : 1 ≤ k) (k3 : k ≤ 3) (n1 : 1 ≤ n) (n6 : n ≤ 6) (kk : ∀ x, RD K D0 (star (mach K x ⟨k, n, [], [], []⟩) R) l (Q (.ref x))) : RD K D0 R l (fun H => kGN (He.ga K "Machine") (sp_Machine___init__ K) E [.int k, .int n] H Q) := by
  have b1 : between (.int k) 1 3 = true := between_nat_of k1 k3
  have b2 : between (.int n) 1 6 = true := between_nat_of n1 n6
  refine d_make (.int _) rfl (.int _) rfl (fun z => absurd (b1.symm.trans z) (by decide)) (fun _ z => absurd (b2.symm.trans z) (by decide)) fun x k' n' ek en _ _ _ _ => ?_
  have ek : k = k' := by injection ek with ek; omega
  have en : n = n' := by injection en with en; omega
  subst ek en
  exact kk x
def sp__law_machine_of (K : PySem.W.Frag) : Sp := fun vs H Q _ => ∃ (k s e : Nat) (v : V) (p : Plan) (D0 : Hp) (F : Res) (l : List (V × PyData)) (N : Addr → Prop), vs = [.int k, v] ∧ At K D0 F l N H ∧ InL l v (planD p) ∧ 1 ≤ k ∧ k ≤ 3 ∧ PlanOk k s e p ∧ s ≤ 6 ∧ e ≤ 14 ∧
  ∀ x, RD K D0 (star (mach K x (machP k p)) F) l (Q (.ref x))
def t__law_machine_of (K : PySem.W.Frag) (W : WX) : TS := (tSeq (tAsg (tGN (He.ga K "Machine") (sp_Machine___init__ K) W (tCons (tVar 0) (tCons (tOp (rIx K) (tVar 1) (tC (.int 0))) tNil))) (gName 2))
  (tSeq (tFor (gIt K (tOp (rIx K) (tVar 1) (tC (.int 1)))) (gName 3) (tDrop (tGM (He.ga K "Machine") "add_start" (sp_Machine_add_start K) W (tVar 2) (tCons (tVar 3) tNil))))
  (tSeq (tFor (gIt K (tOp (rIx K) (tVar 1) (tC (.int 2)))) (gName 3) (tDrop (tGM (He.ga K "Machine") "add_end" (sp_Machine_add_end K) W (tVar 2) (tCons (tVar 3) tNil))))
  (tSeq (tFor (gIt K (tOp (rIx K) (tVar 1) (tC (.int 3)))) (gTup K 3 (gCons (gName 4) (gCons (gName 5) (gCons (gName 6) gNil)))) (tDrop (tGM (He.ga K "Machine") "add_edge" (sp_Machine_add_edge K) W (tVar 2) (tCons (tVar 4) (tCons (tVar 5) (tCons (tVar 6) tNil))))))
  (tRet (tVar 2))))))

theorem len__law_machine_of (h : sp__law_machine_of K vs H Q E) : vs.length = 2 := by
  obtain ⟨_, _, _, _, _, _, _, _, _, rfl, _⟩ := h
  rfl
theorem d_machineOf {k s e : Nat} {v : V} {p : Plan} (hv : InL l v (planD p)) (k1 : 1 ≤ k) (k3 : k ≤ 3) (po : PlanOk k s e p) (s6 : s ≤ 6) (e14 : e ≤ 14) (kk : ∀ x, RD K D0 (star (mach K x (machP k p)) R) l (Q (.ref x))) :
    RD K D0 R l (fun H => sp__law_machine_of K [.int k, v] H Q E) := fun N H A => ⟨k, s, e, v, p, D0, R, l, N, rfl, A, hv, k1, k3, po, s6, e14, kk⟩
theorem pure__law_machine_of (h : sp__law_machine_of K vs H Q E) : t__law_machine_of K W { nx := fun _ H' => Q .non H', rt := Q } (start ["signs", "plan", "found", "state", "origin", "sign", "target"] vs) H := by
  obtain ⟨k, s, e, v, p, D0, F, l, N, rfl, A, hv, k1, k3, po, s6, e14, kk⟩ := h
  refine (?_ : RD K D0 F l (fun H => t__law_machine_of K W _ [some (.int k), some v, none, none, none, none, none] H)) N H A
  have mo := po.mach k1 k3 s6 e14
  unfold planD at hv
  unfold t__law_machine_of
  walk_at "go"
  refine d_ixL hv (d := .int p.n) rfl fun y hy => ?_
  obtain rfl : y = .int p.n := hy
  walk_at "go"
  refine d_makeOk k1 k3 po.n1 (Nat.le_trans po.ns s6) fun x => ?_
  refine RD.forget ?_
  walk_at "go"
  refine d_ixL hv (d := .list (p.st.map .int)) rfl fun u hu => ?_
  refine d_forList (v := u) (ds := p.st.map .int) (InL.mem (List.Mem.head _)) (fun i R' σ' l' => R' = star (mach K x ⟨k, p.n, [], p.st.take i, []⟩) F ∧
    (∃ v3 : Option V, σ' = [some (.int k), some v, some (.ref x), v3, none, none, none]) ∧ ∀ q ∈ (u, .list (p.st.map .int)) :: l, InL l' q.1 q.2) (fun i R' σ' l' h => h.2.2 _ List.mem_cons_self) ?_ ?_ ?_
  · exact ⟨rfl, ⟨none, rfl⟩, sub_refl⟩
  · rintro i d y R' σ' l' hd dv ⟨rfl, ⟨v3, rfl⟩, sub⟩
    rw [List.getElem?_map] at hd
    obtain ⟨t, ht, rfl⟩ := Option.map_eq_some_iff.1 hd
    obtain rfl : y = .int t := dv
    have hm := po.st t (List.mem_of_getElem? ht)
    have hl : (p.st.take i).length ≤ 1000 := by
      have := mo.stl
      have e : (machP k p).st.length = p.st.length := rfl
      rw [List.length_take]
      omega
    walk_at "go"
    refine d_kGM (fun _ _ _ => rfl) ?_
    walk_at "go"
    refine d_edOk hl (Nat.zero_le _) hm ?_
    have e : addI (p.st.take i) t = p.st.take (i + 1) := by
      unfold addI
      rw [if_neg (take_new po.snd ht), List.take_succ, ht]
      rfl
    dsimp only
    rw [e]
    exact d_end (l' := l') ⟨rfl, ⟨_, rfl⟩, sub⟩ (by walk_at "sub")
  rintro R' σ' l1 ⟨rfl, ⟨v3, rfl⟩, sub1⟩
  rw [List.length_map, List.take_length]
  have sub1' : ∀ q ∈ l, InL l1 q.1 q.2 := fun q hq => sub1 q (List.mem_cons_of_mem _ hq)
  walk_at "go"
  refine d_ixL (hv.weak sub1') (d := .list (p.en.map .int)) rfl fun u2 hu2 => ?_
  refine d_forList (v := u2) (ds := p.en.map .int) (InL.mem (List.Mem.head _)) (fun i R' σ' l' => R' = star (mach K x ⟨k, p.n, [], p.st, p.en.take i⟩) F ∧
    (∃ v3 : Option V, σ' = [some (.int k), some v, some (.ref x), v3, none, none, none]) ∧ ∀ q ∈ (u2, .list (p.en.map .int)) :: l, InL l' q.1 q.2) (fun i R' σ' l' h => h.2.2 _ List.mem_cons_self) ?_ ?_ ?_
  · exact ⟨rfl, ⟨_, rfl⟩, sub_cons (InL.mem (List.Mem.head _)) fun q hq => (sub1' q hq).tail⟩
  · rintro i d y R' σ' l' hd dv ⟨rfl, ⟨v3, rfl⟩, sub⟩
    rw [List.getElem?_map] at hd
    obtain ⟨t, ht, rfl⟩ := Option.map_eq_some_iff.1 hd
    obtain rfl : y = .int t := dv
    have hm := po.en t (List.mem_of_getElem? ht)
    have hl2 : p.st.length ≤ 1000 := Nat.le_trans mo.stl (by decide)
    have hl : (p.en.take i).length ≤ 1000 := by
      have := mo.enl
      have e : (machP k p).en.length = p.en.length := rfl
      rw [List.length_take]
      omega
    walk_at "go"
    refine d_kGM (fun _ _ _ => rfl) ?_
    walk_at "go"
    refine d_edOk hl2 hl hm ?_
    have e : addI (p.en.take i) t = p.en.take (i + 1) := by
      unfold addI
      rw [if_neg (take_new po.nnd ht), List.take_succ, ht]
      rfl
    dsimp only
    rw [e]
    exact d_end (l' := l') ⟨rfl, ⟨_, rfl⟩, sub⟩ (by walk_at "sub")
  rintro R' σ' l2 ⟨rfl, ⟨v3, rfl⟩, sub2⟩
  rw [List.length_map, List.take_length]
  have sub2' : ∀ q ∈ l, InL l2 q.1 q.2 := fun q hq => sub2 q (List.mem_cons_of_mem _ hq)
  walk_at "go"
  refine d_ixL (hv.weak sub2') (d := .list (p.es.map eD)) rfl fun u3 hu3 => ?_
  refine d_forList (v := u3) (ds := p.es.map eD) (InL.mem (List.Mem.head _)) (fun i R' σ' l' => R' = star (mach K x ⟨k, p.n, p.es.take i, p.st, p.en⟩) F ∧
    (∃ v3 v4 v5 v6 : Option V, σ' = [some (.int k), some v, some (.ref x), v3, v4, v5, v6]) ∧ ∀ q ∈ (u3, .list (p.es.map eD)) :: l, InL l' q.1 q.2) (fun i R' σ' l' h => h.2.2 _ List.mem_cons_self) ?_ ?_ ?_
  · exact ⟨rfl, ⟨_, _, _, _, rfl⟩, sub_cons (InL.mem (List.Mem.head _)) fun q hq => (sub2' q hq).tail⟩
  · rintro i d y R' σ' l' hd dv ⟨rfl, ⟨v3, v4, v5, v6, rfl⟩, sub⟩
    rw [List.getElem?_map] at hd
    obtain ⟨⟨o, c, t⟩, he, rfl⟩ := Option.map_eq_some_iff.1 hd
    obtain ⟨h1, h2, h3⟩ := po.ed (o, c, t) (List.mem_of_getElem? he)
    have hi := (List.getElem?_eq_some_iff.1 he).1
    have ln := po.len
    refine d_gEdge (o := o) (s := S [c]) (t := t) (InL.mem (List.Mem.head _)) ?_
    walk_at "go"
    refine d_kGM (fun _ _ _ => rfl) ?_
    walk_at "go"
    refine d_addEdgeOk h1 h3 h2 (take_new po.nd he) ?_ ?_
    · rw [List.length_take]
      omega
    · have e : p.es.take i ++ [(o, c, t)] = p.es.take (i + 1) := by
        rw [List.take_succ, he]
        rfl
      rw [e]
      dsimp only
      exact d_end (l' := l') ⟨rfl, ⟨_, _, _, _, rfl⟩, sub⟩ (by walk_at "sub")
  · rintro R' σ' l3 ⟨rfl, ⟨v3, v4, v5, v6, rfl⟩, sub3⟩
    rw [List.length_map, List.take_length]
    walk_at "go"
    exact RD.weak (fun q hq => sub3 q (List.mem_cons_of_mem _ hq)) (kk x)
/-! ### the laws' own walks over a plan that stands -/
def sp__law_stepped (K : PySem.W.Frag) : Sp := fun vs H Q _ => ∃ (v u : V) (p : Plan) (ns : List Int) (c : Nat) (D0 : Hp) (F : Res) (l : List (V × PyData)) (N : Addr → Prop), vs = [v, u, .str (S [c])] ∧ At K D0 F l N H ∧ InL l v (planD p) ∧ InL l u (.list (ns.map .int)) ∧ p.es.length ≤ 40 ∧
  ∀ x, RD K D0 F ((x, .list ((stepI p.es ns c).map .int)) :: l) (Q x)
def t__law_stepped (K : PySem.W.Frag) (P : Program) (w : World) (W : WX) : TS := (tRet (tCB (rSortL w) (tCons (tCB (rSetI w K) (tCons (tLc (gIt K (tOp (rIx K) (tVar 0) (tC (.int 3)))) (gTup K 3 (gCons (gName 3) (gCons (gName 4) (gCons (gName 5) gNil)))) (tAnd (tTest (tOp (gEq K) (tVar 4) (tVar 2))) (tTest (tOp (gIn K false) (tVar 3) (tVar 1)))) (tVar 5) [3, 4, 5]) tNil)) tNil)))

theorem len__law_stepped (h : sp__law_stepped K vs H Q E) : vs.length = 3 := by
  obtain ⟨_, _, _, _, _, _, _, _, _, rfl, _⟩ := h
  rfl
theorem d_stepped {v u : V} {p : Plan} {ns : List Int} {c : Nat} (hv : InL l v (planD p)) (hu : InL l u (.list (ns.map .int))) (he : p.es.length ≤ 40) (k : ∀ x, RD K D0 R ((x, .list ((stepI p.es ns c).map .int)) :: l) (Q x)) :
    RD K D0 R l (fun H => sp__law_stepped K [v, u, .str (S [c])] H Q E) := fun N H A => ⟨v, u, p, ns, c, D0, R, l, N, rfl, A, hv, hu, he, k⟩
theorem pure__law_stepped (h : sp__law_stepped K vs H Q E) : t__law_stepped K P w W { nx := fun _ H' => Q .non H', rt := Q } (start ["plan", "states", "sign", "origin", "letter", "target"] vs) H := by
  obtain ⟨v, u, p, ns, c, D0, F, l, N, rfl, A, hv, hu, he, kk⟩ := h
  refine (?_ : RD K D0 F l (fun H => t__law_stepped K P w W _ [some v, some u, some (.str (S [c])), none, none, none] H)) N H A
  unfold planD at hv
  unfold t__law_stepped
  walk_at "go"
  refine d_ixL hv (d := .list (p.es.map eD)) rfl fun y hy => ?_
  refine d_lcList1 (v := y) (InL.mem (List.Mem.head _)) (fun i es => es = (((p.es.take i).filter fun e => decide (e.2.1 = c) && decide (e.1 ∈ ns)).map (·.2.2)).map PyData.int) rfl ?_ ?_
  · rintro i d z Dd es hd dv rfl
    rw [List.getElem?_map] at hd
    obtain ⟨⟨o, b, t⟩, hee, rfl⟩ := Option.map_eq_some_iff.1 hd
    have few : (((p.es.take i).filter fun e => decide (e.2.1 = c) && decide (e.1 ∈ ns)).map (·.2.2)).length ≤ 40 := by
      rw [List.length_map]
      have h1 := List.length_filter_le (fun e : Int × Nat × Int => decide (e.2.1 = c) && decide (e.1 ∈ ns)) (p.es.take i)
      have h2 : (p.es.take i).length ≤ p.es.length := by rw [List.length_take]; omega
      omega
    refine d_gEdge (o := o) (s := S [b]) (t := t) (InL.mem (List.Mem.head _)) ?_
    walk_at "go"
    rw [sign_eq]
    refine d_iteP (fun hb => ?_) (fun hb => ?_)
    · walk_at "go"
      refine d_inL (.int o) (hu.tail.tail) (dep0 (by simp only [PyData.depth])) ?_
      rw [ints_any]
      walk_at "go"
      refine d_iteP (fun ho => ?_) (fun ho => ?_)
      · walk_at "go"
        refine d_item1 (d := .int t) (.int _) ?_ ?_ (by walk_at "sub")
        · rw [List.length_map]
          exact few_sz (by omega)
        · rw [List.take_succ, hee]
          simp [List.filter_append, hb, ho]
      · refine d_noItem1 ?_ (by walk_at "sub")
        rw [List.take_succ, hee]
        simp [List.filter_append, ho]
    · walk_at "go"
      refine d_noItem1 ?_ (by walk_at "sub")
      rw [List.take_succ, hee]
      simp [List.filter_append, hb]
  · rintro z es rfl
    rw [List.length_map, List.take_length]
    walk_at "go"
    have few : ((p.es.filter fun e => decide (e.2.1 = c) && decide (e.1 ∈ ns)).map (·.2.2)).length < 64 := by
      rw [List.length_map]
      have h1 := List.length_filter_le (fun e : Int × Nat × Int => decide (e.2.1 = c) && decide (e.1 ∈ ns)) p.es
      omega
    refine d_setL (InL.mem (List.Mem.head _)) few fun a => ?_
    walk_at "go"
    refine d_sortL few fun x => ?_
    walk_at "go"
    exact RD.weak (by walk_at "sub") (kk x)
def sp__law_states (K : PySem.W.Frag) : Sp := fun vs H Q _ => ∃ (v : V) (p : Plan) (cs : List Nat) (D0 : Hp) (F : Res) (l : List (V × PyData)) (N : Addr → Prop), vs = [v, .str (S cs)] ∧ At K D0 F l N H ∧ InL l v (planD p) ∧ p.es.length ≤ 40 ∧ p.st.length ≤ 40 ∧
  ∀ x, RD K D0 F ((x, .list ((walkI p.es (sortI p.st) cs).map .int)) :: l) (Q x)
def t__law_states (K : PySem.W.Frag) (P : Program) (w : World) (W : WX) : TS := (tSeq (tAsg (tCB (rSortL w) (tCons (tCB (rSetI w K) (tCons (tOp (rIx K) (tVar 0) (tC (.int 1))) tNil)) tNil)) (gName 2))
  (tSeq (tFor (gIt K (tVar 1)) (gName 3) (tAsg (tG (sp__law_stepped K) W (tCons (tVar 0) (tCons (tVar 2) (tCons (tVar 3) tNil)))) (gName 2)))
  (tRet (tVar 2))))

theorem len__law_states (h : sp__law_states K vs H Q E) : vs.length = 2 := by
  obtain ⟨_, _, _, _, _, _, _, rfl, _⟩ := h
  rfl
theorem d_lawStates {v : V} {p : Plan} {cs : List Nat} (hv : InL l v (planD p)) (he : p.es.length ≤ 40) (hs : p.st.length ≤ 40) (k : ∀ x, RD K D0 R ((x, .list ((walkI p.es (sortI p.st) cs).map .int)) :: l) (Q x)) :
    RD K D0 R l (fun H => sp__law_states K [v, .str (S cs)] H Q E) := fun N H A => ⟨v, p, cs, D0, R, l, N, rfl, A, hv, he, hs, k⟩
theorem pure__law_states (h : sp__law_states K vs H Q E) : t__law_states K P w W { nx := fun _ H' => Q .non H', rt := Q } (start ["plan", "log", "states", "sign"] vs) H := by
  obtain ⟨v, p, cs, D0, F, l, N, rfl, A, hv, he, hs, kk⟩ := h
  refine (?_ : RD K D0 F l (fun H => t__law_states K P w W _ [some v, some (.str (S cs)), none, none] H)) N H A
  have hv' := hv
  unfold planD at hv'
  unfold t__law_states
  walk_at "go"
  refine d_ixL hv' (d := .list (p.st.map .int)) rfl fun y hy => ?_
  walk_at "go"
  refine d_setL (InL.mem (List.Mem.head _)) (by omega) fun a => ?_
  walk_at "go"
  refine d_sortL (by omega) fun x => ?_
  walk_at "go"
  refine d_forStr (fun i R' σ' l' => R' = F ∧ ∃ (u : V) (z : Option V), σ' = [some v, some (.str (S cs)), some u, z] ∧ InL l' u (.list ((walkI p.es (sortI p.st) (cs.take i)).map .int)) ∧ ∀ q ∈ l, InL l' q.1 q.2) ?_ ?_ ?_
  · exact ⟨rfl, x, none, rfl, InL.mem (List.Mem.head _), by walk_at "sub"⟩
  · rintro i c R' σ' l' hc ⟨rfl, u, z, rfl, hu, sub⟩
    rw [S_tl] at hc
    walk_at "go"
    refine d_stepped (c := c) (hv.weak sub) hu he fun u2 => ?_
    walk_at "go"
    dsimp only
    refine d_end (l' := (u2, .list ((stepI p.es (walkI p.es (sortI p.st) (cs.take i)) c).map .int)) :: l') ?_ sub_refl
    refine ⟨rfl, u2, _, rfl, ?_, fun q hq => (sub q hq).tail⟩
    have e : walkI p.es (sortI p.st) (cs.take (i + 1)) = stepI p.es (walkI p.es (sortI p.st) (cs.take i)) c := by
      unfold walkI
      rw [List.take_succ, hc, List.foldl_append]
      rfl
    rw [e]
    exact .mem (List.Mem.head _)
  · rintro R' σ' l' ⟨rfl, u, z, rfl, hu, sub⟩
    rw [S_tl, List.take_length] at hu
    walk_at "go"
    exact RD.weak (sub_cons hu sub) (kk u)
def hasP (p : Plan) (cs : List Nat) : Bool := (walkI p.es (sortI p.st) cs).any fun i => decide (i ∈ p.en)
def sp__law_has (K : PySem.W.Frag) : Sp := fun vs H Q _ => ∃ (v : V) (p : Plan) (cs : List Nat) (D0 : Hp) (F : Res) (l : List (V × PyData)) (N : Addr → Prop), vs = [v, .str (S cs)] ∧ At K D0 F l N H ∧ InL l v (planD p) ∧ p.es.length ≤ 40 ∧ p.st.length ≤ 40 ∧
  RD K D0 F l (Q (.bl (hasP p cs)))
def t__law_has (K : PySem.W.Frag) (W : WX) : TS := (tRet (tOp (gNe K) (tLc (gIt K (tG (sp__law_states K) W (tCons (tVar 0) (tCons (tVar 1) tNil)))) (gName 2) (tTest (tOp (gIn K false) (tVar 2) (tOp (rIx K) (tVar 0) (tC (.int 2))))) (tVar 2) [2]) (tLst tNil)))

theorem len__law_has (h : sp__law_has K vs H Q E) : vs.length = 2 := by
  obtain ⟨_, _, _, _, _, _, _, rfl, _⟩ := h
  rfl
theorem d_lawHas {v : V} {p : Plan} {cs : List Nat} (hv : InL l v (planD p)) (he : p.es.length ≤ 40) (hs : p.st.length ≤ 40) (k : RD K D0 R l (Q (.bl (hasP p cs)))) :
    RD K D0 R l (fun H => sp__law_has K [v, .str (S cs)] H Q E) := fun N H A => ⟨v, p, cs, D0, R, l, N, rfl, A, hv, he, hs, k⟩
theorem ints_depth (ns : List Int) : (PyData.list (ns.map .int)).depth ≤ 60 := depth_ints ns
theorem ints_empty (ns : List Int) : PyData.eqv (.list (ns.map .int)) (.list []) = ns.isEmpty := by
  cases ns <;> simp [PyData.eqv, PyData.eqvAll]
theorem pure__law_has (h : sp__law_has K vs H Q E) : t__law_has K W { nx := fun _ H' => Q .non H', rt := Q } (start ["plan", "log", "state"] vs) H := by
  obtain ⟨v, p, cs, D0, F, l, N, rfl, A, hv, he, hs, kk⟩ := h
  refine (?_ : RD K D0 F l (fun H => t__law_has K W _ [some v, some (.str (S cs)), none] H)) N H A
  have hv' := hv
  unfold planD at hv'
  unfold t__law_has
  walk_at "go"
  refine d_lawStates hv he hs fun x => ?_
  have lw : (walkI p.es (sortI p.st) cs).length ≤ 1000 := walkI_len cs (Nat.le_trans (sortI_len _) (by omega)) (by omega)
  refine d_lcList1 (v := x) (InL.mem (List.Mem.head _)) (fun i es => es = (((walkI p.es (sortI p.st) cs).take i).filter fun s => decide (s ∈ p.en)).map PyData.int) rfl ?_ ?_
  · rintro i d z Dd es hd dv rfl
    rw [List.getElem?_map] at hd
    obtain ⟨s, hss, rfl⟩ := Option.map_eq_some_iff.1 hd
    obtain rfl : z = .int s := dv
    have few : (((walkI p.es (sortI p.st) cs).take i).filter fun s => decide (s ∈ p.en)).length ≤ 1000 := by
      have h1 := List.length_filter_le (fun s => decide (s ∈ p.en)) ((walkI p.es (sortI p.st) cs).take i)
      rw [List.length_take] at h1
      omega
    walk_at "go"
    refine d_ixL (hv'.tail.tail) (d := .list (p.en.map .int)) rfl fun y hy => ?_
    refine d_inL (.int s) (InL.mem (List.Mem.head _)) (dep0 (by simp only [PyData.depth])) ?_
    rw [ints_any]
    walk_at "go"
    refine d_iteP (fun ho => ?_) (fun ho => ?_)
    · walk_at "go"
      refine d_item1 (d := .int s) (.int _) ?_ ?_ (by walk_at "sub")
      · rw [List.length_map]
        exact few_sz few
      · rw [List.take_succ, hss]
        simp [List.filter_append, ho]
    · refine d_noItem1 ?_ (by walk_at "sub")
      rw [List.take_succ, hss]
      simp [List.filter_append, ho]
  · rintro z es rfl
    rw [List.length_map, List.take_length]
    walk_at "go"
    refine d_newL (ds := []) (Nat.zero_le _) .nil fun y => ?_
    refine d_ne (d := .list (((walkI p.es (sortI p.st) cs).filter fun s => decide (s ∈ p.en)).map .int)) (e := .list []) (.mem (by walk_at "mem")) (.mem (by walk_at "mem")) (ints_depth _) ?_
    rw [ints_empty]
    have e : (!((walkI p.es (sortI p.st) cs).filter fun s => decide (s ∈ p.en)).isEmpty) = hasP p cs := by
      unfold hasP
      rw [Bool.eq_iff_iff, List.any_eq_true]
      simp [List.isEmpty_iff, List.filter_eq_nil_iff]
    rw [e]
    exact RD.weak (by walk_at "sub") kk
end
end GL

/-! N3: what walks are: paths; turned, renamed, larger machines; lists with two items exchanged. -/
namespace GL
open PySem PySem.Spec L2
abbrev Edge := Int × Nat × Int
inductive Path (es : List Edge) : Int → List Nat → Int → Prop
  | nil (a : Int) : Path es a [] a
  | cons {a b d : Int} {c : Nat} {cs : List Nat} (h : (a, c, b) ∈ es) (t : Path es b cs d) : Path es a (c :: cs) d
theorem mem_stepI {es : List Edge} {ns : List Int} {c : Nat} {z : Int} : z ∈ stepI es ns c ↔ ∃ a ∈ ns, (a, c, z) ∈ es := by
  unfold stepI
  rw [mem_sortI, List.mem_map]
  constructor
  · rintro ⟨⟨a, c', z'⟩, h, rfl⟩
    obtain ⟨h1, h2⟩ := List.mem_filter.1 h
    simp only [Bool.and_eq_true, decide_eq_true_eq] at h2
    obtain ⟨h3, h4⟩ := h2
    exact ⟨a, h4, h3 ▸ h1⟩
  · rintro ⟨a, ha, h⟩
    exact ⟨(a, c, z), List.mem_filter.2 ⟨h, by simp [ha]⟩, rfl⟩
theorem mem_walkI {es : List Edge} {cs : List Nat} : ∀ {ns : List Int} {z : Int}, z ∈ walkI es ns cs ↔ ∃ a ∈ ns, Path es a cs z := by
  induction cs with
  | nil =>
    intro ns z
    constructor
    · intro h
      exact ⟨z, h, .nil z⟩
    · rintro ⟨a, ha, h⟩
      cases h
      exact ha
  | cons c cs ih =>
    intro ns z
    show z ∈ walkI es (stepI es ns c) cs ↔ _
    rw [ih]
    constructor
    · rintro ⟨b, hb, p⟩
      obtain ⟨a, ha, h⟩ := mem_stepI.1 hb
      exact ⟨a, ha, .cons h p⟩
    · rintro ⟨a, ha, p⟩
      cases p with
      | cons h t => exact ⟨_, mem_stepI.2 ⟨a, ha, h⟩, t⟩
/-- some start leads to some end -/
def Leads (es : List Edge) (st en : List Int) (cs : List Nat) : Prop := ∃ a ∈ st, ∃ b ∈ en, Path es a cs b
theorem leads_iff {es : List Edge} {st en : List Int} {cs : List Nat} : ((walkI es (sortI st) cs).any fun i => decide (i ∈ en)) = true ↔ Leads es st en cs := by
  rw [List.any_eq_true]
  constructor
  · rintro ⟨b, hb, he⟩
    obtain ⟨a, ha, p⟩ := mem_walkI.1 hb
    exact ⟨a, mem_sortI.1 ha, b, of_decide_eq_true he, p⟩
  · rintro ⟨a, ha, b, hb, p⟩
    exact ⟨b, mem_walkI.2 ⟨a, mem_sortI.2 ha, p⟩, decide_eq_true hb⟩
theorem hasI_iff {m : Mch} {cs : List Nat} : hasI m cs = true ↔ Leads m.es m.st m.en cs := leads_iff
theorem hasP_iff {p : Plan} {cs : List Nat} : hasP p cs = true ↔ Leads p.es p.st p.en cs := leads_iff
theorem Path.append {es : List Edge} {a b d : Int} {xs ys : List Nat} (h : Path es a xs b) (k : Path es b ys d) : Path es a (xs ++ ys) d := by
  induction h with
  | nil => exact k
  | cons h _ ih => exact .cons h (ih k)
def turnE (e : Edge) : Edge := (e.2.2, e.2.1, e.1)
theorem Path.turn {es : List Edge} {a b : Int} {cs : List Nat} (h : Path es a cs b) : Path (es.map turnE) b cs.reverse a := by
  induction h with
  | nil => exact .nil _
  | cons h _ ih =>
    rw [List.reverse_cons]
    exact ih.append (.cons (List.mem_map.2 ⟨_, h, rfl⟩) (.nil _))
theorem turn_turn (es : List Edge) : (es.map turnE).map turnE = es := by
  rw [List.map_map]
  conv => rhs; rw [← List.map_id es]
  rfl
theorem Path.turn_iff {es : List Edge} {a b : Int} {cs : List Nat} : Path (es.map turnE) b cs.reverse a ↔ Path es a cs b := by
  constructor
  · intro h
    have := h.turn
    rw [turn_turn, List.reverse_reverse] at this
    exact this
  · exact Path.turn
theorem Path.mono {es es' : List Edge} {a b : Int} {cs : List Nat} (h : Path es a cs b) (s : ∀ e ∈ es, e ∈ es') : Path es' a cs b := by
  induction h with
  | nil => exact .nil _
  | cons h _ ih => exact .cons (s _ h) ih
def mapE (f : Int → Int) (e : Edge) : Edge := (f e.1, e.2.1, f e.2.2)
theorem Path.map {es : List Edge} {a b : Int} {cs : List Nat} (f : Int → Int) (h : Path es a cs b) : Path (es.map (mapE f)) (f a) cs (f b) := by
  induction h with
  | nil => exact .nil _
  | cons h _ ih => exact .cons (List.mem_map.2 ⟨_, h, rfl⟩) ih
theorem Path.unmap {es : List Edge} {f : Int → Int} {I : Int → Prop} (inj : ∀ x y, I x → I y → f x = f y → x = y) (hes : ∀ e ∈ es, I e.1 ∧ I e.2.2) {a' b' : Int} {cs : List Nat} (h : Path (es.map (mapE f)) a' cs b') :
    ∀ a, I a → a' = f a → ∃ b, I b ∧ b' = f b ∧ Path es a cs b := by
  induction h with
  | nil => exact fun a ia e => ⟨a, ia, e, .nil a⟩
  | cons h _ ih =>
    intro a ia e
    obtain ⟨⟨x, c, y⟩, hx, e2⟩ := List.mem_map.1 h
    have e3 : f x = _ := congrArg Prod.fst e2
    have e4 : c = _ := congrArg (fun q : Edge => q.2.1) e2
    have e5 : f y = _ := congrArg (fun q : Edge => q.2.2) e2
    obtain ⟨i1, i2⟩ := hes _ hx
    have e6 : x = a := inj x a i1 ia (e3.trans e)
    obtain ⟨b, ib, eb, p⟩ := ih y i2 e5.symm
    subst e6
    exact ⟨b, ib, eb, .cons (by dsimp only at e4; rw [← e4]; exact hx) p⟩
/-! ### plans turned, renamed -/
def turnP (p : Plan) : Plan := ⟨p.n, p.en, p.st, p.es.map turnE⟩
theorem nodup_map {α β : Type} {f : α → β} {xs : List α} (nd : xs.Nodup) (inj : ∀ x ∈ xs, ∀ y ∈ xs, f x = f y → x = y) : (xs.map f).Nodup := by
  rw [List.nodup_iff_pairwise_ne, List.pairwise_map]
  exact (List.nodup_iff_pairwise_ne.1 nd).imp_of_mem fun {x y} hx hy ne e => ne (inj x hx y hy e)
theorem turnP_ok {k s e : Nat} {p : Plan} (h : PlanOk k s e p) : PlanOk k s e (turnP p) where
  n1 := h.n1
  ns := h.ns
  snd := h.nnd
  st := h.en
  nnd := h.snd
  en := h.st
  nd := nodup_map h.nd fun x _ y _ e => by
    have := congrArg turnE e
    exact this
  len := by
    show (p.es.map turnE).length ≤ e
    rw [List.length_map]
    exact h.len
  ed := fun x hx => by
    obtain ⟨y, hy, rfl⟩ := List.mem_map.1 hx
    obtain ⟨h1, h2, h3⟩ := h.ed y hy
    exact ⟨h3, h2, h1⟩
theorem leads_turn {p : Plan} {cs : List Nat} : Leads (turnP p).es (turnP p).st (turnP p).en cs.reverse ↔ Leads p.es p.st p.en cs := by
  constructor
  · rintro ⟨b, hb, a, ha, q⟩
    exact ⟨a, ha, b, hb, Path.turn_iff.1 q⟩
  · rintro ⟨a, ha, b, hb, q⟩
    exact ⟨b, hb, a, ha, Path.turn_iff.2 q⟩
def renP (f : Int → Int) (p : Plan) : Plan := ⟨p.n, p.st.map f, p.en.map f, p.es.map (mapE f)⟩
structure Ren (n : Nat) (f : Int → Int) : Prop where
  rg : ∀ x : Int, 0 ≤ x → x < n → 0 ≤ f x ∧ f x < n
  inj : ∀ x y : Int, 0 ≤ x → x < n → 0 ≤ y → y < n → f x = f y → x = y
theorem renP_ok {k s e : Nat} {p : Plan} {f : Int → Int} (h : PlanOk k s e p) (r : Ren p.n f) : PlanOk k s e (renP f p) where
  n1 := h.n1
  ns := h.ns
  snd := nodup_map h.snd fun x hx y hy q => r.inj x y (h.st x hx).1 (h.st x hx).2 (h.st y hy).1 (h.st y hy).2 q
  st := fun i hi => by
    obtain ⟨x, hx, rfl⟩ := List.mem_map.1 hi
    exact r.rg x (h.st x hx).1 (h.st x hx).2
  nnd := nodup_map h.nnd fun x hx y hy q => r.inj x y (h.en x hx).1 (h.en x hx).2 (h.en y hy).1 (h.en y hy).2 q
  en := fun i hi => by
    obtain ⟨x, hx, rfl⟩ := List.mem_map.1 hi
    exact r.rg x (h.en x hx).1 (h.en x hx).2
  nd := nodup_map h.nd fun x hx y hy q => by
    obtain ⟨h1, _, h3⟩ := h.ed x hx
    obtain ⟨g1, _, g3⟩ := h.ed y hy
    have e1 : f x.1 = f y.1 := congrArg Prod.fst q
    have e2 : (mapE f x).2.1 = (mapE f y).2.1 := congrArg (fun z : Edge => z.2.1) q
    have e3 : f x.2.2 = f y.2.2 := congrArg (fun z : Edge => z.2.2) q
    have r1 := r.inj _ _ h1.1 h1.2 g1.1 g1.2 e1
    have r3 := r.inj _ _ h3.1 h3.2 g3.1 g3.2 e3
    obtain ⟨a, b, c⟩ := x
    obtain ⟨a', b', c'⟩ := y
    simp only [mapE] at r1 r3 e2
    rw [r1, r3, e2]
  len := by
    show (p.es.map (mapE f)).length ≤ e
    rw [List.length_map]
    exact h.len
  ed := fun x hx => by
    obtain ⟨y, hy, rfl⟩ := List.mem_map.1 hx
    obtain ⟨h1, h2, h3⟩ := h.ed y hy
    exact ⟨r.rg _ h1.1 h1.2, h2, r.rg _ h3.1 h3.2⟩
theorem leads_ren {k s e : Nat} {p : Plan} {f : Int → Int} (h : PlanOk k s e p) (r : Ren p.n f) {cs : List Nat} : Leads (renP f p).es (renP f p).st (renP f p).en cs ↔ Leads p.es p.st p.en cs := by
  have inj : ∀ x y : Int, (0 ≤ x ∧ x < p.n) → (0 ≤ y ∧ y < p.n) → f x = f y → x = y := fun x y hx hy => r.inj x y hx.1 hx.2 hy.1 hy.2
  constructor
  · rintro ⟨a', ha, b', hb, q⟩
    obtain ⟨a, hs, rfl⟩ := List.mem_map.1 ha
    obtain ⟨b, ib, eb, q⟩ := Path.unmap (I := fun x => 0 ≤ x ∧ x < p.n) inj (fun e he => ⟨(h.ed e he).1, (h.ed e he).2.2⟩) q a (h.st a hs) rfl
    obtain ⟨b2, hb2, e2⟩ := List.mem_map.1 hb
    have e3 : b2 = b := inj b2 b (h.en b2 hb2) ib (e2.trans eb)
    exact ⟨a, hs, b, e3 ▸ hb2, q⟩
  · rintro ⟨a, ha, b, hb, q⟩
    exact ⟨f a, List.mem_map.2 ⟨a, ha, rfl⟩, f b, List.mem_map.2 ⟨b, hb, rfl⟩, q.map f⟩
/-! ### a list with two items exchanged -/
def swapL (ps : List Int) (i j : Nat) : List Int := (ps.set i (ps.getD j 0)).set j (ps.getD i 0)
theorem swapL_len (ps : List Int) (i j : Nat) : (swapL ps i j).length = ps.length := by
  unfold swapL
  rw [List.length_set, List.length_set]
def tau (i j a : Nat) : Nat := if a = j then i else if a = i then j else a
theorem swapL_at {ps : List Int} {i j a : Nat} (hi : i < ps.length) (hj : j < ps.length) (ha : a < ps.length) : (swapL ps i j)[a]? = ps[tau i j a]? := by
  unfold swapL tau
  rw [List.getElem?_set]
  by_cases h1 : a = j
  · subst h1
    simp [ha, hi, List.getD_eq_getElem?_getD]
  · rw [if_neg (fun z => h1 z.symm), if_neg h1, List.getElem?_set]
    by_cases h2 : a = i
    · subst h2
      simp [ha, hj, List.getD_eq_getElem?_getD]
    · rw [if_neg (fun z => h2 z.symm), if_neg h2]
structure Perm (n : Nat) (ps : List Int) : Prop where
  len : ps.length = n
  nd : ∀ a b, a < n → b < n → ps[a]? = ps[b]? → a = b
  rg : ∀ x ∈ ps, 0 ≤ x ∧ x < (n : Int)
theorem Perm.swap {n : Nat} {ps : List Int} (h : Perm n ps) {i j : Nat} (hi : i < n) (hj : j < n) : Perm n (swapL ps i j) where
  len := (swapL_len ps i j).trans h.len
  nd := fun a b ha hb e => by
    have l := h.len
    rw [swapL_at (by omega) (by omega) (by omega), swapL_at (by omega) (by omega) (by omega)] at e
    have t : ∀ x, x < n → tau i j x < n := fun x hx => by
      unfold tau
      split
      · exact hi
      · split
        · exact hj
        · exact hx
    have e2 := h.nd _ _ (t a ha) (t b hb) e
    unfold tau at e2
    split at e2 <;> split at e2 <;> (try split at e2) <;> (try split at e2) <;> omega
  rg := fun x hx => by
    obtain ⟨a, ha, e⟩ := List.getElem_of_mem hx
    have l := h.len
    rw [swapL_len] at ha
    have e2 := swapL_at (ps := ps) (i := i) (j := j) (by omega) (by omega) ha
    rw [List.getElem?_eq_getElem (by rw [swapL_len]; exact ha), e] at e2
    exact h.rg x (List.mem_of_getElem? e2.symm)
theorem perm_range (n : Nat) : Perm n ((List.range n).map Int.ofNat) where
  len := by rw [List.length_map, List.length_range]
  nd := fun a b ha hb e => by
    rw [List.getElem?_map, List.getElem?_map, List.getElem?_range ha, List.getElem?_range hb] at e
    have := Option.some.inj e
    exact Int.ofNat.inj this
  rg := fun x hx => by
    obtain ⟨i, hi, rfl⟩ := List.mem_map.1 hx
    have := List.mem_range.1 hi
    show 0 ≤ (i : Int) ∧ (i : Int) < n
    omega
def nameOf (ps : List Int) (i : Int) : Int := ps.getD i.toNat 0
theorem Perm.ren {n : Nat} {ps : List Int} (h : Perm n ps) : Ren n (nameOf ps) where
  rg := fun x h0 h1 => by
    have l := h.len
    have hx : x.toNat < ps.length := by omega
    unfold nameOf
    rw [List.getD_eq_getElem?_getD, List.getElem?_eq_getElem hx]
    exact h.rg _ (List.getElem_mem hx)
  inj := fun x y h0 h1 g0 g1 e => by
    have l := h.len
    have hx : x.toNat < ps.length := by omega
    have hy : y.toNat < ps.length := by omega
    unfold nameOf at e
    rw [List.getD_eq_getElem?_getD, List.getD_eq_getElem?_getD, List.getElem?_eq_getElem hx, List.getElem?_eq_getElem hy] at e
    have e : ps[x.toNat] = ps[y.toNat] := e
    have := h.nd x.toNat y.toNat (by omega) (by omega) (by rw [List.getElem?_eq_getElem hx, List.getElem?_eq_getElem hy, e])
    omega
end GL

/-! G24: a text read backwards, list(range(n)). -/
namespace GL
open PySem PySem.Spec L2
open PyProof.Rows hiding St
open SX (S)
/-- text[::-1] -/
def tRev (te : TE) : TE := fun σ H Q => te σ H fun x H1 => ∃ z : Str, x = .str z ∧ z.length ≤ sizeLine ∧ Q (.str ⟨z.cps.reverse⟩) H1
theorem back_ix (n : Nat) : Builtin.Str.strSliceIndices none none (-1) n = (List.range n).map fun j => n - 1 - j := by
  unfold Builtin.Str.strSliceIndices sliceRange
  simp only []
  have e : (if ((n : Int) - 1) > (-1) then ((n : Int) - 1 - (-1) - (-1) - 1) / (-(-1)) else 0) = (n : Int) := by
    split
    · simp
    · omega
  simp only [show ¬ ((-1 : Int) > 0) by decide, if_false, e]
  rw [Int.toNat_natCast]
  refine List.map_congr_left fun j hj => ?_
  have := List.mem_range.1 hj
  omega
theorem back_items (z : Str) : ((Builtin.Str.strSliceIndices none none (-1) z.length).filterMap (z.cps[·]?)).toArray = z.cps.reverse := by
  rw [back_ix]
  apply Array.ext'
  rw [List.filterMap_map]
  show ((List.range z.cps.size).filterMap fun j => z.cps[z.cps.size - 1 - j]?) = _
  rw [Array.toList_reverse]
  apply List.ext_getElem?
  intro i
  have key : ∀ n, n ≤ z.cps.size → (List.range n).filterMap (fun j => z.cps[z.cps.size - 1 - j]?) = (List.range n).map fun j => z.cps.getD (z.cps.size - 1 - j) 0 := by
    intro n
    induction n with
    | zero => intro _; rfl
    | succ n ih =>
      intro hn
      rw [List.range_succ, List.filterMap_append, List.map_append, ih (by omega)]
      have h : z.cps.size - 1 - n < z.cps.size := by omega
      congr 1
      simp [Array.getD_eq_getD_getElem?, Array.getElem?_eq_getElem h]
  rw [key _ (Nat.le_refl _), List.getElem?_map]
  by_cases hi : i < z.cps.size
  · rw [List.getElem?_range hi, List.getElem?_reverse (by rw [Array.length_toList]; exact hi), Array.length_toList, Array.getElem?_toList]
    have h : z.cps.size - 1 - i < z.cps.size := by omega
    show some (z.cps.getD (z.cps.size - 1 - i) 0) = _
    rw [Array.getD_eq_getD_getElem?, Array.getElem?_eq_getElem h]
    rfl
  · rw [List.getElem?_eq_none (by rw [List.length_range]; omega), List.getElem?_eq_none (by rw [List.length_reverse, Array.length_toList]; omega)]
    rfl
theorem pe_rev {X : Cx} {te : TE} {e : Expr} {k : Nat} {p1 p2 p3 pos : Pos} (he : PE X e te) : PE X (.Subscript e (.Slice none none (some (.UnaryOp .USub (.Constant (.int 1) k p1) p2)) p3) pos) (tRev te) := by
  constructor
  intro pins s σ H Q I h
  apply Subscript_
  apply thn (he.run pins s σ H _ I h)
  rintro v sa ⟨_, Ha, Ia, ra, z, rfl, hz, q⟩
  obtain ⟨tz, rfl⟩ := (show ∃ t, v = Value.str z t from ra)
  have minus : PO X (some (.UnaryOp .USub (.Constant (.int 1) k p1) p2)) (tPart (tUn (rU fun i => .int (-i)) (tC (.int 1)))) := po_some (pe_un un_neg pe_int)
  apply wpAny_Slice
  apply thn (po_none.run pins sa σ Ha (fun o G => o = none ∧ G = Ha) Ia ⟨rfl, rfl⟩)
  rintro vl sb ⟨o1, G1, Ib, pl, eo1, eg1⟩
  subst eo1
  rw [eg1] at Ib
  apply thn (po_none.run pins sb σ Ha (fun o G => o = none ∧ G = Ha) Ib ⟨rfl, rfl⟩)
  rintro vu sc ⟨o2, G2, Ic, pu, eo2, eg2⟩
  subst eo2
  rw [eg2] at Ic
  apply thn (minus.run pins sc σ Ha (fun o G => o = some (-1) ∧ G = Ha) Ic ⟨1, rfl, -1, rfl, rfl, rfl⟩)
  rintro vs sd ⟨o3, G3, Id, ps, eo3, eg3⟩
  subst eo3
  rw [eg3] at Id
  obtain ⟨l1, rfl, e1⟩ := IsPart.raw pl
  obtain ⟨u1, rfl, e2⟩ := IsPart.raw pu
  obtain ⟨s1, rfl, e3⟩ := IsPart.raw ps
  have n1 : l1 = none := by cases l1 <;> first | rfl | cases e1
  have n2 : u1 = none := by cases u1 <;> first | rfl | cases e2
  subst n1 n2
  obtain ⟨⟨sv, tk⟩, rfl⟩ : ∃ y, s1 = some y := by cases s1 <;> first | exact ⟨_, rfl⟩ | cases e3
  have e4 : sv = -1 := (Option.some.inj (show some sv = some (-1) from e3))
  subst e4
  have made : (sliceMade z tz none none (some (-1, tk))).post (EP X pins σ Q) { sd with heap := sd.heap.push { cls := .type "slice", data := .fields #[.none, .none, .int (-1) tk] } } := by
    unfold sliceMade
    rw [if_neg (by simp)]
    have eq : (⟨((slicePicked z none none (some (-1, tk))).filterMap (z.cps[·]?)).toArray⟩ : Str) = ⟨z.cps.reverse⟩ := congrArg Str.mk (back_items z)
    rw [eq]
    have J : Inv X pins σ Ha { sd with heap := sd.heap.push { cls := .type "slice", data := .fields #[.none, .none, .int (-1) tk] } } := Id.kept (t' := sd.toks) fun b ob q => Heap.get?_push_of_some _ q
    exact ⟨by show z.cps.reverse.size ≤ sizeLine; rw [Array.size_reverse]; exact hz, .str _, Ha, J.tok _, ⟨_, rfl⟩, q⟩
  exact tail_any (ops := [.ref sd.heap.objs.size, .str z tz]) (typeIs_str _ _ _) F.slot_str_getitem.lookup (wpAny_getItem_str_slice (l := none) (u := none) (st := some (-1, tk)) ⟨_, Heap.get?_push_size _ rfl, rfl, rfl⟩ rfl made) (by with_unfolding_all rfl)
section
variable {K : PySem.W.Frag} {D0 : Hp} {R : Res} {l : List (V × PyData)} {σ : L2.St} {D : Ends} {Q : VK}
def kRev (x : V) (H1 : Hp) (Q : VK) : Prop := ∃ z : Str, x = .str z ∧ z.length ≤ sizeLine ∧ Q (.str ⟨z.cps.reverse⟩) H1
theorem d_tRev {te : TE} (k : RD K D0 R l (fun H => te σ H fun x H1 => kRev x H1 Q)) : RD K D0 R l (fun H => tRev te σ H Q) := k
theorem d_revS {cs : List Nat} (h : cs.length ≤ 1000000) (k : RD K D0 R l (Q (.str (S cs.reverse)))) : RD K D0 R l (fun H => kRev (.str (S cs)) H Q) := fun N H A => by
  refine ⟨S cs, rfl, by rw [S_len]; exact Nat.le_trans (Nat.le_trans h (by decide)) line_big, ?_⟩
  have e : (⟨(S cs).cps.reverse⟩ : Str) = S cs.reverse := congrArg Str.mk (by
    apply Array.ext'
    rw [Array.toList_reverse, S_tl])
  rw [e]
  exact k N H A
/-- list(range(n)) -/
theorem rgV_ints (n : Nat) : rgV 0 (n : Int) = ((List.range n).map Int.ofNat).map V.int := by
  unfold rgV
  rw [List.map_map, show ((n : Int) - 0).toNat = n by omega]
  refine List.map_congr_left fun i _ => ?_
  show V.int (0 + (i : Int)) = V.int (Int.ofNat i)
  rw [Int.zero_add]
  rfl
def kLRg (a b : Int) (H1 : Hp) (Q : VK) : Prop := RgOk a b ∧ ∀ q, H1 q = none → Q (.ref q) (upd H1 q (.lst (rgV a b)))
theorem d_tLRg1 {ta : TE} (k : RD K D0 R l (fun H => ta σ H fun x H1 => ∃ n, x = .int n ∧ kLRg 0 n H1 Q)) : RD K D0 R l (fun H => tLstRg (tRg1 ta) σ H Q) := k
theorem d_kLRg {n : Nat} (h : n ≤ 1000) (k : ∀ a, RD K D0 (star (own K a ((List.range n).map fun (i : Nat) => PyData.int i)) R) l (Q (.ref a))) : RD K D0 R l (fun H => ∃ m, V.int n = .int m ∧ kLRg 0 m H Q) := fun N H A => by
  refine ⟨n, rfl, RgOk.of_le (by omega) (by omega) (by omega) (by omega), fun p hp => ?_⟩
  rw [rgV_ints]
  refine k p _ _ (A.newOwn hp ?_)
  have z := DtAll.ofInts (K := K) (H := off H N) ((List.range n).map Int.ofNat)
  have e : ((List.range n).map Int.ofNat).map PyData.int = (List.range n).map fun (i : Nat) => PyData.int i := by
    rw [List.map_map]
    rfl
  rw [e] at z
  exact z
end
end GL

/-! N4: rules that the laws over machines share; all strings in order; states that can be shown. -/
namespace GL
open PySem PySem.Spec L2
open PyProof.Rows hiding St
open SX (S)
local macro_rules | `(tactic| walk_at "mem") => `(tactic| (first | exact List.Mem.head _ | exact List.Mem.tail _ (List.Mem.head _) | exact List.Mem.tail _ (List.Mem.tail _ (List.Mem.head _)) | ((repeat (first | exact List.Mem.head _ | apply List.Mem.tail)); done)))
local macro_rules | `(tactic| walk_at "inl") => `(tactic| (first | exact InL.int _ | exact InL.str _ | exact InL.bl _ | exact InL.non | (refine InL.mem ?zm; walk_at "mem") | assumption))
local macro_rules | `(tactic| walk_at "inls") => `(tactic| (repeat (first | exact InLs.nil | (refine InLs.cons ?zi ?_; case zi => walk_at "inl"))))
local macro_rules | `(tactic| walk_at "set") => `(tactic| (simp only [wipe, List.set_cons_succ, List.set_cons_zero]; rfl))
local macro_rules | `(tactic| walk_at "tails") => `(tactic| (first | exact sub_refl | exact sub_tail sub_refl | exact sub_tail (sub_tail sub_refl) | exact sub_nil | ((repeat (first | exact sub_refl | apply sub_tail)); done)))
local macro_rules | `(tactic| walk_at "sub") => `(tactic| (first | walk_at "tails" | ((repeat (refine sub_cons ?zi ?_; case zi => walk_at "inl")); walk_at "tails")))
local macro_rules | `(tactic| walk_at "g1") => `(tactic| (first
  | with_reducible refine d_seq ?_
  | with_reducible refine d_asg ?_
  | ((with_reducible refine d_name (σ' := ?zs) ?zh ?_); (case zh => walk_at "set"))
  | ((with_reducible refine d_var (v := ?zs) ?zh ?_); (case zh => rfl))
  | with_reducible refine d_C ?_
  | with_reducible refine d_op ?_
  | with_reducible refine d_cons ?_
  | with_reducible refine d_nil ?_
  | with_reducible refine d_cb ?_
  | with_reducible refine d_g ?_
  | with_reducible refine d_ifS ?_
  | with_reducible refine d_test ?_
  | with_reducible refine d_bl ?_
  | with_reducible refine d_addI ?_
  | with_reducible refine d_I0 ?_
  | with_reducible refine d_ret ?_
  | with_reducible refine d_retN ?_
  | with_reducible refine d_next ?_
  | with_reducible refine d_drop ?_
  | with_reducible refine d_and ?_
  | with_reducible refine d_or ?_
  | with_reducible refine d_not ?_
  | with_reducible refine d_andV ?_
  | with_reducible refine d_orV ?_
  | with_reducible refine d_notV ?_
  | with_reducible refine d_tru ?_
  | with_reducible refine d_truB ?_
  | with_reducible refine d_tif ?_
  | with_reducible refine d_iteT ?_
  | with_reducible refine d_iteF ?_
  | with_reducible refine d_iteNT ?_
  | with_reducible refine d_iteNF ?_
  | with_reducible refine d_eqI ?_
  | with_reducible refine d_neI ?_
  | with_reducible refine d_eqS ?_
  | with_reducible refine d_neS ?_
  | with_reducible refine d_eqB ?_
  | with_reducible refine d_neB ?_
  | with_reducible refine d_isN ?_
  | with_reducible refine d_notN ?_
  | with_reducible refine d_bm ?_
  | with_reducible refine d_tyS ?_
  | with_reducible refine d_tyO ?_
  | with_reducible refine d_find3 ?_
  | with_reducible refine d_tup ?_
  | with_reducible refine d_lst ?_
  | with_reducible refine d_for ?_
  | with_reducible refine d_iRng1 ?_
  | with_reducible refine d_gIt ?_
  | with_reducible refine d_lc ?_
  | with_reducible refine d_yes ?_
  | with_reducible refine d_tSl ?_
  | with_reducible refine d_noPart ?_
  | with_reducible refine d_part ?_
  | with_reducible refine d_int ?_
  | ((with_reducible refine d_wipe ?zh ?_); (case zh => rfl))
  | ((with_reducible refine d_aug (v := ?zs) ?zh ?_); (case zh => rfl))
  | with_reducible refine d_ipI ?_
  | ((with_reducible refine d_set (σ' := ?zs) ?zh ?_); (case zh => walk_at "set"))))
local macro_rules | `(tactic| walk_at "go") => `(tactic| (repeat walk_at "g1"))
local macro_rules | `(tactic| walk_at "g1") => `(tactic| (first
  | with_reducible refine d_chain ?_
  | with_reducible refine d_tB ?_
  | with_reducible refine d_tGM ?_
  | with_reducible refine d_tGN ?_
  | with_reducible refine d_rz ?_
  | with_reducible refine d_tXf ?_
  | with_reducible refine d_tFld ?_
  | with_reducible refine d_sFld ?_
  | with_reducible refine d_tMix ?_
  | with_reducible refine d_tDIn ?_
  | with_reducible refine d_tDNotIn ?_
  | with_reducible refine d_sDPut ?_
  | with_reducible refine d_sDDelT ?_
  | with_reducible refine d_tSet ?_
  | with_reducible refine d_gcons ?_
  | with_reducible refine d_gnil ?_
  | with_reducible refine d_iKeys ?_))
local macro_rules | `(tactic| walk_at "g1") => `(tactic| (first
  | with_reducible refine d_par ?_
  | with_reducible refine d_tRev ?_
  | with_reducible refine d_tLRg1 ?_
  | with_reducible refine d_kPar ?_))
section
variable {K : PySem.W.Frag} {W : WX} {D0 : Hp} {R : Res} {l : List (V × PyData)} {Q : VK} {vs : List V} {H : Hp} {E : XK} {P : Program} {w : World}
theorem d_plan {q : Addr} {k s e : Nat} (k1 : 1 ≤ k) (k3 : k ≤ 3) (s1 : 1 ≤ s) (s6 : s ≤ 6) (e14 : e ≤ 14) (kk : ∀ r p, PlanOk k s e p → RD K D0 (star (planR K r p) (star (pen K q) R)) l (Q (.ref r))) :
    RD K D0 (star (pen K q) R) l (fun H => sp__law_plan K [.ref q, .int k, .int s, .int e] H Q E) := fun N H A => ⟨q, k, s, e, D0, R, l, N, rfl, A, k1, k3, s1, s6, e14, kk⟩
/-! ### resources by their place -/
theorem RD.bring3 {A B C S : Res} {T : Hp → Prop} (k : RD K D0 (star C (star A (star B S))) l T) : RD K D0 (star A (star B (star C S))) l T := RD.third k
theorem RD.put3 {A B C S : Res} {T : Hp → Prop} (k : RD K D0 (star A (star B (star C S))) l T) : RD K D0 (star C (star A (star B S))) l T := RD.back k
theorem RD.bring4 {A B C D S : Res} {T : Hp → Prop} (k : RD K D0 (star D (star A (star B (star C S)))) l T) : RD K D0 (star A (star B (star C (star D S)))) l T :=
  RD.res (S := star D (star A (star B (star C S)))) (fun h => star_swap (star_right (fun z => star_swap (star_right (fun y => star_swap y) z)) h)) k
theorem RD.put4 {A B C D S : Res} {T : Hp → Prop} (k : RD K D0 (star A (star B (star C (star D S)))) l T) : RD K D0 (star D (star A (star B (star C S)))) l T :=
  RD.res (S := star A (star B (star C (star D S)))) (fun h => star_right (fun z => star_right (fun y => star_swap y) (star_swap z)) (star_swap h)) k
theorem RD.bring5 {A B C D E S : Res} {T : Hp → Prop} (k : RD K D0 (star E (star A (star B (star C (star D S))))) l T) : RD K D0 (star A (star B (star C (star D (star E S))))) l T :=
  RD.res (S := star E (star A (star B (star C (star D S))))) (fun h => star_swap (star_right (fun z => star_swap (star_right (fun y => star_swap (star_right (fun x => star_swap x) y)) z)) h)) k
theorem RD.put5 {A B C D E S : Res} {T : Hp → Prop} (k : RD K D0 (star A (star B (star C (star D (star E S))))) l T) : RD K D0 (star E (star A (star B (star C (star D S))))) l T :=
  RD.res (S := star A (star B (star C (star D (star E S))))) (fun h => star_right (fun z => star_right (fun y => star_right (fun x => star_swap x) (star_swap y)) (star_swap z)) (star_swap h)) k
/-! ### small rules -/
theorem d_gListT {x : V} {ds : List PyData} (hx : InL l x (.tuple ds)) (k : ∀ v, RD K D0 R ((v, .list ds) :: l) (Q v)) : RD K D0 R l (fun H => gList K [x] H Q) := fun N H A => by
  obtain ⟨a, xs, rfl, ha, hd⟩ := (A.dt hx).tuple
  have hs : SqT K H a xs := same_sqT off_same ha
  refine ⟨a, xs, rfl, .inr hs, fun p hp => ?_⟩
  obtain ⟨A', e⟩ := A.new (.lst xs) hp
  have sm : Same (off H N) (off (upd H p (.lst xs)) N) := off_grow fun b hb nb => ⟨hb, upd_ne fun z => nb (z ▸ hp)⟩
  exact k _ N _ (A'.facts (.lst e (hd.mono sm)))
theorem eqv_intsA : ∀ ns : List Int, PyData.eqvAll (ns.map .int) (ns.map .int) = true
  | [] => by simp [PyData.eqvAll]
  | n :: ns => by simp [PyData.eqvAll, PyData.eqv, eqv_intsA ns]
theorem eqv_tints (ns : List Int) : PyData.eqv (.tuple (ns.map .int)) (.tuple (ns.map .int)) = true := by
  simp only [PyData.eqv]
  exact eqv_intsA ns
theorem tints_depth (ns : List Int) : (PyData.tuple (ns.map .int)).depth ≤ 60 := by
  have := depth_ints ns
  simpa only [PyData.depth] using this
/-! ### machines that grow -/
theorem mok_st {m : Mch} (h : MOk m) {i : Int} (hi : 0 ≤ i ∧ i < m.n) : MOk { m with st := addI m.st i } where
  k1 := h.k1
  k3 := h.k3
  n1 := h.n1
  n6 := h.n6
  len := h.len
  nd := h.nd
  ed := h.ed
  snd := by
    show (addI m.st i).Nodup
    unfold addI
    split
    · exact h.snd
    · rename_i ni
      rw [List.nodup_append]
      exact ⟨h.snd, by simp, fun x hx y hy z => ni (by rw [← List.mem_singleton.1 hy, ← z]; exact hx)⟩
  st := fun x hx => by
    have hx : x ∈ addI m.st i := hx
    unfold addI at hx
    split at hx
    · exact h.st x hx
    · rcases List.mem_append.1 hx with hx | hx
      · exact h.st x hx
      · rw [List.mem_singleton.1 hx]; exact hi
  nnd := h.nnd
  en := h.en
theorem mok_en {m : Mch} (h : MOk m) {i : Int} (hi : 0 ≤ i ∧ i < m.n) : MOk { m with en := addI m.en i } where
  k1 := h.k1
  k3 := h.k3
  n1 := h.n1
  n6 := h.n6
  len := h.len
  nd := h.nd
  ed := h.ed
  snd := h.snd
  st := h.st
  nnd := by
    show (addI m.en i).Nodup
    unfold addI
    split
    · exact h.nnd
    · rename_i ni
      rw [List.nodup_append]
      exact ⟨h.nnd, by simp, fun x hx y hy z => ni (by rw [← List.mem_singleton.1 hy, ← z]; exact hx)⟩
  en := fun x hx => by
    have hx : x ∈ addI m.en i := hx
    unfold addI at hx
    split at hx
    · exact h.en x hx
    · rcases List.mem_append.1 hx with hx | hx
      · exact h.en x hx
      · rw [List.mem_singleton.1 hx]; exact hi
theorem mok_ed {m : Mch} (h : MOk m) {e : Edge} (ln : m.es.length < 14) (ne : e ∉ m.es) (he : (0 ≤ e.1 ∧ e.1 < m.n) ∧ e.2.1 ∈ ([97, 98, 99] : List Nat).take m.k ∧ (0 ≤ e.2.2 ∧ e.2.2 < m.n)) : MOk { m with es := m.es ++ [e] } where
  k1 := h.k1
  k3 := h.k3
  n1 := h.n1
  n6 := h.n6
  len := by
    show (m.es ++ [e]).length ≤ 14
    rw [List.length_append]
    exact ln
  nd := by
    show (m.es ++ [e]).Nodup
    rw [List.nodup_append]
    exact ⟨h.nd, by simp, fun x hx y hy z => ne (by rw [← List.mem_singleton.1 hy, ← z]; exact hx)⟩
  ed := fun x hx => by
    rcases List.mem_append.1 hx with hx | hx
    · exact h.ed x hx
    · rw [List.mem_singleton.1 hx]; exact he
  snd := h.snd
  st := h.st
  nnd := h.nnd
  en := h.en
theorem sub_addI {is : List Int} {i : Int} : ∀ x ∈ is, x ∈ addI is i := fun x hx => by
  unfold addI
  split
  · exact hx
  · exact List.mem_append_left _ hx
/-! ### all strings -/
/-! ### states that are shown -/
def fineD (d : PyData) : Bool := d.showable && (decide (d.depth ≤ 60) && (decide (d.shown.length ≤ 1000) && !d.hasDict))
theorem fineD_of {d : PyData} (h : fineD d = true) : d.showable = true ∧ d.depth ≤ 60 ∧ d.shown.length ≤ sizeLine ∧ d.hasDict = false := by
  unfold fineD at h
  simp only [Bool.and_eq_true, decide_eq_true_eq, Bool.not_eq_true'] at h
  obtain ⟨h1, h2, h3, h4⟩ := h
  exact ⟨h1, h2, Nat.le_trans (Nat.le_trans h3 (by decide)) line_big, h4⟩
def pick6 (b0 b1 b2 b3 b4 b5 : Bool) : List Int := (if b0 then [0] else []) ++ (if b1 then [1] else []) ++ (if b2 then [2] else []) ++ (if b3 then [3] else []) ++ (if b4 then [4] else []) ++ (if b5 then [5] else [])
theorem pick_fine : ∀ b0 b1 b2 b3 b4 b5 : Bool, fineD (.tuple ((pick6 b0 b1 b2 b3 b4 b5).map .int)) = true := by decide +kernel
theorem asc_pick {ns : List Int} (h : ns.Pairwise (· < ·)) (r : ∀ x ∈ ns, 0 ≤ x ∧ x < 6) : ∃ b0 b1 b2 b3 b4 b5, ns = pick6 b0 b1 b2 b3 b4 b5 := by
  refine ⟨decide (0 ∈ ns), decide (1 ∈ ns), decide (2 ∈ ns), decide (3 ∈ ns), decide (4 ∈ ns), decide (5 ∈ ns), ?_⟩
  have asc : ∀ b0 b1 b2 b3 b4 b5 : Bool, (pick6 b0 b1 b2 b3 b4 b5).Pairwise (· < ·) := by decide
  have mem : ∀ (b0 b1 b2 b3 b4 b5 : Bool) (z : Int), z ∈ pick6 b0 b1 b2 b3 b4 b5 ↔ (z = 0 ∧ b0 = true) ∨ (z = 1 ∧ b1 = true) ∨ (z = 2 ∧ b2 = true) ∨ (z = 3 ∧ b3 = true) ∨ (z = 4 ∧ b4 = true) ∨ (z = 5 ∧ b5 = true) := by
    intro b0 b1 b2 b3 b4 b5 z
    cases b0 <;> cases b1 <;> cases b2 <;> cases b3 <;> cases b4 <;> cases b5 <;> simp [pick6]
  refine asc_same h (asc _ _ _ _ _ _) fun z => ?_
  rw [mem]
  simp only [decide_eq_true_eq]
  constructor
  · intro hz
    have := r z hz
    have c : z = 0 ∨ z = 1 ∨ z = 2 ∨ z = 3 ∨ z = 4 ∨ z = 5 := by omega
    rcases c with rfl | rfl | rfl | rfl | rfl | rfl <;> simp [hz]
  · rintro (⟨rfl, h⟩ | ⟨rfl, h⟩ | ⟨rfl, h⟩ | ⟨rfl, h⟩ | ⟨rfl, h⟩ | ⟨rfl, h⟩) <;> exact h
theorem asc_fine {ns : List Int} (h : ns.Pairwise (· < ·)) (r : ∀ x ∈ ns, 0 ≤ x ∧ x < 6) : fineD (.tuple (ns.map .int)) = true := by
  obtain ⟨b0, b1, b2, b3, b4, b5, rfl⟩ := asc_pick h r
  exact pick_fine _ _ _ _ _ _
theorem walkI_asc {es : List Edge} : ∀ {cs : List Nat} {ns : List Int}, ns.Pairwise (· < ·) → (walkI es ns cs).Pairwise (· < ·)
  | [], _, h => h
  | c :: cs, ns, _ => walkI_asc (cs := cs) (ns := stepI es ns c) (asc_sortI _)
theorem afterI_fine {m : Mch} (h : MOk m) (cs : List Nat) : fineD (.tuple ((afterI m cs).map .int)) = true := by
  refine asc_fine (walkI_asc (asc_sortI _)) fun x hx => ?_
  obtain ⟨a, ha, p⟩ := mem_walkI.1 hx
  have n6 := h.n6
  have rg : ∀ {a b : Int} {cs : List Nat}, Path m.es a cs b → (0 ≤ a ∧ a < m.n) → 0 ≤ b ∧ b < m.n := fun p => by
    induction p with
    | nil => exact id
    | cons h1 _ ih => exact fun _ => ih (h.ed _ h1).2.2
  have := rg p (h.st a (mem_sortI.1 ha))
  omega
end
end GL

/-! K0: states that strings lead to, in numbers. -/
namespace GL
open PySem PySem.Spec L2
open PyProof.Rows hiding St
/-- reached from one of these by edges -/
inductive Rc (es : List Edge) (ns : List Int) : Int → Prop
  | base {x : Int} (h : x ∈ ns) : Rc es ns x
  | step {x y : Int} {c : Nat} (h : Rc es ns x) (e : (x, c, y) ∈ es) : Rc es ns y
def ClosedE (es : List Edge) (ns : List Int) : Prop := ∀ x c y, x ∈ ns → (x, c, y) ∈ es → y ∈ ns
theorem Rc.closed {es : List Edge} {ns : List Int} (h : ClosedE es ns) {x : Int} (r : Rc es ns x) : x ∈ ns := by
  induction r with
  | base h => exact h
  | step _ e ih => exact h _ _ _ ih e
theorem Rc.trans {es : List Edge} {ns ms : List Int} (h : ∀ x ∈ ms, Rc es ns x) {x : Int} (r : Rc es ms x) : Rc es ns x := by
  induction r with
  | base hx => exact h _ hx
  | step _ e ih => exact .step ih e
theorem Rc.mono {es : List Edge} {ns ms : List Int} (h : ∀ x ∈ ms, x ∈ ns) {x : Int} (r : Rc es ms x) : Rc es ns x := Rc.trans (fun x hx => .base (h x hx)) r
theorem nodup_subI : ∀ {l C : List Int}, l.Nodup → (∀ x ∈ l, x ∈ C) → l.length ≤ C.length
  | [], _, _, _ => Nat.zero_le _
  | x :: l, C, nd, h => by
    rw [List.nodup_cons] at nd
    have hx := h x List.mem_cons_self
    have ih := nodup_subI (l := l) (C := C.erase x) nd.2 fun y hy => (List.mem_erase_of_ne (a := y) (b := x) fun z => nd.1 (by rw [← z]; exact hy)).2 (h y (List.mem_cons_of_mem _ hy))
    rw [List.length_erase_of_mem hx] at ih
    have : 0 < C.length := List.length_pos_of_mem hx
    rw [List.length_cons]
    omega
def InRg (n : Nat) (ns : List Int) : Prop := ∀ x ∈ ns, 0 ≤ x ∧ x < n
theorem few_in {n : Nat} {ns : List Int} (nd : ns.Nodup) (h : InRg n ns) : ns.length ≤ n := by
  have e := nodup_subI (C := (List.range n).map fun (i : Nat) => (i : Int)) nd fun x hx => by
    obtain ⟨h1, h2⟩ := h x hx
    obtain ⟨k, rfl⟩ := Int.eq_ofNat_of_zero_le h1
    exact List.mem_map.2 ⟨k, List.mem_range.2 (by omega), rfl⟩
  rwa [List.length_map, List.length_range] at e
/-- a round adds what edges lead to, and nothing that they do not -/
structure Round (es : List Edge) (F G : List Int) : Prop where
  keep : ∀ x ∈ F, x ∈ G
  add : ∀ x c y, x ∈ F → (x, c, y) ∈ es → y ∈ G
  only : ∀ x ∈ G, Rc es F x
  nd : G.Nodup
theorem Round.closed {es : List Edge} {F G : List Int} (r : Round es F G) (h : ClosedE es F) : ClosedE es G := fun x c y hx e => by
  have h1 := (r.only x hx).closed h
  exact r.add x c y h1 e
theorem Round.more {es : List Edge} {F G : List Int} (r : Round es F G) (nd : F.Nodup) : ClosedE es F ∨ F.length + 1 ≤ G.length := by
  by_cases h : ClosedE es F
  · exact .inl h
  · refine .inr ?_
    unfold ClosedE at h
    simp only [Classical.not_forall] at h
    obtain ⟨x, c, y, hx, e, hy⟩ := h
    have h1 := nodup_subI (l := y :: F) (C := G) (List.nodup_cons.2 ⟨hy, nd⟩) fun z hz => by
      rcases List.mem_cons.1 hz with rfl | hz
      · exact r.add x c z hx e
      · exact r.keep z hz
    rwa [List.length_cons] at h1
/-- after r rounds -/
inductive Rounds (es : List Edge) (F : List Int) : Nat → List Int → Prop
  | zero : Rounds es F 0 F
  | succ {r : Nat} {G G' : List Int} (h : Rounds es F r G) (s : Round es G G') : Rounds es F (r + 1) G'
theorem Rounds.grow {es : List Edge} {F : List Int} (nd : F.Nodup) : ∀ {r : Nat} {G : List Int}, Rounds es F r G → G.Nodup ∧ (ClosedE es G ∨ F.length + r ≤ G.length) ∧ (∀ x ∈ F, x ∈ G) ∧ ∀ x ∈ G, Rc es F x := by
  intro r G h
  induction h with
  | zero => exact ⟨nd, .inr (Nat.le_refl _), fun x h => h, fun x h => .base h⟩
  | succ h s ih =>
    obtain ⟨i1, i2, i3, i4⟩ := ih
    refine ⟨s.nd, ?_, fun x hx => s.keep x (i3 x hx), fun x hx => Rc.trans i4 (s.only x hx)⟩
    rcases i2 with i2 | i2
    · exact .inl (s.closed i2)
    · rcases s.more i1 with h1 | h1
      · exact .inl (s.closed h1)
      · exact .inr (by omega)
theorem Rounds.all {es : List Edge} {F G : List Int} {n : Nat} (nd : F.Nodup) (h : Rounds es F n G) (rg : InRg n G) (x : Int) : x ∈ G ↔ Rc es F x := by
  obtain ⟨g1, g2, g3, g4⟩ := h.grow nd
  refine ⟨g4 x, fun r => ?_⟩
  rcases g2 with g2 | g2
  · exact (Rc.mono g3 r).closed g2
  · have := few_in g1 rg
    have e : F.length = 0 := by omega
    rw [List.length_eq_zero_iff] at e
    subst e
    have z : ClosedE es ([] : List Int) := fun x c y hx => absurd hx List.not_mem_nil
    exact absurd (r.closed z) List.not_mem_nil
/-- a search that has looked at all that it found -/
theorem search_all {es : List Edge} {F G : List Int} (k : ∀ x ∈ F, x ∈ G) (o : ∀ x ∈ G, Rc es F x) (c : ClosedE es G) (x : Int) : x ∈ G ↔ Rc es F x :=
  ⟨o x, fun r => (Rc.mono k r).closed c⟩
end GL

/-! G34: sum of a tuple, sorted down, zip of a tuple and a list, comprehensions with two fors, tuples known by name, facts as a resource. -/
namespace GL
open PySem PySem.Spec L2
open PyProof.Rows hiding St
open PySem.W (AllAlike Sortable dataLe)
/-! ### sum of a list or a tuple of ints -/
def rSumG (K : PySem.W.Frag) : List V → Hp → VK → Prop := fun vs H Q => ∃ (a : Addr) (ns : List Int), vs = [.ref a] ∧ (SqL K H a (ns.map V.int) ∨ SqT K H a (ns.map V.int)) ∧ Q (.int ns.sum) H
theorem preSum_all (f : Nat → Int) : True := trivial
theorem cr_sumG {X : Cx} (hc : X.calm = true) : CallR X (.builtin "sum") (rSumG X.K) := by
  intro pins s σ H xs us Q I r h
  obtain ⟨a, ns, rfl, hq | hq, q⟩ := h
  · exact cr_sum hc pins s σ H _ us Q I r ⟨a, ns, rfl, hq, q⟩
  · obtain ⟨u, rfl, ru⟩ := vals1 r
    cases (show u = Value.ref a from ru)
    obtain ⟨its, rv, p, _⟩ := I.tuple hq
    have hi : IntsAre its ns := intsAre_of rv
    obtain ⟨xs, hx⟩ := hi.allInts.items
    have hn : numsOf its = ns := hi.numsOf
    have p' : s.heap.IsTuple a its.toArray := p
    rw [hx] at p'
    have hn' : numsOf (intItems xs).toList = ns := by
      rw [← hx]
      exact hn
    rw [nums_intItems] at hn'
    refine PySem.W.ktm_sumG (I.ok.hd hc) p' fun h' tk t' hk => ?_
    rw [preSum_eq, List.take_of_length_le (by simp), hn']
    exact ⟨.int ns.sum, H, I.kept (t' := tk) hk, ⟨t', rfl⟩, q⟩
/-! ### sorted(xs, reverse=True) -/
def gSortedR (K : PySem.W.Frag) : List V → List V → Hp → VK → Prop := fun vs zs H Q => ∃ (a : Addr) (ps : List (V × PyData)), vs = [.ref a] ∧ zs = [.bl true] ∧ SqL K H a (ps.map (·.1)) ∧ (∀ p ∈ ps, Dp K H p.1 p.2) ∧ AllAlike (ps.map byD) ∧ Sortable (ps.map byD) ∧ (∀ p ∈ ps, p.2.depth ≤ 60) ∧
  ∀ q, H q = none → Q (.ref q) (upd H q (.lst ((ps.mergeSort (dataLe true byD)).map (·.1))))
theorem call_gsortedR {X : Cx} (hu : X.A.units + 64 < cLine) : CallRK X (.builtin "sorted") [Str.ofString "reverse"] (gSortedR X.K) := by
  intro pins s σ H xs zs us ws Q I r rz h
  obtain ⟨a, ps, rfl, rfl, hq, hd, al, so, dp, q⟩ := h
  obtain ⟨u, rfl, ru⟩ := vals1 r
  obtain ⟨w, rfl, rw'⟩ := vals1 rz
  cases (show u = Value.ref a from ru)
  cases (show w = Value.bool true from rw')
  obtain ⟨its, rv, pl, hz⟩ := I.list hq
  have e := each_of rv
  have er := each_in (S := fun v p => ∃ as, Reads s.heap v (byD p) as) e fun u p hp r => Dp.reads I p.2 p.1 u (hd p hp) r
  have hlen : ps.length ≤ sizeLine := by simpa using hz
  refine PySem.W.sorted_rev_data (b := true) pl.isList e er al so hlen (fun p hp => ?_) fun out hl eo => ?_
  · have := dp p hp
    show X.A.units + 2 + p.2.depth < cLine
    omega
  obtain ⟨n, at_⟩ := sortedAll_at s.heap its out.toArray
  have ov := vals_each eo
  have ol : ((ps.mergeSort (dataLe true byD)).map (·.1)).length ≤ sizeLine := by
    rw [List.length_map, List.length_mergeSort]
    exact hlen
  have new : ObjOk X.prog X.w (upd H (s.heap.objs.size + 1) (.lst ((ps.mergeSort (dataLe true byD)).map (·.1)))) (PyProof.Rows.sortedAll s.heap its out.toArray) (s.heap.objs.size + 1) (.lst ((ps.mergeSort (dataLe true byD)).map (·.1))) :=
    ⟨ol, out, n, ov, at_⟩
  have J := I.laid (t' := s.toks) (fun b u => sortedAll_old) (Nat.le_succ _) new
  exact ⟨.ref _, _, J, rfl, q _ (I.hok.fresh (Nat.le_succ _))⟩
section
variable {K : PySem.W.Frag} {D0 : Hp} {R S : Res} {l : List (V × PyData)} {σ : L2.St} {D : Ends} {Q : VK} {L : List (Addr × HO)} {T : Hp → Prop}
theorem d_sumT {x : V} {ns : List Int} (hx : InL l x (.tuple (ns.map .int))) (k : RD K D0 R l (Q (.int ns.sum))) : RD K D0 R l (fun H => rSumG K [x] H Q) := fun N H A => by
  obtain ⟨a, xs, rfl, ha, hd⟩ := (A.dt hx).tuple
  obtain rfl := hd.ints
  exact ⟨a, ns, rfl, .inr (same_sqT off_same ha), k N H A⟩
theorem d_cKw {r : List V → List V → Hp → VK → Prop} {t tk : TA} (k : RD K D0 R l (fun H => t σ H fun vs H1 => tk σ H1 fun zs H2 => r vs zs H2 Q)) : RD K D0 R l (fun H => tCKw r t tk σ H Q) := k
theorem d_sortedR {x : V} {ds : List PyData} (hx : InL l x (.list ds)) (al : AllAlike ds) (so : Sortable ds) (dp : ∀ d ∈ ds, d.depth ≤ 60) (k : ∀ v, RD K D0 R ((v, .list (ds.mergeSort (dataLe true id))) :: l) (Q v)) : RD K D0 R l (fun H => gSortedR K [x] [.bl true] H Q) := fun N H A => by
  obtain ⟨a, xs, rfl, ha, hd⟩ := (A.dt hx).list
  obtain ⟨ps, rfl, rfl, hp⟩ := dt_pairs hd
  refine ⟨a, ps, rfl, rfl, SqL.of (off_same a _ ha), fun p hm => ((hp p hm).mono off_same).dp, al, so, fun p hm => dp _ (List.mem_map.2 ⟨p, hm, rfl⟩), fun q hq => ?_⟩
  obtain ⟨A', e⟩ := A.new (.lst ((ps.mergeSort (dataLe true byD)).map (·.1))) hq
  have hp2 : ∀ p ∈ ps, Dt K (off (upd H q (.lst ((ps.mergeSort (dataLe true byD)).map (·.1)))) N) p.1 p.2 := fun p hm =>
    ((A.facts (hp p hm)).new (.lst ((ps.mergeSort (dataLe true byD)).map (·.1))) hq).1.dt (.mem List.mem_cons_self)
  have hs : DtAll K (off (upd H q (.lst ((ps.mergeSort (dataLe true byD)).map (·.1)))) N) ((ps.mergeSort (dataLe true byD)).map (·.1)) ((ps.mergeSort (dataLe true byD)).map byD) :=
    pairs_dt fun p hm => hp2 p ((List.mergeSort_perm _ _).mem_iff.1 hm)
  have em : (ps.mergeSort (dataLe true byD)).map byD = (ps.map byD).mergeSort (dataLe true id) := List.map_mergeSort fun _ _ _ _ => rfl
  rw [em] at hs
  exact k _ N _ (A'.facts (.lst e hs))
/-! ### tuple(xs), known by name -/
theorem d_tupleLD {x : V} {ds : List PyData} {ks : List Key} (hx : InL l x (.list ds)) (he : ds = ks.map kD) (k : ∀ q, D0 q = none → RD K (upd D0 q (.tup (ks.map kV))) R ((.ref q, .tuple ds) :: l) (Q (.ref q))) : RD K D0 R l (fun H => gTuple K [x] H Q) := fun N H A => by
  obtain ⟨a, xs, rfl, ha, hd⟩ := (A.dt hx).list
  have exs : xs = ks.map kV := by
    subst he
    clear ha hx k
    induction ks generalizing xs with
    | nil => cases hd; rfl
    | cons c ks ih =>
      cases hd with
      | cons h t =>
        rw [List.map_cons, ih _ t]
        cases c with
        | inl i => cases h; rfl
        | inr s => cases h; rfl
  subst exs
  refine ⟨a, _, rfl, .inl ⟨SqL.of (off_same a _ ha), fun p hp => ?_⟩⟩
  have dn : D0 p = none := by
    cases q : D0 p with
    | none => rfl
    | some o =>
      have z := A.fixed q
      rw [hp] at z
      cases z
  obtain ⟨A', e⟩ := A.new (.tup (ks.map kV)) hp
  have sm : Same (off H N) (off (upd H p (.tup (ks.map kV))) N) := fun c u hc => by
    by_cases hb2 : N c
    · unfold off at hc; rw [if_pos hb2] at hc; cases hc
    · rw [off_ne hb2] at hc ⊢
      rw [upd_ne (ne_of_none hc hp)]
      exact hc
  have A2 := A'.facts (.tup (.inl (.inl e)) (hd.mono sm))
  refine k p dn N _ ⟨A2.nt, A2.r, fun b u hb => ?_, A2.f⟩
  by_cases hbp : b = p
  · rw [hbp, upd_same] at hb
    cases hb
    rw [hbp]
    exact e
  · rw [upd_ne hbp] at hb
    exact A2.d0 _ _ hb
/-! ### zip of a tuple and a list that stand -/
theorem d_kZipTL {v1 v2 : V} {ds1 ds2 : List PyData} (h1 : InL l v1 (.tuple ds1)) (h2 : InL l v2 (.list ds2)) {Ri : It → Hp → Prop}
    (k : ∀ a b, v1 = .ref a → v2 = .ref b → RD K D0 R l (fun H => Ri (Itzg K (.tup a) (.lst b)) H)) : RD K D0 R l (fun H => kZip K [v1, v2] H Ri) := fun N H A => by
  obtain ⟨a, xs, rfl, ha, hd⟩ := (A.dt h1).tuple
  obtain ⟨b, ys, rfl, hb, he⟩ := (A.dt h2).list
  exact ⟨.tup a, .lst b, xs, ys, rfl, same_sqT off_same ha, SqL.of (off_same _ _ hb), k a b rfl rfl N H A⟩
theorem zipTL_at {N : Addr → Prop} {H : Hp} {a b : Addr} {ds1 ds2 : List PyData} (A : At K D0 R l N H) (h1 : InL l (.ref a) (.tuple ds1)) (h2 : InL l (.ref b) (.list ds2)) :
    ∃ xs ys, (Sc.tup a).has K H xs ∧ (Sc.lst b).has K H ys ∧ DtAll K (off H N) xs ds1 ∧ DtAll K (off H N) ys ds2 := by
  obtain ⟨a', xs, e1, ha, hd⟩ := (A.dt h1).tuple
  obtain ⟨b', ys, e2, hb, he⟩ := (A.dt h2).list
  cases e1
  cases e2
  exact ⟨xs, ys, same_sqT off_same ha, SqL.of (off_same _ _ hb), hd, he⟩
theorem d_forZipTL {g : TG} {tb : TS} {v1 v2 : V} {ds1 ds2 : List PyData} (P : Nat → Res → L2.St → List (V × PyData) → Prop) (hl : ds1.length = ds2.length) (hk : ∀ i R' σ' l', P i R' σ' l' → InL l' v1 (.tuple ds1) ∧ InL l' v2 (.list ds2)) (h0 : P 0 R σ l)
    (hs : ∀ (i : Nat) d1 d2 y R' σ' l', ds1[i]? = some d1 → ds2[i]? = some d2 → P i R' σ' l' → RD K D0 R' ((y, .tuple [d1, d2]) :: l') (fun H => g y σ' H fun σ2 H2 => tb { D with nx := Cont K D0 (P (i + 1)), ct := Cont K D0 (P (i + 1)), bk := D.nx } σ2 H2))
    (hd : ∀ R' σ' l', P ds1.length R' σ' l' → RD K D0 R' l' (fun H => D.nx σ' H)) :
    RD K D0 R l (fun H => kZip K [v1, v2] H fun J H1 => ForK g tb D σ J H1) := by
  obtain ⟨g1, g2⟩ := hk 0 R σ l h0
  refine d_kZipTL g1 g2 fun a b e1 e2 => ?_
  subst e1 e2
  intro N H A
  refine ⟨fun i m σ H => m = ds1.length - i ∧ i ≤ ds1.length ∧ Cont K D0 (P i) σ H, ⟨_, rfl, Nat.zero_le _, R, l, N, h0, A⟩, ?_⟩
  rintro i m σ' H' ⟨rfl, hi, R', l', N', p, A'⟩
  obtain ⟨q1, q2⟩ := hk i R' σ' l' p
  obtain ⟨xs, ys, hx, hy, dx, dy⟩ := zipTL_at A' q1 q2
  by_cases hlt : i < ds1.length
  · refine .inr ⟨⟨xs, ys, hx, hy, by rw [dx.len]; exact hlt, by rw [dy.len]; omega⟩, Cont K D0 (P (i + 1)), fun σ2 H2 p => ⟨ds1.length - (i + 1), by omega, rfl, hlt, p⟩, ?_⟩
    rintro y H2 ⟨Tn, x1, x2, rfl, hT, rfl, c1, c2⟩
    obtain ⟨d1, e1, f1⟩ := dx.get (c1 xs hx)
    obtain ⟨d2, e2, f2⟩ := dy.get (c2 ys hy)
    obtain ⟨A2, e⟩ := ((A'.facts f1).facts (d := d2) f2).new (.tup [x1, x2]) hT
    have f : Dt K (off (upd H' Tn (.tup [x1, x2])) N') (.ref Tn) (.tuple [d1, d2]) := .tup (.inl (.inl e)) (.cons (A2.dt (.mem (List.mem_cons_of_mem _ List.mem_cons_self))) (.cons (A2.dt (.mem List.mem_cons_self)) .nil))
    exact hs i d1 d2 (.ref Tn) R' σ' l' e1 e2 p N' _ ((A2.weak (l' := l') fun p hp => .mem (List.mem_cons_of_mem _ (List.mem_cons_of_mem _ hp))).facts f)
  · have e : i = ds1.length := by omega
    subst e
    exact .inl ⟨⟨xs, ys, hx, hy, by rw [dx.len, dy.len]; omega⟩, hd R' σ' l' p N' H' A'⟩
theorem d_lcZipTL {g : TG} {tt : TT} {te : TE} {vs : List Nat} {v1 v2 : V} {ds1 ds2 : List PyData} (h1 : InL l v1 (.tuple ds1)) (h2 : InL l v2 (.list ds2)) (hl : ds1.length = ds2.length) (Pd : Nat → List PyData → Prop) (h0 : Pd 0 [])
    (hs : ∀ (i : Nat) d1 d2 y Dd es, ds1[i]? = some d1 → ds2[i]? = some d2 → Pd i es → RD K D0 (star (own K Dd es) R) ((y, .tuple [d1, d2]) :: l) (fun H => g y (wipe σ vs) H fun σ2 H2 => kWipe σ2 vs σ H2 fun H2 => tt σ2 H2 fun b H3 =>
      if b = true then te σ2 H3 fun y H4 => kItem Dd y H4 (ContC K D0 Dd (Cont1 K D0 R l (Pd (i + 1)))) else ContC K D0 Dd (Cont1 K D0 R l (Pd (i + 1))) H3))
    (hd : ∀ v es, Pd ds1.length es → RD K D0 R ((v, .list es) :: l) (Q v)) :
    RD K D0 R l (fun H => kZip K [v1, v2] H fun J H1 => LcK g tt te vs σ Q J H1) := by
  refine d_kZipTL h1 h2 fun a b e1 e2 => ?_
  subst e1 e2
  intro N H A Dd hD
  refine ⟨fun i m H => m = ds1.length - i ∧ i ≤ ds1.length ∧ ContC K D0 Dd (Cont1 K D0 R l (Pd i)) H, ⟨_, rfl, Nat.zero_le _, R, l, [], _, ⟨rfl, rfl, h0⟩, A.newOwn hD .nil⟩, ?_⟩
  rintro i m H' ⟨rfl, hi, R', l', es, N', ⟨rfl, rfl, p⟩, A'⟩
  obtain ⟨xs, ys, hx, hy, dx, dy⟩ := zipTL_at A' h1 h2
  by_cases hlt : i < ds1.length
  · refine .inr ⟨⟨xs, ys, hx, hy, by rw [dx.len]; exact hlt, by rw [dy.len]; omega⟩, ContC K D0 Dd (Cont1 K D0 R' l' (Pd (i + 1))), fun H2 p => ⟨ds1.length - (i + 1), by omega, rfl, hlt, p⟩, ?_⟩
    rintro y H2 ⟨Tn, x1, x2, rfl, hT, rfl, c1, c2⟩
    obtain ⟨d1, e1, f1⟩ := dx.get (c1 xs hx)
    obtain ⟨d2, e2, f2⟩ := dy.get (c2 ys hy)
    obtain ⟨A2, e⟩ := ((A'.facts f1).facts (d := d2) f2).new (.tup [x1, x2]) hT
    have f : Dt K (off (upd H' Tn (.tup [x1, x2])) N') (.ref Tn) (.tuple [d1, d2]) := .tup (.inl (.inl e)) (.cons (A2.dt (.mem (List.mem_cons_of_mem _ List.mem_cons_self))) (.cons (A2.dt (.mem List.mem_cons_self)) .nil))
    exact hs i d1 d2 (.ref Tn) Dd es e1 e2 p N' _ ((A2.weak (l' := l') fun p hp => .mem (List.mem_cons_of_mem _ (List.mem_cons_of_mem _ hp))).facts f)
  · have e : i = ds1.length := by omega
    subst e
    obtain ⟨N2, A2⟩ := A'.freeze
    exact .inl ⟨⟨xs, ys, hx, hy, by rw [dx.len, dy.len]; omega⟩, hd (.ref Dd) es p N2 H' A2⟩
/-! ### comprehensions with two fors -/
def Lc2K (wi : TI) (g : TG) (tt : TT) (wi1 : TI) (g1 : TG) (tt1 : TT) (te : TE) (vs vs1 : List Nat) (σ : L2.St) (Q : VK) (J : It) (H1 : Hp) : Prop := ∀ D, H1 D = none → ∃ W : Nat → Nat → Hp → Prop, (∃ m, W 0 m (upd H1 D (.lst []))) ∧ ∀ i m H, W i m H →
  (J.stop i H ∧ Q (.ref D) H) ∨ (J.go i H ∧ ∃ Nx : Hp → Prop, (∀ H', Nx H' → ∃ m', m' < m ∧ W (i + 1) m' H') ∧ ∀ x H', J.yld i H x H' → g x (wipe σ vs) H' fun σ2 H2 => wipe σ2 vs = wipe σ vs ∧ tt σ2 H2 fun b H3 =>
    if b = true then wi1 σ2 H3 fun J1 H4 => ∃ W1 : Nat → Nat → Hp → Prop, (∃ m, W1 0 m H4) ∧ ∀ j k H, W1 j k H →
      (J1.stop j H ∧ Nx H) ∨ (J1.go j H ∧ ∃ Nx1 : Hp → Prop, (∀ H', Nx1 H' → ∃ k', k' < k ∧ W1 (j + 1) k' H') ∧ ∀ x H', J1.yld j H x H' → g1 x (wipe σ2 vs1) H' fun σ3 H5 => wipe σ3 vs1 = wipe σ2 vs1 ∧ tt1 σ3 H5 fun b H6 =>
        if b = true then te σ3 H6 fun y H7 => ∃ acc, H7 D = some (.lst acc) ∧ acc.length < sizeLine ∧ Nx1 (upd H7 D (.lst (acc ++ [y]))) else Nx1 H6)
    else Nx H3)
theorem d_lc2 {wi wi1 : TI} {g g1 : TG} {tt tt1 : TT} {te : TE} {vs vs1 : List Nat} (k : RD K D0 R l (fun H => wi σ H fun J H1 => Lc2K wi g tt wi1 g1 tt1 te vs vs1 σ Q J H1)) : RD K D0 R l (fun H => tLc2 wi g tt wi1 g1 tt1 te vs vs1 σ H Q) := k
/-- the inner walk -/
def LcIn (g1 : TG) (tt1 : TT) (te : TE) (vs1 : List Nat) (σ2 : L2.St) (D : Addr) (Nx : Hp → Prop) (J1 : It) (H4 : Hp) : Prop := ∃ W1 : Nat → Nat → Hp → Prop, (∃ m, W1 0 m H4) ∧ ∀ j k H, W1 j k H →
      (J1.stop j H ∧ Nx H) ∨ (J1.go j H ∧ ∃ Nx1 : Hp → Prop, (∀ H', Nx1 H' → ∃ k', k' < k ∧ W1 (j + 1) k' H') ∧ ∀ x H', J1.yld j H x H' → g1 x (wipe σ2 vs1) H' fun σ3 H5 => kWipe σ3 vs1 σ2 H5 fun H5 => tt1 σ3 H5 fun b H6 =>
        if b = true then te σ3 H6 fun y H7 => kItem D y H7 Nx1 else Nx1 H6)
/-- outer: enumerate of a tuple -/
theorem d_lc2EngT {wi wi1 : TI} {g g1 : TG} {tt tt1 : TT} {te : TE} {vs vs1 : List Nat} {v : V} {ds : List PyData} (hv : InL l v (.tuple ds)) (Pd : Nat → List PyData → Prop) (h0 : Pd 0 [])
    (hs : ∀ (i : Nat) d y Dd es, ds[i]? = some d → Pd i es → RD K D0 (star (own K Dd es) R) ((y, .tuple [.int i, d]) :: l) (fun H => g y (wipe σ vs) H fun σ2 H2 => kWipe σ2 vs σ H2 fun H2 => tt σ2 H2 fun b H3 =>
      if b = true then wi1 σ2 H3 fun J1 H4 => LcIn g1 tt1 te vs1 σ2 Dd (ContC K D0 Dd (Cont1 K D0 R l (Pd (i + 1)))) J1 H4 else ContC K D0 Dd (Cont1 K D0 R l (Pd (i + 1))) H3))
    (hd : ∀ v es, Pd ds.length es → RD K D0 R ((v, .list es) :: l) (Q v)) :
    RD K D0 R l (fun H => kEng K [v] H fun J H1 => Lc2K wi g tt wi1 g1 tt1 te vs vs1 σ Q J H1) := fun N H A => by
  obtain ⟨a, xs, rfl, ha, hd0⟩ := (A.dt hv).tuple
  refine ⟨.tup a, xs, rfl, same_sqT off_same ha, fun Dd hD => ⟨fun i m H => m = ds.length - i ∧ i ≤ ds.length ∧ ContC K D0 Dd (Cont1 K D0 R l (Pd i)) H, ⟨_, rfl, Nat.zero_le _, R, l, [], _, ⟨rfl, rfl, h0⟩, A.newOwn hD .nil⟩, ?_⟩⟩
  rintro i m H' ⟨rfl, hi, R', l', es, N', ⟨rfl, rfl, p⟩, A'⟩
  obtain ⟨a', xs', e, h', d'⟩ := (A'.dt hv).tuple
  cases e
  have hq : (Sc.tup a).has K H' xs' := same_sqT off_same h'
  by_cases hlt : i < ds.length
  · refine .inr ⟨⟨xs', hq, by rw [d'.len]; exact hlt⟩, ContC K D0 Dd (Cont1 K D0 R' l' (Pd (i + 1))), fun H2 p => ⟨ds.length - (i + 1), by omega, rfl, hlt, p⟩, ?_⟩
    rintro y H2 ⟨T, x, rfl, hT, rfl, hy⟩
    obtain ⟨d, e1, e2⟩ := d'.get (hy xs' hq)
    obtain ⟨A2, e⟩ := (A'.facts e2).new (.tup [.int (i : Nat), x]) hT
    have f : Dt K (off (upd H' T (.tup [.int (i : Nat), x])) N') (.ref T) (.tuple [.int (i : Nat), d]) := .tup (.inl (.inl e)) (.cons (.int _) (.cons (A2.dt (.mem List.mem_cons_self)) .nil))
    exact hs i d (.ref T) Dd es e1 p N' _ ((A2.weak (l' := l') fun p hp => .mem (List.mem_cons_of_mem _ hp)).facts f)
  · have e : i = ds.length := by omega
    subst e
    obtain ⟨N2, A2⟩ := A'.freeze
    exact .inl ⟨⟨xs', hq, d'.len.symm⟩, hd (.ref Dd) es p N2 H' A2⟩
/-- inner: a tuple -/
theorem d_lcInT {g1 : TG} {tt1 : TT} {te : TE} {vs1 : List Nat} {σ2 : L2.St} {v : V} {ds : List PyData} {Dd : Addr} {Nx : Hp → Prop} {l0 : List (V × PyData)} {es0 : List PyData} (hv : InL l v (.tuple ds)) (Pd : Nat → List PyData → Prop) (h0 : Pd 0 es0)
    (hs : ∀ (j : Nat) d x es, ds[j]? = some d → Dv x d → Pd j es → RD K D0 (star (own K Dd es) R) ((x, d) :: l) (fun H => g1 x (wipe σ2 vs1) H fun σ3 H5 => kWipe σ3 vs1 σ2 H5 fun H5 => tt1 σ3 H5 fun b H6 =>
      if b = true then te σ3 H6 fun y H7 => kItem Dd y H7 (ContC K D0 Dd (Cont1 K D0 R l (Pd (j + 1)))) else ContC K D0 Dd (Cont1 K D0 R l (Pd (j + 1))) H6))
    (hd : ∀ es, Pd ds.length es → RD K D0 (star (own K Dd es) R) l Nx) :
    RD K D0 (star (own K Dd es0) R) l (fun H => wIt K v H fun J1 H4 => LcIn g1 tt1 te vs1 σ2 Dd Nx J1 H4) := fun N H A => by
  obtain ⟨a, xs, rfl, ha, hd0⟩ := (A.dt hv).tuple
  refine .inr (.inl ⟨a, rfl, ⟨xs, same_sqT off_same ha⟩, fun i m H => m = ds.length - i ∧ i ≤ ds.length ∧ ContC K D0 Dd (Cont1 K D0 R l (Pd i)) H, ⟨_, rfl, Nat.zero_le _, R, l, es0, N, ⟨rfl, rfl, h0⟩, A⟩, ?_⟩)
  rintro i m H' ⟨rfl, hi, R', l', es, N', ⟨rfl, rfl, p⟩, A'⟩
  obtain ⟨a', xs', e, h', d'⟩ := (A'.dt hv).tuple
  cases e
  have hq : SqT K H' a xs' := same_sqT off_same h'
  by_cases hlt : i < ds.length
  · have hx : i < xs'.length := by rw [d'.len]; exact hlt
    refine .inr ⟨⟨xs', xs'[i], hq, by simp [hx]⟩, ContC K D0 Dd (Cont1 K D0 R' l' (Pd (i + 1))), fun H2 p => ⟨ds.length - (i + 1), by omega, rfl, hlt, p⟩, ?_⟩
    rintro x H2 ⟨rfl, hy⟩
    obtain ⟨d, e1, e2⟩ := d'.get (hy xs' hq)
    exact hs i d x es e1 e2.dv p N' _ (A'.facts e2)
  · have e : i = ds.length := by omega
    subst e
    exact .inl ⟨⟨xs', hq, by rw [d'.len]; exact Nat.le_refl _⟩, hd es p N' H' A'⟩
/-! ### facts as a resource -/
def facts (K : PySem.W.Frag) (vs : List V) (ds : List PyData) : Res where
  h := fun N D _ => (∀ b, ¬ N b) ∧ DtAll K D vs ds
  st := fun ⟨e, h⟩ d _ => ⟨e, h.mono d⟩
theorem zip_facts {H : Hp} : ∀ {vs : List V} {ds : List PyData}, DtAll K H vs ds → ∀ p ∈ vs.zip ds, Dt K H p.1 p.2
  | _, _, .nil, p, hp => by cases hp
  | _, _, .cons a b, p, hp => by
    rw [List.zip_cons_cons] at hp
    rcases List.mem_cons.1 hp with rfl | hp
    · exact a
    · exact zip_facts b p hp
theorem RD.openFacts {vs : List V} {ds : List PyData} (k : RD K D0 R (vs.zip ds ++ l) T) : RD K D0 (star (facts K vs ds) R) l T := fun N H A => by
  obtain ⟨N1, N2, e, dj, ⟨e1, hd⟩, h2⟩ := A.r
  have en : ∀ b, N b ↔ N2 b := fun b => (e b).trans ⟨fun z => z.elim (fun q => absurd q (e1 b)) id, .inr⟩
  have eN : N = N2 := funext fun b => propext (en b)
  subst eN
  refine k N H ⟨A.nt, h2, A.d0, fun p hp => ?_⟩
  rcases List.mem_append.1 hp with hp | hp
  · exact zip_facts hd p hp
  · exact A.f p hp
theorem RD.closeFacts {vs : List V} {ds : List PyData} (h : InLs l vs ds) (k : RD K D0 (star (facts K vs ds) R) l T) : RD K D0 R l T := fun N H A =>
  k N H ⟨A.nt, ⟨fun _ => False, N, fun b => ⟨.inr, fun z => z.elim False.elim id⟩, fun _ z _ => z, ⟨fun _ z => z, A.dts h⟩, A.r⟩, A.d0, A.f⟩
theorem loc_of {S : Res} (h : ∀ {N D D' H}, S.h N D H → S.h N D' H) : True := trivial
end
end GL

/-! G35: += of ints and of texts; int(True). -/
namespace GL
open PySem PySem.Spec L2
open PyProof.Rows hiding St
def ipA : TIp := fun x y H Q => ipI (fun i j => i + j) x y H Q ∨ ∃ i j : Str, x = .str i ∧ y = .str j ∧ i.length + j.length ≤ sizeLine ∧ Q (.str (i ++ j)) H
theorem ip_addA {X : Cx} : PIp X .Add ipA := fun pins s σ H x y v u Q I r1 r2 h => h.elim (ip_add pins s σ H x y v u Q I r1 r2) (iop_add_str pins s σ H x y v u Q I r1 r2)
def rInt1 : List V → Hp → VK → Prop := fun xs H Q => (∃ i, xs = [.int i] ∧ Q (.int i) H) ∨ ∃ k : Bool, xs = [.bl k] ∧ Q (.int (if k then 1 else 0)) H
theorem cr_int1 {X : Cx} : CallR X (.type "int") rInt1 := call_int1
section
variable {K : PySem.W.Frag} {D0 : Hp} {R : Res} {l : List (V × PyData)} {Q : VK}
theorem d_ipAS {i j : Str} (h : i.length + j.length ≤ sizeLine) (k : RD K D0 R l (Q (.str (i ++ j)))) : RD K D0 R l (fun H => ipA (.str i) (.str j) H Q) := fun N H A => .inr ⟨i, j, rfl, rfl, h, k N H A⟩
theorem d_ipAI {i j : Int} (k : RD K D0 R l (Q (.int (i + j)))) : RD K D0 R l (fun H => ipA (.int i) (.int j) H Q) := fun N H A => .inl ⟨i, j, rfl, rfl, k N H A⟩
theorem d_intB {b : Bool} (k : RD K D0 R l (Q (.int (if b then 1 else 0)))) : RD K D0 R l (fun H => rInt1 [.bl b] H Q) := fun N H A => .inr ⟨b, rfl, k N H A⟩
end
end GL

/-! G36: zip over three lists, tuples or texts. -/
namespace GL
open PySem PySem.Spec L2
open PyProof.Rows hiding St
open SX (S)
/-- zip(c1, c2, c3): new triples, as many as the shortest has -/
def Itz3 (K : PySem.W.Frag) (c1 c2 c3 : Sc) : It :=
  ⟨fun i H => ∃ xs ys zs : List V, c1.has K H xs ∧ c2.has K H ys ∧ c3.has K H zs ∧ i < xs.length ∧ i < ys.length ∧ i < zs.length,
    fun i H v H' => ∃ T x y z, v = .ref T ∧ H T = none ∧ H' = upd H T (.tup [x, y, z]) ∧ (∀ xs, c1.has K H xs → xs[i]? = some x) ∧ (∀ ys, c2.has K H ys → ys[i]? = some y) ∧ ∀ zs, c3.has K H zs → zs[i]? = some z,
    fun i H => ∃ xs ys zs : List V, c1.has K H xs ∧ c2.has K H ys ∧ c3.has K H zs ∧ i = min (min xs.length ys.length) zs.length⟩
abbrev zfp3 (n : Nat) : List Addr := [n + 5, n + 3, n + 4, n, n + 1, n + 2]
def zst3 (c1 c2 c3 : Sc) (n i : Nat) (h : Heap) : Prop := IsZip h (n + 5) (n + 3) (n + 4) .none ∧ IsTupOf3 h (n + 3) (.ref n) (.ref (n + 1)) (.ref (n + 2)) ∧ (∃ x y z, IsTupOf3 h (n + 4) x y z) ∧ c1.cell n i h ∧ c2.cell (n + 1) i h ∧ c3.cell (n + 2) i h
theorem zsep3 {X : Cx} {A : Around} {c1 c2 c3 : Sc} {n i : Nat} {xs ys zs : List V} {h : Heap} {f1 f2 f3 : List Addr} {P1 P2 P3 : Nat → Value → Prop} {T1 T2 T3 : Nat → Heap → Prop} (D1 : Drawn1 X A c1 n n i xs h f1 P1 T1) (D2 : Drawn1 X A c2 (n + 1) n i ys h f2 P2 T2) (D3 : Drawn1 X A c3 (n + 2) n i zs h f3 P3 T3) :
    ZipSep3 (n + 5) (n + 3) (n + 4) n (n + 1) (n + 2) f1 f2 f3 := by
  have ne : ∀ a b : Nat, a ≠ b → (show Addr from a) ≠ (show Addr from b) := fun _ _ h => h
  have o1 : ∀ b : Nat, (b ≠ n ∧ n ≤ b) → (show Addr from b) ∉ f1 := fun b hb q => by
    rcases D1.lt _ q with e | e
    · exact hb.1 e
    · exact absurd (show b < n from e) (by omega)
  have o2 : ∀ b : Nat, (b ≠ n + 1 ∧ n ≤ b) → (show Addr from b) ∉ f2 := fun b hb q => by
    rcases D2.lt _ q with e | e
    · exact hb.1 e
    · exact absurd (show b < n from e) (by omega)
  have o3 : ∀ b : Nat, (b ≠ n + 2 ∧ n ≤ b) → (show Addr from b) ∉ f3 := fun b hb q => by
    rcases D3.lt _ q with e | e
    · exact hb.1 e
    · exact absurd (show b < n from e) (by omega)
  constructor
  all_goals first
    | exact D1.mem
    | exact D2.mem
    | exact D3.mem
    | exact ne _ _ (by omega)
    | exact o1 _ (by omega)
    | exact o2 _ (by omega)
    | exact o3 _ (by omega)
theorem turn_zip3 {P : Program} {w : World} {K : PySem.W.Frag} {elts : List Expr} {kk : Nat} {tpos : Pos} {c1 c2 c3 : Sc} {n : Nat} (b1 : c1.below n) (b2 : c2.below n) (b3 : c3.below n) :
    Turn P w K (.Tuple elts kk tpos) (Itz3 K c1 c2 c3) (zfp3 n) (n + 5) (zst3 c1 c2 c3 n) where
  mem := List.mem_cons_self
  obj := fun i h st c hc => by
    obtain ⟨hz, hTI, ⟨x, y, z, hTO⟩, h1, h2, h3⟩ := st
    have q : c = n + 5 ∨ c = n + 3 ∨ c = n + 4 ∨ c = n ∨ c = n + 1 ∨ c = n + 2 := by simpa using hc
    rcases q with rfl | rfl | rfl | rfl | rfl | rfl
    · exact ⟨_, hz, nofun⟩
    · exact ⟨_, hTI, nofun⟩
    · exact ⟨_, hTO, nofun⟩
    · exact c1.live h1
    · exact c2.live h2
    · exact c3.live h3
  keep := fun i h h' st k => by
    obtain ⟨hz, hTI, ⟨x, y, z, hTO⟩, h1, h2, h3⟩ := st
    refine ⟨k _ (by simp) _ hz, k _ (by simp) _ hTI, ⟨x, y, z, k _ (by simp) _ hTO⟩, c1.stay h1 fun o e => k _ (by simp) o e, c2.stay h2 fun o e => k _ (by simp) o e, c3.stay h3 fun o e => k _ (by simp) o e⟩
  item := by
    intro X hP hw hK hc i pins s σ H E I hf st hg
    subst hP hw hK
    have lv : ∀ c, c ∈ zfp3 n → ∃ o, s.heap.get? c = some o := fun c hcm => (by
      obtain ⟨hz, hTI, ⟨x, y, z, hTO⟩, h1, h2, h3⟩ := st
      have q : c = n + 5 ∨ c = n + 3 ∨ c = n + 4 ∨ c = n ∨ c = n + 1 ∨ c = n + 2 := by simpa using hcm
      rcases q with rfl | rfl | rfl | rfl | rfl | rfl
      · exact ⟨_, hz⟩
      · exact ⟨_, hTI⟩
      · exact ⟨_, hTO⟩
      · obtain ⟨o, e, _⟩ := c1.live h1; exact ⟨o, e⟩
      · obtain ⟨o, e, _⟩ := c2.live h2; exact ⟨o, e⟩
      · obtain ⟨o, e, _⟩ := c3.live h3; exact ⟨o, e⟩)
    obtain ⟨hz, hTI, ⟨a0, b0, d0, hTO⟩, h1, h2, h3⟩ := st
    obtain ⟨xs, ys, zs, hx, hy, hzs, l1, l2, l3⟩ := hg
    have hh : X.A.in1.handled = none := I.ok.hd hc
    obtain ⟨f1, P1, T1, D1⟩ := c1.draws (A := X.A.in1) hh I hx b1 (Nat.le_refl _) h1
    obtain ⟨f2, P2, T2, D2⟩ := c2.draws (A := X.A.in1) hh I hy b2 (Nat.le_succ n) h2
    obtain ⟨f3, P3, T3, D3⟩ := c3.draws (A := X.A.in1) hh I hzs b3 (Nat.le_add_right n 2) h3
    have W := GoesN.zip3 (elts := elts) (x1 := kk) (pos := tpos) (zsep3 D1 D2 D3) D1.d D2.d D3.d
    refine W.goes i s _ E (Nat.lt_min.2 ⟨Nat.lt_min.2 ⟨l1, l2⟩, l3⟩) ⟨hz, hTI, ⟨_, _, _, hTO⟩, D1.st, D2.st, D3.st⟩ fun v h' tk hY st' hk _ => ?_
    obtain ⟨T, a, b, d, rfl, hT, p1, p2, p3, hTup⟩ := hY
    obtain ⟨x, ex, rx⟩ := D1.rel _ _ p1
    obtain ⟨y, ey, ry⟩ := D2.rel _ _ p2
    obtain ⟨z, ez, rz⟩ := D3.rel _ _ p3
    have new : ObjOk X.prog X.w (upd H T (.tup [x, y, z])) h' T (.tup [x, y, z]) := ⟨by show 3 ≤ sizeLine; decide, [a, b, d], .cons rx (.cons ry (.cons rz .nil)), hTup⟩
    have I1 : Inv X pins σ (upd H T (.tup [x, y, z])) { s with heap := h', toks := tk } :=
      I.turnedNew (t' := tk) (ch := [n + 5, n + 4, n, n + 1, n + 2]) hk (fun c hcm => hf c (by
        have q : c = n + 5 ∨ c = n + 4 ∨ c = n ∨ c = n + 1 ∨ c = n + 2 := by simpa using hcm
        rcases q with rfl | rfl | rfl | rfl | rfl <;> simp)) hT new
    refine ⟨.ref T, _, I1, rfl, ⟨T, x, y, z, rfl, I.hok.fresh hT, rfl, fun us hz' => by rw [c1.inj I hz' hx]; exact ex, fun us hz' => by rw [c2.inj I hz' hy]; exact ey, fun us hz' => by rw [c3.inj I hz' hzs]; exact ez⟩, ?_, fun c hcm => ?_⟩
    · obtain ⟨g1, g2, g3, g4, g5, g6⟩ := st'
      exact ⟨g1, g2, g3, D1.cell _ _ g4, D2.cell _ _ g5, D3.cell _ _ g6⟩
    · obtain ⟨o, e⟩ := lv c hcm
      rw [upd_ne (Nat.ne_of_lt (Nat.lt_of_lt_of_le (Heap.lt_size e) hT))]
      exact (hf c hcm).1
  done := by
    intro X hP hw hK hc i pins s σ H E I hf st hg
    subst hP hw hK
    obtain ⟨hz, hTI, ⟨a0, b0, d0, hTO⟩, h1, h2, h3⟩ := st
    obtain ⟨xs, ys, zs, hx, hy, hzs, rfl⟩ := hg
    have hh : X.A.in1.handled = none := I.ok.hd hc
    obtain ⟨f1, P1, T1, D1⟩ := c1.draws (A := X.A.in1) hh I hx b1 (Nat.le_refl _) h1
    obtain ⟨f2, P2, T2, D2⟩ := c2.draws (A := X.A.in1) hh I hy b2 (Nat.le_succ n) h2
    obtain ⟨f3, P3, T3, D3⟩ := c3.draws (A := X.A.in1) hh I hzs b3 (Nat.le_add_right n 2) h3
    have W := GoesN.zip3 (elts := elts) (x1 := kk) (pos := tpos) (zsep3 D1 D2 D3) D1.d D2.d D3.d
    refine W.stops s _ E ⟨hz, hTI, ⟨_, _, _, hTO⟩, D1.st, D2.st, D3.st⟩ fun h' tk hk _ => ?_
    exact I.turnedL (t' := tk) (ch := [n + 5, n + 4, n, n + 1, n + 2]) hk fun c hcm => hf c (by
      have q : c = n + 5 ∨ c = n + 4 ∨ c = n ∨ c = n + 1 ∨ c = n + 2 := by simpa using hcm
      rcases q with rfl | rfl | rfl | rfl | rfl <;> simp)
  self := fun A i s Q E st h => wpAny_pyIter_zip st.1 h
theorem valsT3 {x y z : V} {us : List Value} (h : Vals [x, y, z] us) : ∃ u v w, us = [u, v, w] ∧ RelV x u ∧ RelV y v ∧ RelV z w := by
  cases h with
  | cons a t => cases t with
    | cons b t => cases t with
      | cons c t =>
        cases t
        exact ⟨_, _, _, rfl, a, b, c⟩
def gZip3 (K : PySem.W.Frag) (ta : TA) : TI := fun σ H R => ta σ H fun vs H1 => ∃ (c1 c2 c3 : Sc) (xs ys zs : List V), vs = [c1.v, c2.v, c3.v] ∧ c1.has K H1 xs ∧ c2.has K H1 ys ∧ c3.has K H1 zs ∧ R (Itz3 K c1 c2 c3) H1
theorem pi_gzip3 {X : Cx} {e e2 e3 : Expr} {ta : TA} {p pos tpos : Pos} {elts : List Expr} {kk : Nat} (hg : Gl X "zip") (hm : X.mg "zip" = none) (ha : PA X [e, e2, e3] ta)
    (hs : starEach [e, e2, e3] X.env = (false, eval e X.env) :: starEach [e2, e3] X.env := by rfl) (hpl : (backTo pos (starEach [e2, e3] X.env)).any (·.1) = false := by rfl) :
    PI X (.Tuple elts kk tpos) (.Call (.Name "zip" p) [e, e2, e3] [] pos) (gZip3 X.K ta) := by
  constructor
  intro pins s σ H R I h
  refine Call_ ?_
  refine ld_blt I hg hm PyProof.Rows.boot_zip ?_
  refine PyProof.Rows.callWith_type1 ?_ hs hpl
  apply thn (ha.run pos pins s σ H _ I h)
  rintro us s1 ⟨vs, H1, I1, r1, c1, c2, c3, xs, ys, zs, rfl, hx, hy, hzs, q⟩
  obtain ⟨u1, u2, u3, rfl, r1, r2, r3⟩ := valsT3 r1
  obtain ⟨o1, Hd1, B1, q1, b1, k1⟩ := c1.begins I1 hx r1
  obtain ⟨o2, Hd2, B2, q2, b2, k2⟩ := c2.begins I1 hy r2
  obtain ⟨o3, Hd3, B3, q3, b3, k3⟩ := c3.begins I1 hzs r3
  apply zip_begins3 B1 B2 B3 q1 q2 q3
  intro h' hz hTI hTO e1 e2 e3 hsz hk
  apply wpAny_pyIter_zip hz
  refine ⟨_, zfp3 s1.heap.objs.size, zst3 c1 c2 c3 s1.heap.objs.size, Itz3 X.K c1 c2 c3, H1, rfl, I1.kept (t' := s1.toks) hk, turn_zip3 b1 b2 b3, ⟨hz, hTI, ⟨_, _, _, hTO⟩, k1 _ _ e1, k2 _ _ e2, k3 _ _ e3⟩, fun c hcm => ?_, q⟩
  have hle : s1.heap.objs.size ≤ c := by
    have q : c = s1.heap.objs.size + 5 ∨ c = s1.heap.objs.size + 3 ∨ c = s1.heap.objs.size + 4 ∨ c = s1.heap.objs.size ∨ c = s1.heap.objs.size + 1 ∨ c = s1.heap.objs.size + 2 := by simpa using hcm
    rcases q with rfl | rfl | rfl | rfl | rfl | rfl
    · exact Nat.le_add_right _ _
    · exact Nat.le_add_right _ _
    · exact Nat.le_add_right _ _
    · exact Nat.le_refl _
    · exact Nat.le_add_right _ _
    · exact Nat.le_add_right _ _
  exact I1.fpOk hle (I1.hok.fresh hle)
end GL

/-! G37: comprehensions over tuples of any values and zips of them, known by name. -/
namespace GL
open PySem PySem.Spec L2
open PyProof.Rows hiding St
section
variable {K : PySem.W.Frag} {D0 : Hp} {R : Res} {l : List (V × PyData)} {σ : L2.St} {D : Ends} {Q : VK} {L : List (Addr × HO)} {T : Hp → Prop}
theorem At.newTD {N : Addr → Prop} {H : Hp} (A : At K D0 R l N H) {q : Addr} {xs : List V} (hq : H q = none) : D0 q = none ∧ At K (upd D0 q (.tup xs)) R l N (upd H q (.tup xs)) := by
  have dq : D0 q = none := by
    cases e : D0 q with
    | none => rfl
    | some u => exact absurd (A.fixed e) (by rw [hq]; exact fun z => by cases z)
  obtain ⟨A', e⟩ := A.new (.tup xs) hq
  exact ⟨dq, A'.nt, A'.r, fun b u h => by
    by_cases z : b = q
    · subst z
      rw [upd_same] at h
      cases h
      exact e
    · rw [upd_ne z] at h
      exact A'.d0 b u h, A'.f⟩
/-- a source whose items are known, whatever else is owned -/
def SrcOk (K : PySem.W.Frag) (D0 : Hp) (R : Res) (l : List (V × PyData)) (c : Sc) (xs : List V) : Prop := ∀ (S : Res) (N : Addr → Prop) (H : Hp), At K D0 (star S R) l N H → c.has K H xs
theorem srcTxt {z : Str} : SrcOk K D0 R l (.txt z) (ones z) := fun _ _ _ _ => rfl
theorem srcTup {t : Addr} {xs : List V} (h : D0 t = some (.tup xs)) : SrcOk K D0 R l (.tup t) xs := fun _ _ _ A => .inl (.inl (A.fixed h))
theorem srcLst {a : Addr} {xs : List V} (h : (a, .lst xs) ∈ L) : SrcOk K D0 (star (objs L) R) l (.lst a) xs := fun _ _ _ A => by
  obtain ⟨_, _, _, _, _, ⟨_, _, _, _, ⟨_, hh⟩, _⟩⟩ := A.r
  exact SqL.of (hh _ h)
theorem At.emp0 {N : Addr → Prop} {H : Hp} (A : At K D0 R l N H) : At K D0 (star (GL.objs []) R) l N H := A.objs0
theorem d_gTup3D {q : Addr} {v1 v2 v3 : V} {g : TGs} {Qn : L2.St → Hp → Prop} (hq : D0 q = some (.tup [v1, v2, v3])) (k : RD K D0 R l (g [v1, v2, v3] σ · Qn)) : RD K D0 R l (fun H => gTup K 3 g (.ref q) σ H Qn) := fun N H A =>
  ⟨q, [v1, v2, v3], rfl, .inl (.inl (A.fixed hq)), rfl, k N H A⟩
def kZip3 (K : PySem.W.Frag) (vs : List V) (H1 : Hp) (Ri : It → Hp → Prop) : Prop := ∃ (c1 c2 c3 : Sc) (xs ys zs : List V), vs = [c1.v, c2.v, c3.v] ∧ c1.has K H1 xs ∧ c2.has K H1 ys ∧ c3.has K H1 zs ∧ Ri (Itz3 K c1 c2 c3) H1
theorem d_gZip3 {ta : TA} {Ri : It → Hp → Prop} (k : RD K D0 R l (fun H => ta σ H fun vs H1 => kZip3 K vs H1 Ri)) : RD K D0 R l (fun H => gZip3 K ta σ H Ri) := k
theorem d_lcZip3V {g : TG} {tt : TT} {te : TE} {vs : List Nat} {c1 c2 c3 : Sc} {xs ys zs : List V} (s1 : SrcOk K D0 R l c1 xs) (s2 : SrcOk K D0 R l c2 ys) (s3 : SrcOk K D0 R l c3 zs) (e2 : ys.length = xs.length) (e3 : zs.length = xs.length) (Pd : Nat → List PyData → Prop) (h0 : Pd 0 [])
    (hs : ∀ (i : Nat) x y z q Dd es, xs[i]? = some x → ys[i]? = some y → zs[i]? = some z → D0 q = none → Pd i es → RD K (upd D0 q (.tup [x, y, z])) (star (own K Dd es) R) l (fun H => g (.ref q) (wipe σ vs) H fun σ2 H2 => kWipe σ2 vs σ H2 fun H2 => tt σ2 H2 fun b H3 =>
      if b = true then te σ2 H3 fun y H4 => kItem Dd y H4 (ContC K D0 Dd (Cont1 K D0 R l (Pd (i + 1)))) else ContC K D0 Dd (Cont1 K D0 R l (Pd (i + 1))) H3))
    (hd : ∀ v es, Pd xs.length es → RD K D0 R ((v, .list es) :: l) (Q v)) :
    RD K D0 R l (fun H => kZip3 K [c1.v, c2.v, c3.v] H fun J H1 => LcK g tt te vs σ Q J H1) := fun N H A => by
  refine ⟨c1, c2, c3, xs, ys, zs, rfl, s1 _ _ _ A.objs0, s2 _ _ _ A.objs0, s3 _ _ _ A.objs0, fun Dd hD => ⟨fun i m H => m = xs.length - i ∧ i ≤ xs.length ∧ ContC K D0 Dd (Cont1 K D0 R l (Pd i)) H, ⟨_, rfl, Nat.zero_le _, R, l, [], _, ⟨rfl, rfl, h0⟩, A.newOwn hD .nil⟩, ?_⟩⟩
  rintro i m H' ⟨rfl, hi, R', l', es, N', ⟨rfl, rfl, p⟩, A'⟩
  have g1 := s1 _ _ _ A'
  have g2 := s2 _ _ _ A'
  have g3 := s3 _ _ _ A'
  by_cases hlt : i < xs.length
  · refine .inr ⟨⟨xs, ys, zs, g1, g2, g3, hlt, by omega, by omega⟩, ContC K D0 Dd (Cont1 K D0 R' l' (Pd (i + 1))), fun H2 p => ⟨xs.length - (i + 1), by omega, rfl, hlt, p⟩, ?_⟩
    rintro v H2 ⟨q, x, y, z, rfl, hq, rfl, hx, hy, hz⟩
    obtain ⟨dq, A2⟩ := A'.newTD (xs := [x, y, z]) hq
    exact hs i x y z q Dd es (hx _ g1) (hy _ g2) (hz _ g3) dq p N' _ A2
  · have e : i = xs.length := by omega
    subst e
    obtain ⟨N2, A2⟩ := A'.freeze
    exact .inl ⟨⟨xs, ys, zs, g1, g2, g3, by rw [e2, e3]; omega⟩, hd (.ref Dd) es p N2 H' A2⟩
theorem d_lcZip2V {g : TG} {tt : TT} {te : TE} {vs : List Nat} {c1 c2 : Sc} {xs ys : List V} (s1 : SrcOk K D0 R l c1 xs) (s2 : SrcOk K D0 R l c2 ys) (e2 : ys.length = xs.length) (Pd : Nat → List PyData → Prop) (h0 : Pd 0 [])
    (hs : ∀ (i : Nat) x y q Dd es, xs[i]? = some x → ys[i]? = some y → D0 q = none → Pd i es → RD K (upd D0 q (.tup [x, y])) (star (own K Dd es) R) l (fun H => g (.ref q) (wipe σ vs) H fun σ2 H2 => kWipe σ2 vs σ H2 fun H2 => tt σ2 H2 fun b H3 =>
      if b = true then te σ2 H3 fun y H4 => kItem Dd y H4 (ContC K D0 Dd (Cont1 K D0 R l (Pd (i + 1)))) else ContC K D0 Dd (Cont1 K D0 R l (Pd (i + 1))) H3))
    (hd : ∀ v es, Pd xs.length es → RD K D0 R ((v, .list es) :: l) (Q v)) :
    RD K D0 R l (fun H => kZip K [c1.v, c2.v] H fun J H1 => LcK g tt te vs σ Q J H1) := fun N H A => by
  refine ⟨c1, c2, xs, ys, rfl, s1 _ _ _ A.objs0, s2 _ _ _ A.objs0, fun Dd hD => ⟨fun i m H => m = xs.length - i ∧ i ≤ xs.length ∧ ContC K D0 Dd (Cont1 K D0 R l (Pd i)) H, ⟨_, rfl, Nat.zero_le _, R, l, [], _, ⟨rfl, rfl, h0⟩, A.newOwn hD .nil⟩, ?_⟩⟩
  rintro i m H' ⟨rfl, hi, R', l', es, N', ⟨rfl, rfl, p⟩, A'⟩
  have g1 := s1 _ _ _ A'
  have g2 := s2 _ _ _ A'
  by_cases hlt : i < xs.length
  · refine .inr ⟨⟨xs, ys, g1, g2, hlt, by omega⟩, ContC K D0 Dd (Cont1 K D0 R' l' (Pd (i + 1))), fun H2 p => ⟨xs.length - (i + 1), by omega, rfl, hlt, p⟩, ?_⟩
    rintro v H2 ⟨q, x, y, rfl, hq, rfl, hx, hy⟩
    obtain ⟨dq, A2⟩ := A'.newTD (xs := [x, y]) hq
    exact hs i x y q Dd es (hx _ g1) (hy _ g2) dq p N' _ A2
  · have e : i = xs.length := by omega
    subst e
    obtain ⟨N2, A2⟩ := A'.freeze
    exact .inl ⟨⟨xs, ys, g1, g2, by rw [e2]; omega⟩, hd (.ref Dd) es p N2 H' A2⟩
/-- [.. for x in (v1, .., vn)], a tuple of any values known by name -/
theorem d_lcTV {g : TG} {tt : TT} {te : TE} {vs : List Nat} {t : Addr} {xs : List V} (ht : D0 t = some (.tup xs)) (Pd : Nat → List PyData → Prop) (h0 : Pd 0 [])
    (hs : ∀ (i : Nat) x Dd es, xs[i]? = some x → Pd i es → RD K D0 (star (own K Dd es) R) l (fun H => g x (wipe σ vs) H fun σ2 H2 => kWipe σ2 vs σ H2 fun H2 => tt σ2 H2 fun b H3 =>
      if b = true then te σ2 H3 fun y H4 => kItem Dd y H4 (ContC K D0 Dd (Cont1 K D0 R l (Pd (i + 1)))) else ContC K D0 Dd (Cont1 K D0 R l (Pd (i + 1))) H3))
    (hd : ∀ v es, Pd xs.length es → RD K D0 R ((v, .list es) :: l) (Q v)) :
    RD K D0 R l (fun H => wIt K (.ref t) H fun J H1 => LcK g tt te vs σ Q J H1) := fun N H A => by
  refine .inr (.inl ⟨t, rfl, ⟨xs, .inl (.inl (A.fixed ht))⟩, fun Dd hD => ⟨fun i m H => m = xs.length - i ∧ i ≤ xs.length ∧ ContC K D0 Dd (Cont1 K D0 R l (Pd i)) H, ⟨_, rfl, Nat.zero_le _, R, l, [], _, ⟨rfl, rfl, h0⟩, A.newOwn hD .nil⟩, ?_⟩⟩)
  rintro i m H' ⟨rfl, hi, R', l', es, N', ⟨rfl, rfl, p⟩, A'⟩
  have hq : SqT K H' t xs := .inl (.inl (A'.fixed ht))
  by_cases hlt : i < xs.length
  · refine .inr ⟨⟨xs, xs[i], hq, by simp [hlt]⟩, ContC K D0 Dd (Cont1 K D0 R' l' (Pd (i + 1))), fun H2 p => ⟨xs.length - (i + 1), by omega, rfl, hlt, p⟩, ?_⟩
    rintro x H2 ⟨rfl, hy⟩
    exact hs i x Dd es (hy xs hq) p N' _ A'
  · have e : i = xs.length := by omega
    subst e
    obtain ⟨N2, A2⟩ := A'.freeze
    exact .inl ⟨⟨xs, hq, Nat.le_refl _⟩, hd (.ref Dd) es p N2 H' A2⟩
end
end GL

/-! G25: sets of tuples of ints and texts. -/
namespace GL
open PySem PySem.Spec L2
open PyProof.Rows hiding St ItemsAre
/-- a member: where its tuple stands, and its items -/
abbrev Mem := Addr × List Key
abbrev kh (P : Program) (w : World) (k : List Key) : Int := tupleKeyHash (mixKind P w) k
abbrev kt (P : Program) (w : World) (h : Heap) (k : List Key) (a : Addr) : Prop := IsTupleKey (mixKind P w) h k a
section
variable {P : Program} {w : World} {A : Around} {E : Value → Shared → Prop} {s : Shared}
theorem leaf_of {k : List Key} {vs : List Value} (h : PySem.ItemsAre (mixKind P w) k vs) : ∀ v ∈ vs, (∃ i t, v = Value.int i t) ∨ ∃ x t, v = Value.str x t := by
  induction h with
  | nil => exact fun v z => absurd z List.not_mem_nil
  | cons h1 _ ih =>
    intro v hv
    rcases List.mem_cons.1 hv with rfl | hv
    · rcases keyIs_shape h1 with ⟨i, t, _, e⟩ | ⟨x, t, _, e⟩
      · exact .inl ⟨i, t, e⟩
      · exact .inr ⟨x, t, e⟩
    · exact ih v hv
theorem leaf_class {n : Nat} {v : Value} (h : (∃ i t, v = Value.int i t) ∨ ∃ x t, v = Value.str x t) : ofAClassStatement n v = pure false := by
  rcases h with ⟨i, t, rfl⟩ | ⟨x, t, rfl⟩ <;> cases n <;> rfl
theorem leaf_hash {n : Nat} {v : Value} (h : (∃ i t, v = Value.int i t) ∨ ∃ x t, v = Value.str x t) : hashByValue n v = pure true ∨ hashByValue n v = pure false := by
  rcases h with ⟨i, t, rfl⟩ | ⟨x, t, rfl⟩
  · exact .inl (by cases n <;> rfl)
  · exact .inr (by cases n <;> simp [hashByValue])
/-- a loop over leaves that never stops it -/
theorem quiet_loop {β : Type} {vs : List Value} {f : Value → β → Sem (ForInStep β)} {b : β} {Q : β → Shared → Prop} (good : ∀ v ∈ vs, (∃ i t, v = Value.int i t) ∨ ∃ x t, v = Value.str x t)
    (step : ∀ v, ((∃ i t, v = Value.int i t) ∨ ∃ x t, v = Value.str x t) → ∀ b' : β, b' = b → f v b' = pure (.yield b)) (h : Q b s) : wpAny (model P w) A (forIn vs b f) Q E s := by
  refine wpAny_forIn_list _ (fun rest b' s' => b' = b ∧ s' = s ∧ ∀ v ∈ rest, (∃ i t, v = Value.int i t) ∨ ∃ x t, v = Value.str x t) _ ?_ ?_ _ _ ⟨rfl, rfl, good⟩
  · rintro v rest b' s' ⟨eb, rfl, all⟩
    rw [step v (all v List.mem_cons_self) b' eb]
    exact wpAny_pure ⟨rfl, rfl, fun u hu => all u (List.mem_cons_of_mem _ hu)⟩
  · rintro b' s' ⟨rfl, rfl, _⟩
    exact h
theorem kt_class {k : List Key} {b : Addr} {Q : Bool → Shared → Prop} (hk : kt P w s.heap k b) (h : Q false s) : wpAny (model P w) A (ofAClassStatement 8 (.ref b)) Q E s := by
  have ty := hk.typeIs
  obtain ⟨o, items, n, ho, _, hd, hi⟩ := hk
  unfold ofAClassStatement
  apply wpAny_bind
  apply wpAny_typeOf ty
  dsimp only
  have e : (("tuple" : String) == "tuple") = true := by decide
  simp only [e, if_true, Bool.not_true, Bool.false_eq_true, if_false]
  try (apply wpAny_bind; apply wpAny_pure)
  try simp only [Bool.not_true, Bool.false_eq_true, if_false]
  change wpAny _ _ (seqItems? (.ref b) >>= _) _ _ s
  apply wpAny_bind
  apply wpAny_seqItems ho hd
  dsimp only
  apply wpAny_bind
  change wpAny _ _ (forIn items _ _) _ _ s
  rw [← Array.forIn_toList]
  refine quiet_loop (leaf_of hi) (fun v hv b' e => ?_) ?_
  · subst e
    rw [leaf_class hv]
    rfl
  · exact wpAny_pure h
theorem kt_hash {k : List Key} {b : Addr} {Q : Bool → Shared → Prop} (hk : kt P w s.heap k b) (h : ∀ v, Q v s) : wpAny (model P w) A (hashByValue 8 (.ref b)) Q E s := by
  have ty := hk.typeIs
  obtain ⟨o, items, n, ho, _, hd, hi⟩ := hk
  unfold hashByValue
  apply wpAny_bind
  apply wpAny_specialOf ty F.slot_tuple_hash.lookup
  change wpAny _ _ (seqItems? (.ref b) >>= _) _ _ s
  apply wpAny_bind
  apply wpAny_seqItems ho hd
  apply wpAny_bind
  change wpAny _ _ (forIn items _ _) _ _ s
  rw [← Array.forIn_toList]
  refine wpAny_forIn_list _ (fun rest r t => r.1 = none ∧ t = s ∧ ∀ v ∈ rest, (∃ i t, v = Value.int i t) ∨ ∃ x t, v = Value.str x t) _ ?_ ?_ _ _ ⟨rfl, rfl, leaf_of hi⟩
  · rintro v rest r t ⟨hr, rfl, all⟩
    rcases leaf_hash (n := 7) (all v List.mem_cons_self) with e | e
    · rw [e]
      apply wpAny_bind
      apply wpAny_pure
      simp only [Bool.not_true, Bool.false_eq_true, if_false]
      exact wpAny_pure ⟨rfl, rfl, fun u hu => all u (List.mem_cons_of_mem _ hu)⟩
    · rw [e]
      apply wpAny_bind
      apply wpAny_pure
      simp only [Bool.not_false, if_true]
      exact wpAny_pure (wpAny_pure (h false))
  · rintro ⟨r1, r2⟩ t ⟨hr, rfl, _⟩
    obtain rfl : r1 = none := hr
    exact wpAny_pure (h true)
theorem kt_seen {k : List Key} {b : Addr} {Q : Bool → Shared → Prop} (hk : kt P w s.heap k b) {ys : List Value} (hy : ∀ y ∈ ys, ∃ k' c, y = Value.ref c ∧ kt P w s.heap k' c) (h : Q false s) : wpAny (model P w) A (searchCouldBeSeen (.ref b) ys) Q E s := by
  unfold searchCouldBeSeen
  apply wpAny_bind
  refine wpAny_forIn_list _ (fun rest r t => r.1 = none ∧ t = s ∧ ∀ y ∈ rest, ∃ k' c, y = Value.ref c ∧ kt P w s.heap k' c) _ ?_ ?_ _ _ ⟨rfl, rfl, hy⟩
  · rintro v rest r t ⟨hr, rfl, all⟩
    obtain ⟨k', c, rfl, hc⟩ := all v List.mem_cons_self
    have more : ∀ y ∈ rest, ∃ k' c, y = Value.ref c ∧ kt P w t.heap k' c := fun u hu => all u (List.mem_cons_of_mem _ hu)
    dsimp only
    rcases Bool.eq_false_or_eq_true (b == c || (carriedByValue (.ref b) && carriedByValue (.ref c))) with hv | hv
    · exact wp_if_pos hv (wpAny_pure ⟨rfl, rfl, more⟩)
    · refine wp_if_neg (by rw [hv]; exact Bool.false_ne_true) ?_
      apply wpAny_bind
      apply wpAny_eqIsQuiet_tuple hk
      simp only [Bool.not_true, Bool.false_eq_true, if_false]
      apply wpAny_bind
      apply wpAny_eqIsQuiet_tuple hc
      simp only [Bool.not_true, Bool.false_eq_true, if_false]
      apply wpAny_bind
      apply kt_class hk
      simp only [Bool.false_eq_true, if_false]
      apply wpAny_bind
      apply kt_class hc
      simp only [Bool.false_eq_true, if_false]
      exact wpAny_pure ⟨rfl, rfl, more⟩
  · rintro ⟨r1, r2⟩ t ⟨hr, rfl, _⟩
    obtain rfl : r1 = none := hr
    exact wpAny_pure h
/-! ### the set as it stands -/
def memRow (P : Program) (w : World) (p : Mem) : Int × Value := (kh P w p.2, .ref p.1)
/-- the rows, the table over them, and what they say -/
structure Tab (P : Program) (w : World) (L : List Mem) (es : Array (Int × Value)) (t : SetTable) : Prop where
  rows : es.toList = L.map (memRow P w)
  tab : TabOk t (L.map fun p => kh P w p.2)
  nd : (L.map (·.2)).Nodup
  led : w.params.followText "set-order" = true ∨ t.led = true
  room : L.length * 5 < t.mask * 3
  few : L.length < 64
structure SetAtM (P : Program) (w : World) (h : Heap) (a : Addr) (L : List Mem) (es : Array (Int × Value)) (ep : Nat) (t : SetTable) : Prop extends Tab P w L es t where
  ob : ∃ o, h.get? a = some o ∧ o.ExactSet ∧ o.data = .set es ep t
variable {a : Addr} {L : List Mem} {es : Array (Int × Value)} {ep : Nat} {t : SetTable}
theorem Tab.size (T : Tab P w L es t) : es.size = L.length := by
  have h := congrArg List.length T.rows
  rw [List.length_map] at h
  exact h
theorem Tab.psize (T : Tab P w L es t) : t.place.size = L.length := T.tab.sz.trans (List.length_map _)
theorem Tab.fits (T : Tab P w L es t) : t.fits es.size = true := by
  have h1 := T.psize
  have h2 := T.size
  have h3 := T.room
  unfold SetTable.fits SetTable.fill
  rw [T.tab.dm, Bool.and_eq_true, beq_iff_eq, decide_eq_true_eq]
  change t.place.size = es.size ∧ t.place.size + 0 ≤ t.mask
  omega
theorem Tab.row (T : Tab P w L es t) {i : Nat} {p : Mem} (h : L[i]? = some p) : es[i]? = some (memRow P w p) := by
  rw [← Array.getElem?_toList, T.rows, List.getElem?_map, h]
  rfl
theorem Tab.still (T : Tab P w L es t) : ¬ t.gaveWay = true := by
  unfold SetTable.gaveWay
  rw [mask_odd T.tab.mok]
  decide
/-! ### searching -/
/-- the c-th stop on the way of this hash -/
abbrev pr (t : SetTable) (h : Int) (c : Nat) : SetTable.Probe := nth t.mask (runAt t.mask (SetTable.bits h % (t.mask + 1)) (SetTable.bits h)) c
theorem pr_on (t : SetTable) (h : Int) (c q : Nat) : nth t.mask (pr t h c) q = pr t h (c + q) := (nth_add t.mask c _ q).symm
theorem pr_calm (t : SetTable) (h : Int) (c : Nat) : (pr t h c).dummy = none := by
  have key : ∀ (n : Nat) (p : SetTable.Probe), p.dummy = none → (nth t.mask p n).dummy = none := fun n => by
    induction n with
    | zero => exact fun p z => z
    | succ n ih =>
      intro p z
      apply ih (adv t.mask p)
      unfold adv
      split <;> exact z
  exact key c _ rfl
theorem find_from (T : Tab P w L es t) (hob : ∃ o, s.heap.get? a = some o ∧ o.data = .set es ep t) (tup : ∀ p ∈ L, kt P w s.heap p.2 p.1) {x : Addr} {k : List Key} (hx : kt P w s.heap k x) (hu : A.units < cLine) {K : Nat} (lim : K < 10 * SetTable.turns t.mask)
    (free : way t.mask (kh P w k) K ∉ t.place.toList) (taken : ∀ c, c < K → way t.mask (kh P w k) c ∈ t.place.toList) {Q : SetFound → Shared → Prop} (hin : k ∈ L.map (·.2) → Q (.there none) s) (hout : k ∉ L.map (·.2) → Q (.free (way t.mask (kh P w k) K) false) s) :
    ∀ (f c : Nat) (stand : Option SetTable.Probe), stand.getD (t.probeStart (kh P w k)) = pr t (kh P w k) c → c ≤ K → K - c < f → (∀ (i : Nat) p, L[i]? = some p → p.2 = k → ∃ c', c ≤ c' ∧ c' < K ∧ t.place.toList[i]? = some (way t.mask (kh P w k) c')) →
      wpAny (model P w) A (setSearchFrom a (.ref x) (kh P w k) true f stand) Q E s := by
  obtain ⟨o, ho, hd⟩ := hob
  intro f
  induction f with
  | zero => exact fun c stand _ _ z => absurd z (Nat.not_lt_zero _)
  | succ f ih =>
    intro c stand hst hc hf left
    rw [setSearchFrom_succ]
    apply wpAny_bind
    apply wpAny_setState_of ho hd T.fits
    dsimp only
    apply wp_if_neg T.still
    try (apply wpAny_bind; apply wpAny_pure)
    have at_ : ∀ q, (nth t.mask (pr t (kh P w k) c) q).j = way t.mask (kh P w k) (c + q) := fun q => congrArg SetTable.Probe.j (pr_on t (kh P w k) c q)
    have spec := go_spec t T.tab.ris T.tab.dm (fun i => (es[i]?.map (·.1)).getD 0) (kh P w k) (10 * SetTable.turns t.mask) (K - c) _ (pr_calm t (kh P w k) c) (by omega)
      (fun q hq => by rw [at_]; exact taken (c + q) (by omega)) (by rw [at_, show c + (K - c) = K by omega]; exact free)
    have hashes : ∀ (i : Nat) p, L[i]? = some p → (fun i => (es[i]?.map (·.1)).getD 0) i = kh P w p.2 := fun i p hp => by
      change (es[i]?.map (·.1)).getD 0 = _
      rw [T.row hp]
      rfl
    rcases spec with ⟨q, i, hq, hi, hh, hno, e⟩ | ⟨hno, e⟩
    · have probe : t.probe (fun i => (es[i]?.map (·.1)).getD 0) (kh P w k) (stand.getD (t.probeStart (kh P w k))) = some (.candidate (way t.mask (kh P w k) (c + q)) i (pr t (kh P w k) (c + (q + 1)))) := by
        rw [hst, ← at_, ← pr_on]
        exact e
      rw [probe]
      dsimp only
      rw [at_] at hi
      have il : i < L.length := by
        have h1 : i < t.place.toList.length := (List.getElem?_eq_some_iff.1 hi).1
        have h2 := T.psize
        rw [Array.length_toList] at h1
        omega
      obtain ⟨p, hp⟩ : ∃ p, L[i]? = some p := ⟨_, List.getElem?_eq_getElem il⟩
      have pm := List.mem_of_getElem? hp
      have met : wpAny (model P w) A (searchRest a (.ref x) (kh P w k) true f es t (way t.mask (kh P w k) (c + q)) i (pr t (kh P w k) (c + (q + 1)))) Q E s := by
        unfold searchRest
        rw [T.row hp]
        dsimp only [memRow]
        apply wpAny_bind
        apply wpAny_holding
        apply wpAny_eqBool_tuple hu (tup p pm) hx
        apply wpAny_bind
        apply wpAny_setState_of ho hd T.fits
        dsimp only
        by_cases same : p.2 = k
        · apply wp_if_pos (by simp [same])
          exact wpAny_pure (hin (List.mem_map.2 ⟨p, pm, same⟩))
        · apply wp_if_neg (by simp [same])
          try (apply wpAny_bind; apply wpAny_pure)
          rw [sameMem]
          dsimp only
          have live : t.slot (way t.mask (kh P w k) (c + q)) = .live i := slot_live T.tab.ris hi
          simp only [if_true, live, T.row hp, memRow]
          apply wpAny_bind
          apply wpAny_isSame_ref_self
          apply wpAny_bind
          apply wpAny_pure
          simp only [if_true]
          apply wp_if_neg (by simp [same])
          refine ih (c + (q + 1)) _ rfl (by omega) (by omega) fun i0 p0 h0 hk0 => ?_
          obtain ⟨c', a1, a2, a3⟩ := left i0 p0 h0 hk0
          refine ⟨c', ?_, a2, a3⟩
          have h00 : (fun i => (es[i]?.map (·.1)).getD 0) i0 = kh P w k := (hashes i0 p0 h0).trans (congrArg (kh P w) hk0)
          have n1 : ¬ c' < c + q := fun z => hno (c' - c) i0 (by omega) (by rw [at_, show c + (c' - c) = c' by omega]; exact a3) h00
          have n2 : c' ≠ c + q := fun z => by
            subst z
            have l0 := slot_live T.tab.ris a3
            rw [live] at l0
            injection l0 with l0
            rw [← l0, hp] at h0
            exact same ((congrArg Prod.snd (Option.some.inj h0)).trans hk0)
          omega
      by_cases hl : t.led = true
      · apply wp_if_neg (by simp [hl])
        try (apply wpAny_bind; apply wpAny_pure)
        exact met
      · apply wp_if_pos (by simp [hl])
        apply wpAny_bind
        refine kt_seen hx (fun y hy => ?_) ?_
        · obtain ⟨r, hr, e2⟩ := List.mem_map.1 hy
          have r1 : r ∈ es.toList := by
            have : r ∈ es ∧ r.1 = kh P w k := by simpa using hr
            simpa using this.1
          rw [T.rows] at r1
          obtain ⟨p2, hp2, rfl⟩ := List.mem_map.1 r1
          exact ⟨p2.2, p2.1, e2.symm, tup p2 hp2⟩
        · apply wp_if_neg (by decide)
          try (apply wpAny_bind; apply wpAny_pure)
          exact met
    · have probe : t.probe (fun i => (es[i]?.map (·.1)).getD 0) (kh P w k) (stand.getD (t.probeStart (kh P w k))) = some (.empty (way t.mask (kh P w k) K) none) := by
        have e2 : way t.mask (kh P w k) K = (nth t.mask (pr t (kh P w k) c) (K - c)).j := by rw [at_, show c + (K - c) = K by omega]
        rw [hst, e2]
        exact e
      rw [probe]
      dsimp only
      apply wpAny_pure
      refine hout fun hm => ?_
      obtain ⟨p0, h0, hk0⟩ := List.mem_map.1 hm
      obtain ⟨i0, hi0, e0⟩ := List.getElem_of_mem h0
      have h00 : L[i0]? = some p0 := by rw [List.getElem?_eq_getElem hi0, e0]
      obtain ⟨c', a1, a2, a3⟩ := left i0 p0 h00 hk0
      exact hno (c' - c) i0 (by omega) (by rw [at_, show c + (c' - c) = c' by omega]; exact a3) ((hashes i0 p0 h00).trans (congrArg (kh P w) hk0))
theorem find_at (T : Tab P w L es t) (hob : ∃ o, s.heap.get? a = some o ∧ o.data = .set es ep t) (tup : ∀ p ∈ L, kt P w s.heap p.2 p.1) {x : Addr} {k : List Key} (hx : kt P w s.heap k x) (hu : A.units < cLine) {Q : SetFound → Shared → Prop}
    (hin : k ∈ L.map (·.2) → Q (.there none) s) (hout : ∀ K, k ∉ L.map (·.2) → way t.mask (kh P w k) K ∉ t.place.toList → (∀ c, c < K → way t.mask (kh P w k) c ∈ t.place.toList) → Q (.free (way t.mask (kh P w k) K) false) s) :
    wpAny (model P w) A (setSearch a (.ref x) (kh P w k) true) Q E s := by
  have room := T.room
  obtain ⟨K, lim, free, taken⟩ := T.tab.first (by rw [List.length_map]; omega) (kh P w k)
  have big : K < 100000 := by
    have : 10 * SetTable.turns t.mask ≤ 1420 := by
      unfold SetTable.turns
      rcases T.tab.mok with e | e | e <;> omega
    omega
  unfold setSearch
  refine find_from T hob tup hx hu lim free taken hin (fun z => hout K z free taken) 100000 0 none rfl (Nat.zero_le _) (by omega) fun i p hp hk => ?_
  have il : i < t.place.toList.length := by
    have h1 : i < L.length := (List.getElem?_eq_some_iff.1 hp).1
    have h2 := T.psize
    rw [Array.length_toList]
    omega
  have hj := List.getElem?_eq_getElem il
  obtain ⟨c, hc, e⟩ := T.tab.before free (by rw [List.getElem?_map, hp, ← hk]; rfl) hj
  exact ⟨c, Nat.zero_le _, hc, by rw [hj, e]⟩
end
end GL


/-! G26: adding to a set of tuples; sorted of it. -/
namespace GL
open PySem PySem.Spec L2
open PyProof.Rows hiding St ItemsAre
section
variable {P : Program} {w : World} {A : Around} {E : Value → Shared → Prop} {s : Shared} {a : Addr} {L : List Mem} {es : Array (Int × Value)} {ep : Nat} {t : SetTable}
theorem tab_plain {hs : List Int} (T : TabOk t hs) (b : Bool) : TabOk { t with plain := b } hs := ⟨T.ris, T.dm, T.sz, T.mok, T.bd, T.reach⟩
theorem rows_in (L : List Mem) (p : Nat) (m : Mem) : (L.take p ++ m :: L.drop p).map (memRow P w) = (L.map (memRow P w)).take p ++ memRow P w m :: (L.map (memRow P w)).drop p := by
  rw [List.map_append, List.map_cons, List.map_take, List.map_drop]
/-- the rows in another order -/
theorem rows_order (rows : es.toList = L.map (memRow P w)) (order : Array Nat) (hp : order.toList.Perm (List.range L.length)) :
    ∃ L2 : List Mem, (order.filterMap (es[·]?)).toList = L2.map (memRow P w) ∧ L2.Perm L ∧ (L2.map fun p => kh P w p.2) = order.toList.map fun i => (es.map (·.1)).getD i 0 := by
  have row : ∀ i (h : i < L.length), es[i]? = some (memRow P w L[i]) := fun i h => by
    rw [← Array.getElem?_toList, rows, List.getElem?_map, List.getElem?_eq_getElem h]
    rfl
  have inr : ∀ i ∈ order.toList, i < L.length := fun i hi => List.mem_range.1 (hp.mem_iff.1 hi)
  have key : ∀ is : List Nat, (∀ i ∈ is, i < L.length) → is.filterMap (fun i => es[i]?) = (is.filterMap fun i => L[i]?).map (memRow P w) ∧ ((is.filterMap fun i => L[i]?).map fun p => kh P w p.2) = is.map fun i => (es.map (·.1)).getD i 0 := by
    intro is
    induction is with
    | nil => exact fun _ => ⟨rfl, rfl⟩
    | cons i is ih =>
      intro hl
      have hi := hl i List.mem_cons_self
      obtain ⟨e1, e2⟩ := ih fun j hj => hl j (List.mem_cons_of_mem _ hj)
      rw [List.filterMap_cons_some (row i hi), List.filterMap_cons_some (List.getElem?_eq_getElem hi), List.map_cons, List.map_cons, List.map_cons, e1, e2]
      refine ⟨rfl, congrArg (· :: _) ?_⟩
      rw [Array.getD_eq_getD_getElem?, Array.getElem?_map, row i hi]
      rfl
  obtain ⟨e1, e2⟩ := key order.toList inr
  refine ⟨order.toList.filterMap fun i => L[i]?, ?_, ?_, e2⟩
  · first
      | (rw [Array.toList_filterMap]; exact e1)
      | simpa using e1
  · have whole : (List.range L.length).filterMap (fun i => L[i]?) = L := by
      apply List.ext_getElem?
      intro j
      have up : ∀ n, n ≤ L.length → (List.range n).filterMap (fun i => L[i]?) = L.take n := fun n => by
        induction n with
        | zero => exact fun _ => rfl
        | succ n ih =>
          intro hn
          have lt : n < L.length := hn
          rw [List.range_succ, List.filterMap_append, ih (Nat.le_of_lt lt), List.take_succ, List.getElem?_eq_getElem lt, List.filterMap_cons_some (List.getElem?_eq_getElem lt)]
          rfl
      rw [up _ (Nat.le_refl _), List.take_length]
    have z := hp.filterMap fun i => L[i]?
    rwa [whole] at z
theorem kt_same {h h' : Heap} {k : List Key} {b : Addr} {o : Obj} (hb : kt P w h k b) (ho : h.get? a = some o) (hd : o.data = .set es ep t) (hs : Heap.SameBut a h h') : kt P w h' k b := by
  obtain ⟨u, items, n, hu, hc, hd2, hi⟩ := hb
  have ne : b ≠ a := fun z => by
    subst z
    obtain rfl : u = o := Option.some.inj (hu.symm.trans ho)
    rw [hd] at hd2
    cases hd2
  exact ⟨u, items, n, (hs.2 b ne).trans hu, hc, hd2, hi⟩
theorem mid_perm (L : List Mem) (p : Nat) (m : Mem) : (L.take p ++ m :: L.drop p).Perm (m :: L) := by
  have h : (L.take p ++ m :: L.drop p).Perm (m :: (L.take p ++ L.drop p)) := List.perm_middle
  rwa [List.take_append_drop] at h
/-- the larger table -/
theorem grow_at {o : Obj} (ho : s.heap.get? a = some o) (hex : o.ExactSet) (hd : o.data = .set es ep t) (rows : es.toList = L.map (memRow P w)) (psz : t.place.size = es.size) (dm : t.dummies = #[]) (fl : es.size ≤ t.mask) (nd : (L.map (·.2)).Nodup)
    (ld : w.params.followText "set-order" = true ∨ t.led = true) (few : L.length < 64) {wanted M : Nat} (hw : SetTable.sizeAbove wanted - 1 = M) (hM : MaskOk M) (lim : SetTable.sizeAbove wanted ≤ 128) (room : L.length * 5 < M * 3) {Q : Unit → Shared → Prop}
    (hQ : ∀ h' L' es' ep' t', Heap.SameBut a s.heap h' → SetAtM P w h' a L' es' ep' t' → L'.Perm L → Q () { s with heap := h' }) : wpAny (model P w) A (setRelay a wanted) Q E s := by
  have sz : es.size = L.length := by
    have h := congrArg List.length rows
    rw [List.length_map] at h
    exact h
  have fits : t.fits es.size = true := by
    unfold SetTable.fits SetTable.fill
    rw [dm, Bool.and_eq_true, beq_iff_eq, decide_eq_true_eq]
    change t.place.size = es.size ∧ t.place.size + 0 ≤ t.mask
    omega
  obtain ⟨t', order, e, hp, T, em, el, _, ed⟩ := relaid_ok t (hs := es.map (·.1)) (wanted := wanted) hw hM (by rw [Array.size_map, sz]; omega)
  rw [Array.size_map, sz] at hp
  obtain ⟨L2, r1, r2, r3⟩ := rows_order rows order hp
  rw [← r3] at T
  have sz2 : (order.filterMap (es[·]?)).size = es.size := by
    have h := congrArg List.length r1
    rw [List.length_map, r2.length_eq] at h
    exact h.trans sz.symm
  rw [setRelay_eq]
  apply wpAny_bind
  apply wpAny_setState_of ho hd fits
  dsimp only
  apply wp_if_neg (by rw [sizeLine_eq]; omega)
  try (apply wpAny_bind; apply wpAny_pure)
  rw [e]
  dsimp only
  apply wpAny_bind
  apply wp_if_neg (by rw [sz2]; simp)
  try (apply wpAny_bind; apply wpAny_pure)
  apply wpAny_pure
  dsimp only
  apply wpAny_storeSet_of ho hd ?_ (by rw [sz2, sz, sizeLine_eq]; omega)
  have sb : Heap.SameBut a s.heap (s.heap.update a (Obj.putSet (order.filterMap (es[·]?)) t')) := Heap.SameBut.update ..
  exact hQ _ L2 (order.filterMap (es[·]?)) (ep + 1) t' sb ⟨⟨r1, T, (r2.map (·.2)).nodup_iff.2 nd, by rw [el]; exact ld, by rw [r2.length_eq, em]; exact room, by rw [r2.length_eq]; exact few⟩, ⟨_, store_at ho hd, ⟨hex.1, hex.2.1, hex.2.2⟩, rfl⟩⟩ r2
theorem add_mem (R : SetAtM P w s.heap a L es ep t) (tup : ∀ p ∈ L, kt P w s.heap p.2 p.1) {x : Addr} {k : List Key} (hx : kt P w s.heap k x) (hu : A.units < cLine) (hfew : L.length + 1 < 64) {Q : Bool → Shared → Prop}
    (hQ : ∀ b h' L' es' ep' t', Heap.SameBut a s.heap h' → SetAtM P w h' a L' es' ep' t' → (k ∈ L.map (·.2) → L' = L) → (k ∉ L.map (·.2) → L'.Perm ((x, k) :: L)) → Q b { s with heap := h' }) :
    wpAny (model P w) A (setAddHashed a (.ref x) (kh P w k)) Q E s := by
  obtain ⟨o, ho, hex, hd⟩ := R.ob
  have T := R.toTab
  have sz := T.size
  have room := T.room
  unfold setAddHashed
  apply wpAny_holding
  rw [show (100000 : Nat) = 99999 + 1 from rfl, setAddHashedIn_succ]
  apply wpAny_bind
  apply wpAny_setState_of ho hd T.fits
  dsimp only
  apply wp_if_neg (by simp [byScan, Value.scannable])
  try (apply wpAny_bind; apply wpAny_pure)
  apply wpAny_bind
  refine find_at T ⟨o, ho, hd⟩ tup hx hu (fun hm => ?_) fun K hm free taken => ?_
  · dsimp only
    exact wpAny_pure (hQ false s.heap L es ep t (Heap.SameBut.refl a s.heap) R (fun _ => rfl) fun z => absurd hm z)
  dsimp only
  apply wpAny_bind
  apply wpAny_setState_of ho hd T.fits
  dsimp only
  obtain ⟨q1, q2, q3, q4, q5, _, _, _, q9⟩ := T.tab.put free taken
  generalize t.put (way t.mask (kh P w k) K) = pt at q1 q3 q4 q5 q9 ⊢
  obtain ⟨t1, p⟩ := pt
  dsimp only at q1 q3 q4 q5 q9 ⊢
  subst q1
  -- what follows, whatever the hash says
  have go : ∀ t2 : SetTable, (∃ b, t2 = { t1 with plain := b }) → wpAny (model P w) A (do
      storeSet a (SetTable.insertAt es (SetTable.below t.place (way t.mask (kh P w k) K)) (kh P w k, Value.ref x)) t2
      if (!false && t2.tooFull) = true then setRelay a (SetTable.grown (es.size + 1))
      return true) Q E s := by
    rintro t2 ⟨b, rfl⟩
    have rows : (SetTable.insertAt es (SetTable.below t.place (way t.mask (kh P w k) K)) (kh P w k, Value.ref x)).toList = (L.take (SetTable.below t.place (way t.mask (kh P w k) K)) ++ (x, k) :: L.drop (SetTable.below t.place (way t.mask (kh P w k) K))).map (memRow P w) := by
      rw [SetTable.toList_insertAt, rows_in, T.rows]
      rfl
    generalize SetTable.below t.place (way t.mask (kh P w k) K) = p at q2 q3 rows ⊢
    have pm := mid_perm L p (x, k)
    have len : (L.take p ++ (x, k) :: L.drop p).length = L.length + 1 := pm.length_eq
    have hhs : (L.take p ++ (x, k) :: L.drop p).map (fun p => kh P w p.2) = (L.map fun p => kh P w p.2).take p ++ kh P w k :: (L.map fun p => kh P w p.2).drop p := by
      rw [List.map_append, List.map_cons, List.map_take, List.map_drop]
    rw [← hhs] at q3
    have nd1 : ((L.take p ++ (x, k) :: L.drop p).map (·.2)).Nodup := (pm.map (·.2)).nodup_iff.2 (by rw [List.map_cons]; exact List.nodup_cons.2 ⟨hm, T.nd⟩)
    have esz : (SetTable.insertAt es p (kh P w k, Value.ref x)).size = L.length + 1 := by
      have h := congrArg List.length rows
      rw [List.length_map, len] at h
      exact h
    generalize SetTable.insertAt es p (kh P w k, Value.ref x) = es1 at rows esz ⊢
    generalize L.take p ++ (x, k) :: L.drop p = L1 at pm len q3 nd1 rows
    have q3 := tab_plain q3 b
    apply wpAny_bind
    apply wpAny_storeSet_of ho hd ?_ (by rw [esz, sizeLine_eq]; omega)
    have sb : Heap.SameBut a s.heap (s.heap.update a (Obj.putSet es1 { t1 with plain := b })) := Heap.SameBut.update ..
    have ho1 := store_at (es' := es1) (t' := { t1 with plain := b }) ho hd
    generalize s.heap.update a (Obj.putSet es1 { t1 with plain := b }) = h1 at sb ho1 ⊢
    have ld1 : w.params.followText "set-order" = true ∨ t1.led = true := by rw [q5]; exact T.led
    have full : SetTable.tooFull { t1 with plain := b } = decide ((L.length + 1) * 5 ≥ t1.mask * 3) := by
      have h9 : SetTable.fill { t1 with plain := b } = L.length + 1 := by
        have z : t1.fill = L.length + 1 := by rw [q9, List.length_map]
        exact z
      unfold SetTable.tooFull
      rw [h9]
    rw [full]
    by_cases hf : (L.length + 1) * 5 ≥ t1.mask * 3
    · first
        | (apply wpAny_bind; apply wp_if_pos (by simp [hf]))
        | (apply wp_if_pos (by simp [hf]); apply wpAny_bind)
      rw [sz]
      have psz1 : t1.place.size = es1.size := by
        have h : t1.place.size = (L1.map fun p => kh P w p.2).length := q3.sz
        rw [List.length_map, len] at h
        rw [h, esz]
      have two : (t.mask = 7 ∧ L.length = 4) ∨ (t.mask = 31 ∧ L.length = 18) := by
        rcases T.tab.mok with e | e | e
        · rw [q4, e] at hf
          rw [e] at room
          exact .inl ⟨e, by omega⟩
        · rw [q4, e] at hf
          rw [e] at room
          exact .inr ⟨e, by omega⟩
        · rw [q4, e] at hf
          omega
      have on : ∀ M, SetTable.sizeAbove (SetTable.grown (L.length + 1)) - 1 = M → MaskOk M → SetTable.sizeAbove (SetTable.grown (L.length + 1)) ≤ 128 → (L.length + 1) * 5 < M * 3 →
          wpAny (model P w) A (setRelay a (SetTable.grown (L.length + 1))) (fun _ s' => wpAny (model P w) A (pure true) Q E s') E { s with heap := h1 } := fun M g1 g2 g3 g4 => by
        refine grow_at (s := { s with heap := h1 }) ho1 ⟨hex.1, hex.2.1, hex.2.2⟩ rfl rows psz1 q3.dm (by rw [esz]; show L.length + 1 ≤ t1.mask; rw [q4]; rcases two with ⟨e, e2⟩ | ⟨e, e2⟩ <;> omega) nd1 ld1 (by rw [len]; exact hfew) g1 g2 g3 (by rw [len]; exact g4) ?_
        intro h2 L2 es2 ep2 t2 sb2 R2 pm2
        exact wpAny_pure (hQ true h2 L2 es2 ep2 t2 (sb.trans sb2) R2 (fun z => absurd z hm) fun _ => pm2.trans pm)
      rcases two with ⟨_, e2⟩ | ⟨_, e2⟩
      · exact on 31 (by rw [e2, size_20]) (.inr (.inl rfl)) (by rw [e2, size_20]; decide) (by omega)
      · exact on 127 (by rw [e2, size_76]) (.inr (.inr rfl)) (by rw [e2, size_76]; decide) (by omega)
    · first
        | apply wp_if_neg (by simp [hf])
        | (apply wpAny_bind; apply wp_if_neg (by simp [hf]); apply wpAny_pure)
      apply wpAny_pure
      refine hQ true h1 L1 es1 (ep + 1) { t1 with plain := b } sb ⟨⟨rows, q3, nd1, ld1, ?_, by rw [len]; exact hfew⟩, ⟨_, ho1, ⟨hex.1, hex.2.1, hex.2.2⟩, rfl⟩⟩ (fun z => absurd z hm) fun _ => pm
      change L1.length * 5 < t1.mask * 3
      rw [len]
      omega
  by_cases pl : t1.plain = true
  · first
      | (apply wpAny_bind; apply wp_if_pos pl; apply kt_hash hx; intro v)
      | (apply wp_if_pos pl; apply wpAny_bind; apply kt_hash hx; intro v)
    cases v with
    | true => exact go t1 ⟨t1.plain, rfl⟩
    | false => exact go _ ⟨false, rfl⟩
  · first
      | (apply wpAny_bind; apply wp_if_neg pl; apply wpAny_pure)
      | (apply wp_if_neg pl; apply wpAny_bind; apply wpAny_pure)
    exact go t1 ⟨t1.plain, rfl⟩
end
end GL

/-! G27: sets of tuples as a kind of sets; sorted of these; derived rules. -/
namespace GL
open PySem PySem.Spec L2
open PyProof.Rows hiding St ItemsAre
open PySem.W (EachIs AllAlike Sortable dataLe)
/-- the set at a, its members as they were added -/
def SetM0 (P : Program) (w : World) (h : Heap) (a : Addr) (acc : List Mem) : Prop := ∃ L es ep t, (∀ p ∈ L, p ∈ acc) ∧ (∀ p ∈ acc, p.2 ∈ L.map (·.2)) ∧ L.length ≤ acc.length ∧ SetAtM P w h a L es ep t
def SetMO (P : Program) (w : World) (a : Addr) (acc : List Mem) : HO := .ext fun h => SetM0 P w h a acc
theorem SetAtM.keep {P : Program} {w : World} {h h' : Heap} {a : Addr} {L : List Mem} {es : Array (Int × Value)} {ep : Nat} {t : SetTable} (R : SetAtM P w h a L es ep t) (k : ∀ o, h.get? a = some o → h'.get? a = some o) : SetAtM P w h' a L es ep t :=
  ⟨R.toTab, by
    obtain ⟨o, ho, r⟩ := R.ob
    exact ⟨o, k o ho, r⟩⟩
theorem setMO_ok {P : Program} {w : World} {H : Hp} {h : Heap} {a : Addr} {acc : List Mem} (R : SetM0 P w h a acc) : ObjOk P w H h a (SetMO P w a acc) := by
  obtain ⟨L, es, ep, t, s1, s2, s3, R1⟩ := id R
  obtain ⟨o, ho, r⟩ := R1.ob
  exact ⟨R, ⟨o, ho⟩, fun h1 h2 ⟨L', es', ep', t', s1', s2', s3', p⟩ k => ⟨L', es', ep', t', s1', s2', s3', p.keep fun o e => k o e⟩⟩
def SM (K : PySem.W.Frag) : SetD Mem := ⟨SetMO, fun H y c => y = .ref c.1 ∧ SqT K H c.1 (c.2.map kV), fun H d => SqT K H d.1 (d.2.map kV)⟩
theorem key_items {P : Program} {w : World} : ∀ {k : List Key} {us : List Value}, Vals (k.map kV) us → PySem.ItemsAre (mixKind P w) k us
  | [], _, r => by
    cases r
    exact .nil
  | .inl i :: k, _, r => by
    cases r with
    | cons a t =>
      obtain ⟨tk, rfl⟩ := (show ∃ tk, _ = Value.int i tk from a)
      exact .cons (mixKind_int P w i tk) (key_items t)
  | .inr x :: k, _, r => by
    cases r with
    | cons a t =>
      obtain ⟨tk, rfl⟩ := (show ∃ tk, _ = Value.str x tk from a)
      exact .cons (mixKind_str P w x tk) (key_items t)
theorem sqt_kt {X : Cx} {pins : List (Addr × Obj)} {σ : L2.St} {H : Hp} {s : Shared} (I : Inv X pins σ H s) {a : Addr} {k : List Key} (h : SqT X.K H a (k.map kV)) : kt X.prog X.w s.heap k a := by
  obtain ⟨its, r, ⟨o, ho, hc, n, hd⟩, _⟩ := I.tuple h
  exact ⟨o, its.toArray, n, ho, hc, hd, key_items r⟩
theorem sm_ok {K : PySem.W.Frag} {P : Program} {w : World} : SetOk (SM K) K P w where
  new := fun {H h a} ho => setMO_ok ⟨[], #[], 0, .fresh 0 0 (!w.params.followText "set-order"), (fun p hp => absurd hp List.not_mem_nil), (fun p hp => absurd hp List.not_mem_nil), Nat.le_refl _,
    ⟨⟨rfl, ⟨List.Pairwise.nil, rfl, rfl, .inl rfl, fun x hx => (by cases hx), fun i h j hi => (by simp at hi)⟩, List.nodup_nil, by
      show _ ∨ (!w.params.followText "set-order") = true
      cases w.params.followText "set-order"
      · exact .inr rfl
      · exact .inl rfl, by
      show 0 * 5 < 7 * 3
      decide, by
      show 0 < 64
      decide⟩, ⟨_, ho, ⟨rfl, rfl, rfl⟩, rfl⟩⟩⟩
  add := by
    intro X pins σ H s a acc y u c Q E hk hp hw hu I ha few ru hel hst hQ
    subst hk hp hw
    obtain ⟨L, es, ep, t, sub, all, len, R⟩ := (show SetM0 X.prog X.w s.heap a acc from (I.hok a _ ha).1)
    obtain ⟨rfl, hc⟩ := (show y = .ref c.1 ∧ SqT X.K H c.1 (c.2.map kV) from hel)
    obtain rfl : u = Value.ref c.1 := ru
    have hx := sqt_kt I hc
    have tup : ∀ p ∈ L, kt X.prog X.w s.heap p.2 p.1 := fun p hp => sqt_kt I (hst p (sub p hp))
    obtain ⟨o, ho, hex, hd⟩ := R.ob
    have ty : s.TypeIs (.ref a) "set" := ⟨o, ho, hex.1⟩
    refine wpAny_call_entry F.slot_set_add ty F.entry_set_add ?_ (F.args_set_add_2 _ _)
    unfold Builtin.«set.add» Builtin.Frozenset.oneOther
    simp only [List.isEmpty_nil, bind_assoc]
    unfold Builtin.Frozenset.addrOf setAdd
    refine wpAny_bind (wpAny_pure ?_)
    try dsimp only
    refine wpAny_bind (wpAny_pure ?_)
    try dsimp only
    refine wpAny_bind ?_
    refine wpAny_holding ?_
    refine wpAny_bind (wpAny_pyHash_tuple (by show X.A.units + 1 < cLine; omega) hx ?_)
    refine add_mem (s := { s with toks := s.toks + (c.2.length + 1) }) R tup hx (by show X.A.units + 1 < cLine; omega) (by omega) fun b h' L' es' ep' t' sb R2 c1 c2 => ?_
    show wpAny _ _ (ret Value.none) _ _ _
    have he : ∃ o, h'.get? a = some o := by
      obtain ⟨o, ho, _⟩ := R2.ob
      exact ⟨o, ho⟩
    have new : SetM0 X.prog X.w h' a (acc ++ [c]) := by
      by_cases hm : c.2 ∈ L.map (·.2)
      · obtain rfl := c1 hm
        refine ⟨_, es', ep', t', fun p hp => List.mem_append_left _ (sub p hp), fun p hp => ?_, by rw [List.length_append]; omega, R2⟩
        rcases List.mem_append.1 hp with hp | hp
        · exact all p hp
        · obtain rfl := List.mem_singleton.1 hp
          exact hm
      · have pm := c2 hm
        refine ⟨L', es', ep', t', fun p hp => ?_, fun p hp => ?_, ?_, R2⟩
        · rcases List.mem_cons.1 (pm.mem_iff.1 hp) with e | e
          · exact List.mem_append_right _ (List.mem_singleton.2 e)
          · exact List.mem_append_left _ (sub p e)
        · refine (pm.map (·.2)).mem_iff.2 ?_
          rw [List.map_cons]
          rcases List.mem_append.1 hp with hp | hp
          · exact List.mem_cons_of_mem _ (all p hp)
          · obtain rfl := List.mem_singleton.1 hp
            exact List.mem_cons_self
        · rw [pm.length_eq, List.length_append, List.length_cons, List.length_singleton]
          omega
    exact wpAny_pure ⟨_, rfl, hQ _ (I.write (e := a) (t' := s.toks + (c.2.length + 1)) (by rw [ha]; trivial) (.inl rfl) (fun b u hb hu => (sb.2 b hb).trans hu) he (setMO_ok new))⟩
/-! ### sorted -/
def rSortM (K : PySem.W.Frag) (P : Program) (w : World) : List V → Hp → VK → Prop := fun vs H Q => ∃ (a : Addr) (acc : List Mem), vs = [.ref a] ∧ H a = some (SetMO P w a acc) ∧ (∀ p ∈ acc, SqT K H p.1 (p.2.map kV)) ∧ AllAlike (acc.map keyD) ∧ Sortable (acc.map keyD) ∧
  ∀ (p : Addr) (L : List Mem), H p = none → (∀ q ∈ L, q ∈ acc) → (∀ q ∈ acc, q.2 ∈ L.map (·.2)) → (L.map (·.2)).Nodup → Q (.ref p) (upd H p (.lst ((L.mergeSort (dataLe false keyD)).map fun q => .ref q.1)))
/-- values that are the tuples of a list -/
theorem refs_order {L : List Mem} : ∀ {vs : List Value}, (∀ v ∈ vs, ∃ q ∈ L, v = Value.ref q.1) → ∃ L1 : List Mem, vs = L1.map (fun q => Value.ref q.1) ∧ ∀ q ∈ L1, q ∈ L
  | [], _ => ⟨[], rfl, fun q hq => (by cases hq)⟩
  | v :: vs, hv => by
    obtain ⟨q, hq, e⟩ := hv v List.mem_cons_self
    obtain ⟨L1, e1, hs⟩ := refs_order fun u hu => hv u (List.mem_cons_of_mem _ hu)
    refine ⟨q :: L1, by rw [List.map_cons, e, e1], fun r hr => ?_⟩
    rcases List.mem_cons.1 hr with z | z
    · rw [z]
      exact hq
    · exact hs r z
theorem nodup_map' {α β : Type} {f : α → β} {l : List α} (h : (l.map f).Nodup) : l.Nodup := (List.pairwise_map.1 h).imp fun z e => z (congrArg f e)
theorem refs_perm {L L1 : List Mem} (nd : (L.map (·.2)).Nodup) (one : ∀ q ∈ L, ∀ r ∈ L, q.1 = r.1 → q = r) (hs : ∀ q ∈ L1, q ∈ L) (pm : (L1.map (fun q => Value.ref q.1)).Perm (L.map fun q => Value.ref q.1)) : L1.Perm L := by
  have nL : L.Nodup := nodup_map' nd
  have nref : (L.map fun q => Value.ref q.1).Nodup := by
    refine List.pairwise_map.2 (List.Pairwise.imp_of_mem (fun {q r} hq hr hne e => ?_) nL)
    injection e with e
    exact hne (one q hq r hr e)
  have n1 : L1.Nodup := nodup_map' (pm.nodup_iff.2 nref)
  refine (List.perm_ext_iff_of_nodup n1 nL).2 fun q => ⟨hs q, fun hq => ?_⟩
  have hm : Value.ref q.1 ∈ L1.map (fun q => Value.ref q.1) := pm.mem_iff.2 (List.mem_map.2 ⟨q, hq, rfl⟩)
  obtain ⟨r, hr, e⟩ := List.mem_map.1 hm
  injection e with e
  rw [← one r (hs r hr) q hq e]
  exact hr
theorem cr_sortM {X : Cx} (hc : X.calm = true) (hu : X.A.units + 64 < cLine) : CallR X (.builtin "sorted") (rSortM X.K X.prog X.w) := by
  intro pins s σ H xs us Q I r h
  obtain ⟨a, acc, rfl, ha, hk, al, so, q⟩ := h
  obtain ⟨L, es, ep, t, sub, all, len, R⟩ := (show SetM0 X.prog X.w s.heap a acc from (I.hok a _ ha).1)
  rw [Vals.ref1 r]
  obtain ⟨o, ho, hex, hd⟩ := R.ob
  have hsz := R.toTab.size
  have hfew := R.few
  have tup : ∀ p ∈ L, kt X.prog X.w s.heap p.2 p.1 := fun p hp => sqt_kt I (hk p (sub p hp))
  apply Calls.call_function_entry PyProof.Rows.kind_sorted PyProof.Rows.plain_sorted PyProof.Rows.entry_sorted (PyProof.Rows.args_sorted1 _)
  unfold Builtin.«sorted»
  apply wpAny_bind (m := checkCount "sorted" 1 1 _)
  apply wpAny_pure
  apply wpAny_bind
  refine collect_set (A := X.A.in1) (I.ok.hd hc) ⟨o, ho, hex.1, hd⟩ R.toTab.fits (by unfold scanBound; omega) R.tab.ris R.led fun s1 vs k1 hz g1 o1 pm => ?_
  have hes : es.toList.map (·.2) = L.map fun q => Value.ref q.1 := by
    rw [R.rows, List.map_map]
    rfl
  rw [hes] at pm
  have one : ∀ q ∈ L, ∀ r ∈ L, q.1 = r.1 → q = r := fun q hq r hr e => by
    have a1 := tup q hq
    have a2 := tup r hr
    rw [e] at a1
    exact Prod.ext e (a1.inj a2)
  obtain ⟨L1, e1, in1⟩ := refs_order (L := L) (vs := vs) fun v hv => by
    obtain ⟨q, hq, e⟩ := List.mem_map.1 (pm.mem_iff.1 hv)
    exact ⟨q, hq, e.symm⟩
  subst e1
  have p1 : L1.Perm L := refs_perm R.nd one in1 pm
  have size : L1.length ≤ sizeLine := by rw [p1.length_eq, sizeLine_eq]; omega
  apply wpAny_bind
  refine wpAny_newList ?_ (by rw [List.length_map]; exact size)
  have here : (s1.heap.push (seqObj "list" (L1.map fun q => Value.ref q.1).toArray 0)).get? s1.heap.objs.size = some (seqObj "list" (L1.map fun q => Value.ref q.1).toArray 0) := Heap.get?_push_size _ rfl
  show wpAny _ _ _ _ _ { s1 with heap := s1.heap.push (seqObj "list" (L1.map fun q => Value.ref q.1).toArray 0) }
  have rd : EachIs (fun v (x : Mem) => ∃ as, Reads (s1.heap.push (seqObj "list" (L1.map fun q => Value.ref q.1).toArray 0)) v (keyD x) as ∧ s1.heap.objs.size ∉ as) (L1.map fun q => Value.ref q.1) L1 := by
    refine each_in (each_refs L1) fun v x hx e => ?_
    subst e
    obtain ⟨its, rv, ⟨ob, a1, a2, n, a3⟩, _⟩ := I.tuple (hk x (sub x (in1 x hx)))
    exact ⟨[], .tuple (Heap.get?_push_of_some _ (k1 _ _ a1)) a2 a3 (kD_reads rv), List.not_mem_nil⟩
  have in2 : ∀ d ∈ L1.map keyD, d ∈ acc.map keyD := fun d hd => by
    obtain ⟨x, hx, rfl⟩ := List.mem_map.1 hd
    exact List.mem_map.2 ⟨x, sub x (in1 x hx), rfl⟩
  have al1 : AllAlike (L1.map keyD) := fun d hd d' hd' => al d (in2 d hd) d' (in2 d' hd')
  have so1 : Sortable (L1.map keyD) := so.elim (fun h => .inl fun d hd => h d (in2 d hd)) fun h => .inr fun d hd => h d (in2 d hd)
  apply wpAny_bind
  apply wpAny_holding
  have fin := PySem.W.list_sort_data (prog := X.prog) (w := X.w) (A := X.A.in1) (E := X.xe) (s := { s1 with heap := s1.heap.push (seqObj "list" (L1.map fun q => Value.ref q.1).toArray 0) }) (enc := keyD) here (each_refs L1) rd al1 so1 size
    (fun x _ => by have := keyD_depth x; show X.A.units + 1 + 1 + (keyD x).depth < cLine; omega)
    (Q := fun _ s2 => EP X pins σ Q (.ref s1.heap.objs.size) s2) (fun out len eo => by
      obtain ⟨c, at_⟩ := sortedHeap_at (out := out.toArray) here
      have ov := refs_each eo
      have ol : ((L1.mergeSort (dataLe false keyD)).map fun q => V.ref q.1).length ≤ sizeLine := by
        rw [List.length_map, List.length_mergeSort]
        exact size
      have keep : ∀ b o, s.heap.get? b = some o → (PyProof.Rows.sortedHeap (s1.heap.push (seqObj "list" (L1.map fun q => Value.ref q.1).toArray 0)) s1.heap.objs.size (L1.map fun q => Value.ref q.1) out.toArray).get? b = some o := fun b o e => by
        have e1 := k1 b o e
        have lt := Heap.lt_size e1
        rw [sortedHeap_old (Nat.ne_of_lt lt) (by rw [Heap.size_push]; exact Nat.lt_succ_of_lt lt)]
        exact Heap.get?_push_of_some _ e1
      have hn : H s1.heap.objs.size = none := I.hok.fresh hz
      have J : Inv X pins σ (upd H s1.heap.objs.size (.lst ((L1.mergeSort (dataLe false keyD)).map fun q => V.ref q.1))) { s with heap := PyProof.Rows.sortedHeap (s1.heap.push (seqObj "list" (L1.map fun q => Value.ref q.1).toArray 0)) s1.heap.objs.size (L1.map fun q => Value.ref q.1) out.toArray, gens := s1.gens, drawn := s1.drawn, toks := s1.toks } :=
        I.call (ch := []) (Un.laid keep hz hn) (I.hok.laid keep hz ⟨ol, out, c, ov, at_⟩) (g1 ▸ I.bare) fun _ z => nomatch z
      have es1 : ({ s1 with heap := PyProof.Rows.sortedHeap (s1.heap.push (seqObj "list" (L1.map fun q => Value.ref q.1).toArray 0)) s1.heap.objs.size (L1.map fun q => Value.ref q.1) out.toArray } : Shared) = { s with heap := PyProof.Rows.sortedHeap (s1.heap.push (seqObj "list" (L1.map fun q => Value.ref q.1).toArray 0)) s1.heap.objs.size (L1.map fun q => Value.ref q.1) out.toArray, gens := s1.gens, drawn := s1.drawn, toks := s1.toks } := by
        rcases s1 with ⟨b1, b2, b3, b4, b5⟩
        cases o1
        rfl
      rw [es1]
      exact ⟨.ref _, _, J, rfl, q _ L1 hn (fun x hx => sub x (in1 x hx)) (fun x hx => ((p1.map (·.2)).mem_iff).2 (all x hx)) ((p1.map (·.2)).nodup_iff.2 R.nd)⟩)
  refine wpAny_mono fin (fun _ s2 x => ?_) fun _ _ e => e
  exact wpAny_pure ⟨_, rfl, x⟩
end GL

/-! G28: derived rules for sets of tuples. -/
namespace GL
open PySem PySem.Spec L2
open PyProof.Rows hiding St ItemsAre
open PySem.W (EachIs AllAlike Sortable dataLe)
section
variable {K : PySem.W.Frag} {D0 : Hp} {R : Res} {l : List (V × PyData)} {σ : L2.St} {D : Ends} {Q : VK} {T : Hp → Prop} {w : World} {P : Program}
theorem setMO_nt {a : Addr} {acc : List Mem} : NotTup (SetMO P w a acc) := fun _ z => by cases z
def factsM (acc : List Mem) : List (V × PyData) := acc.map fun p => (.ref p.1, keyD p)
theorem keys_kV {H : Hp} : ∀ {ks : List Key} {xs : List V}, DtAll K H xs (ks.map kD) → xs = ks.map kV
  | [], _, h => by
    cases h
    rfl
  | .inl i :: ks, _, h => by
    cases h with
    | cons a t =>
      cases a
      rw [keys_kV t]
      rfl
  | .inr x :: ks, _, h => by
    cases h with
    | cons a t =>
      cases a
      rw [keys_kV t]
      rfl
theorem mem_sqt {N : Addr → Prop} {H : Hp} (A : At K D0 R l N H) {y : V} {k : List Key} (h : InL l y (.tuple (k.map kD))) : ∃ a, y = .ref a ∧ SqT K H a (k.map kV) := by
  obtain ⟨a, xs, rfl, ha, hd⟩ := (A.dt h).tuple
  exact ⟨a, rfl, keys_kV hd ▸ same_sqT off_same ha⟩
def ContM (K : PySem.W.Frag) (D0 : Hp) (R : Res) (l : List (V × PyData)) (P : Program) (w : World) (D : Addr) (Pd : List Mem → Prop) : Hp → Prop := fun H => ∃ acc N, Pd acc ∧ At K D0 (star (objs [(D, SetMO P w D acc)]) R) (factsM acc ++ l) N H
def kAddM (K : PySem.W.Frag) (P : Program) (w : World) (D : Addr) (y : V) (H4 : Hp) (Nx : Hp → Prop) : Prop := ∃ (acc : List Mem) (c : Mem), H4 D = some ((SM K).O P w D acc) ∧ acc.length < 62 ∧ (SM K).el H4 y c ∧ (∀ d ∈ acc, (SM K).st H4 d) ∧ Nx (upd H4 D ((SM K).O P w D (acc ++ [c])))
theorem d_addM {l' : List (V × PyData)} {D : Addr} {acc : List Mem} {y : V} {k : List Key} {Pd : List Mem → Prop} (hy : InL l y (.tuple (k.map kD))) (few : acc.length < 62) (h : ∀ a, Pd (acc ++ [(a, k)])) (s : ∀ p ∈ factsM acc ++ l', InL l p.1 p.2) :
    RD K D0 (star (objs [(D, SetMO P w D acc)]) R) l (fun H => kAddM K P w D y H (ContM K D0 R l' P w D Pd)) := fun N H A => by
  obtain ⟨a, rfl, ha⟩ := mem_sqt A hy
  refine ⟨acc, (a, k), A.ob (List.Mem.head _), few, ⟨rfl, ha⟩, fun d hd => ?_, acc ++ [(a, k)], N, h a, ?_⟩
  · obtain ⟨b, e, hb⟩ := mem_sqt (y := .ref d.1) (k := d.2) A (s (.ref d.1, keyD d) (List.mem_append_left _ (List.mem_map.2 ⟨d, hd, rfl⟩)))
    cases e
    exact hb
  · have A' := A.setOb (a := D) (o := SetMO P w D (acc ++ [(a, k)])) setMO_nt (List.Mem.head _)
    have e : putO [(D, SetMO P w D acc)] D (SetMO P w D (acc ++ [(a, k)])) = [(D, SetMO P w D (acc ++ [(a, k)]))] := by simp [putO]
    rw [e] at A'
    refine A'.weak fun p hp => ?_
    rcases List.mem_append.1 hp with hp | hp
    · obtain ⟨q, hq, rfl⟩ := List.mem_map.1 hp
      rcases List.mem_append.1 hq with hq | hq
      · exact s _ (List.mem_append_left _ (List.mem_map.2 ⟨q, hq, rfl⟩))
      · obtain rfl := List.mem_singleton.1 hq
        exact hy
    · exact s p (List.mem_append_right _ hp)
theorem d_noAddM {l' : List (V × PyData)} {D : Addr} {acc : List Mem} {Pd : List Mem → Prop} (h : Pd acc) (s : ∀ p ∈ factsM acc ++ l', InL l p.1 p.2) : RD K D0 (star (objs [(D, SetMO P w D acc)]) R) l (ContM K D0 R l' P w D Pd) := fun N H A => ⟨acc, N, h, A.weak s⟩
/-- over a list -/
theorem d_setList {v : V} {ds : List PyData} {g : TG} {tt : TT} {te : TE} {vs : List Nat} (hv : InL l v (.list ds)) (Pd : Nat → List Mem → Prop) (h0 : Pd 0 [])
    (hs : ∀ i d x D acc, ds[i]? = some d → Dv x d → Pd i acc → RD K D0 (star (objs [(D, SetMO P w D acc)]) R) ((x, d) :: (factsM acc ++ l)) (fun H => g x (wipe σ vs) H fun σ2 H2 => kWipe σ2 vs σ H2 fun H2 => tt σ2 H2 fun b H3 =>
      if b = true then te σ2 H3 fun y H4 => kAddM K P w D y H4 (ContM K D0 R l P w D (Pd (i + 1))) else ContM K D0 R l P w D (Pd (i + 1)) H3))
    (hz : ∀ acc D, Pd ds.length acc → RD K D0 (star (objs [(D, SetMO P w D acc)]) R) (factsM acc ++ l) (Q (.ref D))) :
    RD K D0 R l (fun H => wIt K v H fun J H1 => SetKK (SM K) P w g tt te vs σ Q J H1) := fun N H A => by
  obtain ⟨a, xs, rfl, ha, hd0⟩ := (A.dt hv).list
  have hl : ∀ {D acc N' H'}, At K D0 (star (objs [(D, SetMO P w D acc)]) R) (factsM acc ++ l) N' H' → ∃ xs', SqL K H' a xs' ∧ DtAll K (off H' N') xs' ds := fun {D acc N' H'} A' => by
    have hv' : InL (factsM acc ++ l) (.ref a) (.list ds) := by
      cases hv with
      | mem h => exact .mem (List.mem_append_right _ h)
    obtain ⟨a', xs', e, h', d'⟩ := (A'.dt hv').list
    cases e
    exact ⟨xs', SqL.of (off_same a _ h'), d'⟩
  refine .inl ⟨a, rfl, ⟨xs, SqL.of (off_same a _ ha)⟩, fun D hD => ⟨fun i m H => m = ds.length - i ∧ i ≤ ds.length ∧ ContM K D0 R l P w D (Pd i) H, ⟨_, rfl, Nat.zero_le _, [], _, h0, A.nilO.newOb setMO_nt hD⟩, ?_⟩⟩
  rintro i m H' ⟨rfl, hi, acc, N', p, A'⟩
  obtain ⟨xs', hq, d'⟩ := hl A'
  by_cases hlt : i < ds.length
  · have hx : i < xs'.length := by rw [d'.len]; exact hlt
    refine .inr ⟨⟨xs', xs'[i], hq, by simp [hx]⟩, ContM K D0 R l P w D (Pd (i + 1)), fun H2 p => ⟨ds.length - (i + 1), by omega, rfl, hlt, p⟩, ?_⟩
    rintro x H2 ⟨rfl, hy⟩
    obtain ⟨d, e1, e2⟩ := d'.get (hy xs' hq)
    exact hs i d x D acc e1 e2.dv p N' _ (A'.facts e2)
  · have e : i = ds.length := by omega
    subst e
    exact .inl ⟨⟨xs', hq, by rw [d'.len]; exact Nat.le_refl _⟩, hz acc D p N' H' A'⟩
/-- over a tuple -/
theorem d_setTup {v : V} {ds : List PyData} {g : TG} {tt : TT} {te : TE} {vs : List Nat} (hv : InL l v (.tuple ds)) (Pd : Nat → List Mem → Prop) (h0 : Pd 0 [])
    (hs : ∀ i d x D acc, ds[i]? = some d → Dv x d → Pd i acc → RD K D0 (star (objs [(D, SetMO P w D acc)]) R) ((x, d) :: (factsM acc ++ l)) (fun H => g x (wipe σ vs) H fun σ2 H2 => kWipe σ2 vs σ H2 fun H2 => tt σ2 H2 fun b H3 =>
      if b = true then te σ2 H3 fun y H4 => kAddM K P w D y H4 (ContM K D0 R l P w D (Pd (i + 1))) else ContM K D0 R l P w D (Pd (i + 1)) H3))
    (hz : ∀ acc D, Pd ds.length acc → RD K D0 (star (objs [(D, SetMO P w D acc)]) R) (factsM acc ++ l) (Q (.ref D))) :
    RD K D0 R l (fun H => wIt K v H fun J H1 => SetKK (SM K) P w g tt te vs σ Q J H1) := fun N H A => by
  obtain ⟨a, xs, rfl, ha, hd0⟩ := (A.dt hv).tuple
  have hl : ∀ {D acc N' H'}, At K D0 (star (objs [(D, SetMO P w D acc)]) R) (factsM acc ++ l) N' H' → ∃ xs', SqT K H' a xs' ∧ DtAll K (off H' N') xs' ds := fun {D acc N' H'} A' => by
    have hv' : InL (factsM acc ++ l) (.ref a) (.tuple ds) := by
      cases hv with
      | mem h => exact .mem (List.mem_append_right _ h)
    obtain ⟨a', xs', e, h', d'⟩ := (A'.dt hv').tuple
    cases e
    exact ⟨xs', same_sqT off_same h', d'⟩
  refine .inr (.inl ⟨a, rfl, ⟨xs, same_sqT off_same ha⟩, fun D hD => ⟨fun i m H => m = ds.length - i ∧ i ≤ ds.length ∧ ContM K D0 R l P w D (Pd i) H, ⟨_, rfl, Nat.zero_le _, [], _, h0, A.nilO.newOb setMO_nt hD⟩, ?_⟩⟩)
  rintro i m H' ⟨rfl, hi, acc, N', p, A'⟩
  obtain ⟨xs', hq, d'⟩ := hl A'
  by_cases hlt : i < ds.length
  · have hx : i < xs'.length := by rw [d'.len]; exact hlt
    refine .inr ⟨⟨xs', xs'[i], hq, by simp [hx]⟩, ContM K D0 R l P w D (Pd (i + 1)), fun H2 p => ⟨ds.length - (i + 1), by omega, rfl, hlt, p⟩, ?_⟩
    rintro x H2 ⟨rfl, hy⟩
    obtain ⟨d, e1, e2⟩ := d'.get (hy xs' hq)
    exact hs i d x D acc e1 e2.dv p N' _ (A'.facts e2)
  · have e : i = ds.length := by omega
    subst e
    exact .inl ⟨⟨xs', hq, by rw [d'.len]; exact Nat.le_refl _⟩, hz acc D p N' H' A'⟩
/-- sorted of it -/
theorem d_sortM {a : Addr} {acc : List Mem} (hf : ∀ p ∈ factsM acc, InL l p.1 p.2) (al : AllAlike (acc.map keyD)) (so : Sortable (acc.map keyD))
    (k : ∀ (L : List (List Key)) v, L.Nodup → (∀ q, q ∈ L ↔ q ∈ acc.map (·.2)) → RD K D0 R ((v, .list ((L.map fun q => PyData.tuple (q.map kD)).mergeSort (dataLe false id))) :: l) (Q v)) : RD K D0 (star (objs [(a, SetMO P w a acc)]) R) l (fun H => rSortM K P w [.ref a] H Q) := fun N H A => by
  refine ⟨a, acc, rfl, A.ob (List.Mem.head _), fun p hp => ?_, al, so, fun p L hp s1 s2 nd => ?_⟩
  · obtain ⟨b, e, hb⟩ := mem_sqt (y := .ref p.1) (k := p.2) A (hf (.ref p.1, keyD p) (List.mem_map.2 ⟨p, hp, rfl⟩))
    cases e
    exact hb
  · obtain ⟨A', e⟩ := A.new (.lst ((L.mergeSort (dataLe false keyD)).map fun q => V.ref q.1)) hp
    have hds : DtAll K (off (upd H p (.lst ((L.mergeSort (dataLe false keyD)).map fun q => V.ref q.1))) N) (((L.mergeSort (dataLe false keyD)).map fun q => ((V.ref q.1, keyD q) : V × PyData)).map (·.1)) (((L.mergeSort (dataLe false keyD)).map fun q => ((V.ref q.1, keyD q) : V × PyData)).map byD) :=
      pairs_dt fun x hx => by
        obtain ⟨q, hq, rfl⟩ := List.mem_map.1 hx
        exact A'.dt (hf (.ref q.1, keyD q) (List.mem_map.2 ⟨q, s1 q ((List.mergeSort_perm _ _).mem_iff.1 hq), rfl⟩))
    rw [List.map_map, List.map_map] at hds
    have em : (L.mergeSort (dataLe false keyD)).map (byD ∘ fun q => ((V.ref q.1, keyD q) : V × PyData)) = ((L.map (·.2)).map fun q => PyData.tuple (q.map kD)).mergeSort (dataLe false id) := by
      rw [List.map_map]
      exact List.map_mergeSort fun _ _ _ _ => rfl
    rw [em] at hds
    have f : Dt K (off (upd H p (.lst ((L.mergeSort (dataLe false keyD)).map fun q => V.ref q.1))) N) (.ref p) (.list (((L.map (·.2)).map fun q => PyData.tuple (q.map kD)).mergeSort (dataLe false id))) := Dt.lst e hds
    refine (fun eqv : ∀ q, q ∈ L.map (·.2) ↔ q ∈ acc.map (·.2) => RD.drop (k (L.map (·.2)) (.ref p) nd eqv) N _ (A'.facts f)) fun q => ⟨fun hq => ?_, fun hq => ?_⟩
    · obtain ⟨x, hx, rfl⟩ := List.mem_map.1 hq
      exact List.mem_map.2 ⟨x, s1 x hx, rfl⟩
    · obtain ⟨x, hx, rfl⟩ := List.mem_map.1 hq
      exact s2 x hx
end
end GL

/-! G29: texts by length and alphabet; enumerate in a comprehension; xs[::-1]; list(xs). -/
namespace GL
open PySem PySem.Spec L2
open PyProof.Rows hiding St ItemsAre
open PySem.W (EachIs AllAlike Sortable dataLe dataLt dataLt_pair dataLt_int dataLt_str alike)
open SX (S)
/-! ### the order -/
def kS (x : List Nat) : List Key := [.inl x.length, .inr (S x)]
def pD (x : List Nat) : PyData := .tuple [.int x.length, .str (S x)]
def leT (x y : List Nat) : Bool := dataLe false id (pD x) (pD y)
theorem leT_iff (x y : List Nat) : leT x y = true ↔ (x.length < y.length ∨ (x.length = y.length ∧ x ≤ y)) := by
  have e : leT x y = !dataLt (pD y) (pD x) := rfl
  rw [e]
  unfold pD
  rw [dataLt_pair (by simp [alike]) (by simp [alike]), dataLt_int, dataLt_str, eqv_int, eqv_str]
  have c1 : ((y.length : Int) = (x.length : Int)) ↔ y.length = x.length := by omega
  have c2 : ((y.length : Int) < (x.length : Int)) ↔ y.length < x.length := by omega
  have c3 : (S y = S x) ↔ y = x := ⟨fun h => by
    have h2 : y.toArray = x.toArray := congrArg Str.cps h
    simpa using h2, fun h => h ▸ rfl⟩
  simp only [decide_eq_true_eq, c1, c2, c3]
  show (!(if y.length = x.length then (if y = x then false else decide (y < x)) else decide (y.length < x.length))) = true ↔ _
  by_cases h1 : y.length = x.length
  · rw [if_pos h1]
    by_cases h2 : y = x
    · rw [if_pos h2, h2]
      simp
    · rw [if_neg h2]
      simp only [Bool.not_eq_true', decide_eq_false_iff_not]
      constructor
      · intro h
        exact .inr ⟨h1.symm, List.not_lt.1 h⟩
      · rintro (h | ⟨_, h⟩)
        · omega
        · exact List.not_lt.2 h
  · rw [if_neg h1]
    simp only [Bool.not_eq_true', decide_eq_false_iff_not]
    omega
theorem leT_trans (x y z : List Nat) (h1 : leT x y = true) (h2 : leT y z = true) : leT x z = true := by
  rw [leT_iff] at *
  rcases h1 with h1 | ⟨h1, g1⟩ <;> rcases h2 with h2 | ⟨h2, g2⟩
  · left; omega
  · left; omega
  · left; omega
  · right; exact ⟨by omega, List.le_trans g1 g2⟩
theorem leT_total (x y : List Nat) : (leT x y || leT y x) = true := by
  rw [Bool.or_eq_true, leT_iff, leT_iff]
  rcases Nat.lt_trichotomy x.length y.length with h | h | h
  · exact .inl (.inl h)
  · rcases List.le_total x y with g | g
    · exact .inl (.inr ⟨h, g⟩)
    · exact .inr (.inr ⟨h.symm, g⟩)
  · exact .inr (.inl h)
theorem leT_anti {x y : List Nat} (h1 : leT x y = true) (h2 : leT y x = true) : x = y := by
  rw [leT_iff] at h1 h2
  rcases h1 with h1 | ⟨h1, g1⟩ <;> rcases h2 with h2 | ⟨h2, g2⟩
  · omega
  · omega
  · omega
  · exact List.le_antisymm g1 g2
def AscT (l : List (List Nat)) : Prop := l.Pairwise fun x y => leT x y = true ∧ x ≠ y
theorem ascT_same : ∀ {l m : List (List Nat)}, AscT l → AscT m → (∀ z, z ∈ l ↔ z ∈ m) → l = m
  | [], [], _, _, _ => rfl
  | [], y :: r, _, _, h => absurd ((h y).2 List.mem_cons_self) List.not_mem_nil
  | x :: l, [], _, _, h => absurd ((h x).1 List.mem_cons_self) List.not_mem_nil
  | x :: l, y :: m, h1, h2, h => by
    obtain ⟨a1, a2⟩ := List.pairwise_cons.1 h1
    obtain ⟨b1, b2⟩ := List.pairwise_cons.1 h2
    have e : x = y := by
      rcases List.mem_cons.1 ((h x).1 List.mem_cons_self) with e | e
      · exact e
      · rcases List.mem_cons.1 ((h y).2 List.mem_cons_self) with e2 | e2
        · exact e2.symm
        · exact leT_anti (a1 y e2).1 (b1 x e).1
    subst e
    refine congrArg (x :: ·) (ascT_same a2 b2 fun z => ⟨fun hz => ?_, fun hz => ?_⟩)
    · rcases List.mem_cons.1 ((h z).1 (List.mem_cons_of_mem _ hz)) with e | e
      · exact absurd e.symm (a1 z hz).2
      · exact e
    · rcases List.mem_cons.1 ((h z).2 (List.mem_cons_of_mem _ hz)) with e | e
      · exact absurd e.symm (b1 z hz).2
      · exact e
/-- those that differ from the one before -/
def adjI (l : List (List Nat)) : Nat → List (List Nat)
  | 0 => []
  | i + 1 => if i = 0 ∨ l[i - 1]? ≠ l[i]? then adjI l i ++ (l[i]?).toList else adjI l i
theorem adjI_ok {l : List (List Nat)} (h : l.Pairwise fun x y => leT x y = true) : ∀ i, i ≤ l.length → AscT (adjI l i) ∧ ∀ z, z ∈ adjI l i ↔ z ∈ l.take i
  | 0, _ => ⟨List.Pairwise.nil, fun z => by simp [adjI]⟩
  | i + 1, hi => by
    obtain ⟨h1, h2⟩ := adjI_ok h i (by omega)
    have lt : i < l.length := hi
    have ei := List.getElem?_eq_getElem lt
    have tk : l.take (i + 1) = l.take i ++ [l[i]] := by rw [List.take_succ, ei]; rfl
    unfold adjI
    rw [tk]
    by_cases c : i = 0 ∨ l[i - 1]? ≠ l[i]?
    · rw [if_pos c, ei]
      refine ⟨?_, fun z => by
        show z ∈ adjI l i ++ [l[i]] ↔ _
        rw [List.mem_append, List.mem_append, h2]⟩
      show List.Pairwise _ (adjI l i ++ [l[i]])
      refine List.pairwise_append.2 ⟨h1, List.pairwise_singleton _ _, fun x hx y hy => ?_⟩
      obtain rfl := List.mem_singleton.1 hy
      have hx2 := (h2 x).1 hx
      obtain ⟨j, hj, e⟩ := List.getElem_of_mem hx2
      rw [List.length_take] at hj
      rw [List.getElem_take] at e
      have ji : j < i := by omega
      have le : leT x l[i] = true := e ▸ (List.pairwise_iff_getElem.1 h j i (by omega) lt ji)
      refine ⟨le, fun ex => ?_⟩
      rcases c with c | c
      · omega
      · refine c ?_
        rw [ei, List.getElem?_eq_getElem (by omega)]
        have q1 : leT l[j] l[i - 1] = true := by
          by_cases hh : j = i - 1
          · subst hh
            have := leT_total l[i - 1] l[i - 1]
            simpa using this
          · exact List.pairwise_iff_getElem.1 h j (i - 1) (by omega) (by omega) (by omega)
        have q2 : leT l[i - 1] l[i] = true := List.pairwise_iff_getElem.1 h (i - 1) i (by omega) lt (by omega)
        rw [e, ex] at q1
        exact congrArg some (leT_anti q2 q1)
    · rw [if_neg c]
      refine ⟨h1, fun z => ?_⟩
      rw [h2, List.mem_append]
      refine ⟨.inl, fun q => q.elim id fun q => ?_⟩
      obtain rfl := List.mem_singleton.1 q
      have c1 : ¬ i = 0 := fun z => c (.inl z)
      have c2 : l[i - 1]? = l[i]? := Classical.byContradiction fun z => c (.inr z)
      rw [ei, List.getElem?_eq_getElem (by omega)] at c2
      rw [← Option.some.inj c2]
      exact List.mem_take_iff_getElem.2 ⟨i - 1, by omega, rfl⟩
def sortT (l : List (List Nat)) : List (List Nat) := l.mergeSort leT
theorem sortT_pw (l : List (List Nat)) : (sortT l).Pairwise fun x y => leT x y = true := List.pairwise_mergeSort leT_trans leT_total l
theorem sortT_perm (l : List (List Nat)) : (sortT l).Perm l := List.mergeSort_perm _ _
def ordT (l : List (List Nat)) : List (List Nat) := adjI (sortT l) (sortT l).length
theorem ordT_asc (l : List (List Nat)) : AscT (ordT l) := (adjI_ok (sortT_pw l) _ (Nat.le_refl _)).1
theorem mem_ordT {l : List (List Nat)} {z : List Nat} : z ∈ ordT l ↔ z ∈ l := by
  unfold ordT
  rw [(adjI_ok (sortT_pw l) _ (Nat.le_refl _)).2, List.take_length, (sortT_perm l).mem_iff]
theorem ordT_eq {l m : List (List Nat)} (hm : AscT m) (h : ∀ z, z ∈ m ↔ z ∈ l) : m = ordT l := ascT_same hm (ordT_asc l) fun z => (h z).trans mem_ordT.symm
theorem ordT_congr {l m : List (List Nat)} (h : ∀ z, z ∈ l ↔ z ∈ m) : ordT l = ordT m := ordT_eq (ordT_asc l) fun z => mem_ordT.trans (h z)
theorem sortT_nodup {l : List (List Nat)} (h : l.Nodup) : AscT (sortT l) := (sortT_pw l).and ((sortT_perm l).nodup_iff.2 h)
theorem sorted_pairs (l : List (List Nat)) : (l.map pD).mergeSort (dataLe false id) = (sortT l).map pD := (List.map_mergeSort (f := pD) (r := leT) (s := dataLe false id) fun a _ b _ => rfl).symm
theorem pD_alike (l : List (List Nat)) : AllAlike (l.map pD) := fun d hd d' hd' => by
  obtain ⟨x, _, rfl⟩ := List.mem_map.1 hd
  obtain ⟨y, _, rfl⟩ := List.mem_map.1 hd'
  unfold pD
  simp [alike, PySem.W.alikeAll]
theorem pD_sortable (l : List (List Nat)) : Sortable (l.map pD) := .inl fun d hd => by
  obtain ⟨x, _, rfl⟩ := List.mem_map.1 hd
  exact ⟨_, _, rfl⟩
theorem len_adjI (l : List (List Nat)) : ∀ i, (adjI l i).length ≤ i
  | 0 => Nat.le_refl _
  | i + 1 => by
    have := len_adjI l i
    unfold adjI
    split
    · rw [List.length_append]
      have : (l[i]?).toList.length ≤ 1 := by cases l[i]? <;> simp
      omega
    · omega
theorem len_ordT (l : List (List Nat)) : (ordT l).length ≤ l.length := Nat.le_trans (len_adjI _ _) (Nat.le_of_eq (sortT_perm l).length_eq)
/-! ### rules -/
section
variable {K : PySem.W.Frag} {D0 : Hp} {R : Res} {l : List (V × PyData)} {σ : L2.St} {D : Ends} {Q : VK} {T : Hp → Prop}
def kEnum (K : PySem.W.Frag) (vs : List V) (H1 : Hp) (Rr : It → Hp → Prop) : Prop := ∃ a xs, vs = [.ref a] ∧ SqL K H1 a xs ∧ Rr (Ite K a) H1
theorem d_iEnum {ta : TA} {Rr : It → Hp → Prop} (k : RD K D0 R l (fun H => ta σ H fun vs H1 => kEnum K vs H1 Rr)) : RD K D0 R l (fun H => iEnum K ta σ H Rr) := k
/-- enumerate of a list, in a comprehension that leaves the rest -/
theorem d_lcEnum1 {v : V} {ds : List PyData} {g : TG} {tt : TT} {te : TE} {vs : List Nat} (hv : InL l v (.list ds)) (Pd : Nat → List PyData → Prop) (h0 : Pd 0 [])
    (hs : ∀ (i : Nat) d x y Dd es, ds[i]? = some d → Dv x d → Pd i es → RD K D0 (star (own K Dd es) R) ((y, .tuple [.int i, d]) :: l) (fun H => g y (wipe σ vs) H fun σ2 H2 => kWipe σ2 vs σ H2 fun H2 => tt σ2 H2 fun b H3 =>
      if b = true then te σ2 H3 fun y H4 => kItem Dd y H4 (ContC K D0 Dd (Cont1 K D0 R l (Pd (i + 1)))) else ContC K D0 Dd (Cont1 K D0 R l (Pd (i + 1))) H3))
    (hd : ∀ v es, Pd ds.length es → RD K D0 R ((v, .list es) :: l) (Q v)) :
    RD K D0 R l (fun H => kEnum K [v] H fun J H1 => LcK g tt te vs σ Q J H1) := fun N H A => by
  obtain ⟨a, xs, rfl, ha, hd0⟩ := (A.dt hv).list
  have hl : ∀ {D es N' H'}, At K D0 (star (own K D es) R) l N' H' → ∃ xs', SqL K H' a xs' ∧ DtAll K (off H' N') xs' ds := fun {D es N' H'} A' => by
    obtain ⟨a', xs', e, h', d'⟩ := (A'.dt hv).list
    cases e
    exact ⟨xs', SqL.of (off_same a _ h'), d'⟩
  refine ⟨a, xs, rfl, SqL.of (off_same a _ ha), fun D hD => ⟨fun i m H => m = ds.length - i ∧ i ≤ ds.length ∧ ContC K D0 D (Cont1 K D0 R l (Pd i)) H, ⟨_, rfl, Nat.zero_le _, R, l, [], _, ⟨rfl, rfl, h0⟩, A.newOwn hD .nil⟩, ?_⟩⟩
  rintro i m H' ⟨rfl, hi, R', l', es, N', ⟨e1, e2, p⟩, A'⟩
  subst e1 e2
  obtain ⟨xs', hq, d'⟩ := hl A'
  by_cases hlt : i < ds.length
  · have hx : i < xs'.length := by rw [d'.len]; exact hlt
    refine .inr ⟨⟨xs', xs'[i], hq, by simp [hx]⟩, ContC K D0 D (Cont1 K D0 R' l' (Pd (i + 1))), fun H2 p => ⟨ds.length - (i + 1), by omega, rfl, hlt, p⟩, ?_⟩
    rintro y H2 ⟨T, x, rfl, hT, rfl, hy⟩
    obtain ⟨d, e1, e2⟩ := d'.get (hy xs' hq)
    obtain ⟨A2, e⟩ := (A'.facts e2).new (.tup [.int (i : Nat), x]) hT
    have f : Dt K (off (upd H' T (.tup [.int (i : Nat), x])) N') (.ref T) (.tuple [.int (i : Nat), d]) := .tup (.inl (.inl e)) (.cons (.int _) (.cons (A2.dt (.mem List.mem_cons_self)) .nil))
    refine hs i d x (.ref T) D es e1 e2.dv p N' _ ((A2.weak (l' := l') fun p hp => .mem (List.mem_cons_of_mem _ hp)).facts f)
  · have e : i = ds.length := by omega
    subst e
    obtain ⟨N2, A2⟩ := A'.freeze
    exact .inl ⟨⟨xs', hq, by rw [d'.len]; exact Nat.le_refl _⟩, hd (.ref D) es p N2 H' A2⟩
end
end GL

/-! N5: the first log, by levels. -/
namespace GL
open PySem PySem.Spec L2
open SX (S)
abbrev Ent := List Nat × List Int
def addE (acc : List Ent × List (List Int)) (t : Ent) : List Ent × List (List Int) := if t.2 ∈ acc.2 then acc else (acc.1 ++ [t], acc.2 ++ [t.2])
def charsOf (m : Mch) : List Nat := ([97, 98, 99] : List Nat).take m.k
def longE (m : Mch) (L : List Ent) : List Ent := L.flatMap fun e => (charsOf m).map fun c => (e.1 ++ [c], stepI m.es e.2 c)
def nextE (m : Mch) (L : List Ent) (ss : List (List Int)) : List Ent × List (List Int) := (longE m L).foldl addE ([], ss)
theorem leT_refl (x : List Nat) : leT x x = true := by
  have := leT_total x x
  simpa using this
theorem add_ok : ∀ (T : List Ent) (o : List Ent) (s : List (List Int)), s.Nodup → (T.Pairwise fun x y => leT x.1 y.1 = true) →
    ∃ o', T.foldl addE (o, s) = (o ++ o', s ++ o'.map (·.2)) ∧ o'.Sublist T ∧ (∀ t ∈ T, t.2 ∈ s ++ o'.map (·.2)) ∧ (∀ x ∈ o', x.2 ∉ s) ∧ (∀ x ∈ o', ∀ t ∈ T, t.2 = x.2 → leT x.1 t.1 = true) ∧ (s ++ o'.map (·.2)).Nodup
  | [], o, s, nd, _ => ⟨[], by simp, List.Sublist.refl _, fun t h => absurd h List.not_mem_nil, fun t h => absurd h List.not_mem_nil, fun t h => absurd h List.not_mem_nil, by simpa using nd⟩
  | t :: T, o, s, nd, pw => by
    obtain ⟨p1, p2⟩ := List.pairwise_cons.1 pw
    rw [List.foldl_cons]
    by_cases h : t.2 ∈ s
    · rw [show addE (o, s) t = (o, s) from if_pos h]
      obtain ⟨o', e, sub, a1, a2, a3, a4⟩ := add_ok T o s nd p2
      refine ⟨o', e, sub.cons _, fun u hu => ?_, a2, fun x hx u hu q => ?_, a4⟩
      · rcases List.mem_cons.1 hu with rfl | hu
        · exact List.mem_append_left _ h
        · exact a1 u hu
      · rcases List.mem_cons.1 hu with rfl | hu
        · exact absurd (q ▸ h) (a2 x hx)
        · exact a3 x hx u hu q
    · rw [show addE (o, s) t = (o ++ [t], s ++ [t.2]) from if_neg h]
      have nd2 : (s ++ [t.2]).Nodup := by
        rw [List.nodup_append]
        refine ⟨nd, by simp, fun a ha b hb => ?_⟩
        obtain rfl := List.mem_singleton.1 hb
        exact fun z => h (z ▸ ha)
      obtain ⟨o', e, sub, a1, a2, a3, a4⟩ := add_ok T (o ++ [t]) (s ++ [t.2]) nd2 p2
      have e1 : s ++ (t :: o').map (·.2) = s ++ [t.2] ++ o'.map (·.2) := by simp
      refine ⟨t :: o', ?_, sub.cons_cons _, fun u hu => ?_, fun x hx => ?_, fun x hx u hu q => ?_, ?_⟩
      · rw [e, e1]
        simp
      · rw [e1]
        rcases List.mem_cons.1 hu with rfl | hu
        · exact List.mem_append_left _ (List.mem_append_right _ (List.mem_singleton.2 rfl))
        · exact a1 u hu
      · rcases List.mem_cons.1 hx with rfl | hx
        · exact h
        · exact fun z => a2 x hx (List.mem_append_left _ z)
      · rcases List.mem_cons.1 hx with rfl | hx2
        · rcases List.mem_cons.1 hu with rfl | hu2
          · exact leT_refl _
          · exact p1 u hu2
        · rcases List.mem_cons.1 hu with rfl | hu2
          · exact absurd (List.mem_append_right _ (List.mem_singleton.2 q.symm)) (a2 x hx2)
          · exact a3 x hx2 u hu2 q
      · rw [e1]
        exact a4
/-! ### strings one longer -/
theorem lex_snoc : ∀ {x y : List Nat} (c d : Nat), x.length = y.length → x < y → x ++ [c] < y ++ [d]
  | [], [], _, _, _, h => absurd h (List.lt_irrefl _)
  | [], _ :: _, _, _, h, _ => by simp at h
  | _ :: _, [], _, _, h, _ => by simp at h
  | a :: x, b :: y, c, d, hl, h => by
    rw [List.cons_append, List.cons_append, List.cons_lt_cons_iff]
    rcases List.cons_lt_cons_iff.1 h with h | ⟨h1, h2⟩
    · exact .inl h
    · exact .inr ⟨h1, lex_snoc c d (by simpa using hl) h2⟩
theorem lex_last : ∀ (x : List Nat) {c d : Nat}, c < d → x ++ [c] < x ++ [d]
  | [], _, _, h => List.cons_lt_cons_iff.2 (.inl h)
  | a :: x, _, _, h => by
    rw [List.cons_append, List.cons_append, List.cons_lt_cons_iff]
    exact .inr ⟨rfl, lex_last x h⟩
theorem leT_snoc {x y : List Nat} {c d : Nat} (hl : x.length = y.length) (h : (leT x y = true ∧ x ≠ y) ∨ (x = y ∧ c < d)) : leT (x ++ [c]) (y ++ [d]) = true ∧ x ++ [c] ≠ y ++ [d] := by
  have lt : x ++ [c] < y ++ [d] := by
    rcases h with ⟨h, ne⟩ | ⟨rfl, h⟩
    · rw [leT_iff] at h
      rcases h with h | ⟨_, h⟩
      · omega
      · rcases List.le_iff_lt_or_eq.1 h with h | h
        · exact lex_snoc c d hl h
        · exact absurd h ne
    · exact lex_last x h
  refine ⟨(leT_iff _ _).2 (.inr ⟨by simp [hl], List.le_of_lt lt⟩), fun z => ?_⟩
  rw [z] at lt
  exact List.lt_irrefl _ lt
theorem leT_snoc' {x y : List Nat} {c d : Nat} (hl : x.length = y.length) (h : leT x y = true) (hc : x ≠ y ∨ c ≤ d) : leT (x ++ [c]) (y ++ [d]) = true := by
  by_cases e : x = y
  · subst e
    rcases Nat.lt_or_ge c d with q | q
    · exact (leT_snoc hl (.inr ⟨rfl, q⟩)).1
    · have : c = d := by
        rcases hc with hc | hc
        · exact absurd rfl hc
        · omega
      subst this
      exact leT_refl _
  · exact (leT_snoc hl (.inl ⟨h, e⟩)).1
theorem chars_asc (m : Mch) : (charsOf m).Pairwise (· < ·) := List.Pairwise.sublist (List.take_sublist _ _) (by decide)
theorem after_snoc (m : Mch) (w : List Nat) (c : Nat) : afterI m (w ++ [c]) = stepI m.es (afterI m w) c := by
  unfold afterI walkI
  rw [List.foldl_append]
  rfl
def Valid (m : Mch) (w : List Nat) : Prop := ∀ c ∈ w, c ∈ charsOf m
def holds (m : Mch) (s : List Int) : Bool := s.any fun i => decide (i ∈ m.en)
theorem hasI_holds (m : Mch) (w : List Nat) : hasI m w = holds m (afterI m w) := rfl
structure BInv (m : Mch) (d : Nat) (L : List Ent) (ss O : List (List Int)) : Prop where
  nd : ss.Nodup
  all : ∀ s ∈ ss, s ∈ O ∨ ∃ e ∈ L, e.2 = s
  into : ∀ e ∈ L, e.2 ∈ ss
  osub : ∀ s ∈ O, s ∈ ss
  dead : ∀ s ∈ O, holds m s = false
  clos : ∀ s ∈ O, ∀ c ∈ charsOf m, stepI m.es s c ∈ ss
  ent : ∀ e ∈ L, e.2 = afterI m e.1 ∧ e.1.length = d ∧ Valid m e.1
  asc : L.Pairwise fun x y => leT x.1 y.1 = true ∧ x.1 ≠ y.1
  low : ∀ w, Valid m w → w.length ≤ d → afterI m w ∈ ss
  min : ∀ e ∈ L, ∀ w, Valid m w → afterI m w = e.2 → leT e.1 w = true
  shape : ∀ s ∈ ss, ∃ w, s = afterI m w
  lnd : (L.map (·.2)).Nodup
theorem long_asc {m : Mch} {d : Nat} {L : List Ent} (ent : ∀ e ∈ L, e.1.length = d) (asc : L.Pairwise fun x y => leT x.1 y.1 = true ∧ x.1 ≠ y.1) : (longE m L).Pairwise fun x y => leT x.1 y.1 = true ∧ x.1 ≠ y.1 := by
  unfold longE
  rw [List.pairwise_flatMap]
  refine ⟨fun e _ => ?_, List.Pairwise.imp_of_mem (fun {x y} hx hy h a ha b hb => ?_) asc⟩
  · rw [List.pairwise_map]
    exact (chars_asc m).imp fun {c d} h => leT_snoc rfl (.inr ⟨rfl, h⟩)
  · obtain ⟨c, _, rfl⟩ := List.mem_map.1 ha
    obtain ⟨c', _, rfl⟩ := List.mem_map.1 hb
    exact leT_snoc ((ent x hx).trans (ent y hy).symm) (.inl h)
theorem b_step {m : Mch} {d : Nat} {L : List Ent} {ss O : List (List Int)} (B : BInv m d L ss O) (no : ∀ e ∈ L, holds m e.2 = false) : BInv m (d + 1) (nextE m L ss).1 (nextE m L ss).2 ss ∧ (nextE m L ss).2 = ss ++ (nextE m L ss).1.map (·.2) := by
  have tasc := long_asc (m := m) (fun e he => (B.ent e he).2.1) B.asc
  obtain ⟨o', e, sub, a1, a2, a3, a4⟩ := add_ok (longE m L) [] ss B.nd (tasc.imp fun h => h.1)
  have e' : nextE m L ss = (o', ss ++ o'.map (·.2)) := e
  rw [e']
  have oin : ∀ x ∈ o', ∃ y ∈ L, ∃ c ∈ charsOf m, x = (y.1 ++ [c], stepI m.es y.2 c) := fun x hx => by
    obtain ⟨y, hy, hx2⟩ := List.mem_flatMap.1 (sub.subset hx)
    obtain ⟨c, hc, rfl⟩ := List.mem_map.1 hx2
    exact ⟨y, hy, c, hc, rfl⟩
  have tin : ∀ y ∈ L, ∀ c ∈ charsOf m, (y.1 ++ [c], stepI m.es y.2 c) ∈ longE m L := fun y hy c hc => List.mem_flatMap.2 ⟨y, hy, List.mem_map.2 ⟨c, hc, rfl⟩⟩
  have clos : ∀ s ∈ ss, ∀ c ∈ charsOf m, stepI m.es s c ∈ ss ++ o'.map (·.2) := fun s hs c hc => by
    rcases B.all s hs with h | ⟨y, hy, rfl⟩
    · exact List.mem_append_left _ (B.clos s h c hc)
    · exact a1 _ (tin y hy c hc)
  have oent : ∀ x ∈ o', x.2 = afterI m x.1 ∧ x.1.length = d + 1 ∧ Valid m x.1 := fun x hx => by
    obtain ⟨y, hy, c, hc, rfl⟩ := oin x hx
    obtain ⟨b1, b2, b3⟩ := B.ent y hy
    refine ⟨by rw [after_snoc, b1], by simp [b2], fun z hz => ?_⟩
    rcases List.mem_append.1 hz with hz | hz
    · exact b3 z hz
    · obtain rfl := List.mem_singleton.1 hz
      exact hc
  have snoc : ∀ w : List Nat, w.length = d + 1 → ∃ v c, w = v ++ [c] ∧ v.length = d := fun w hw => by
    have ne : w ≠ [] := fun z => by
      rw [z] at hw
      cases hw
    refine ⟨w.dropLast, w.getLast ne, (List.dropLast_concat_getLast ne).symm, by rw [List.length_dropLast, hw]; rfl⟩
  refine ⟨{ nd := a4, all := fun s hs => ?_, into := fun x hx => ?_, osub := fun s hs => List.mem_append_left _ hs, dead := fun s hs => ?_, clos := clos, ent := oent, asc := tasc.sublist sub, low := fun w hw hl => ?_, min := fun x hx w hw hwe => ?_, shape := fun s hs => ?_, lnd := (List.nodup_append.1 a4).2.1 }, rfl⟩
  · rcases List.mem_append.1 hs with h | h
    · exact .inl h
    · obtain ⟨x, hx, rfl⟩ := List.mem_map.1 h
      exact .inr ⟨x, hx, rfl⟩
  · exact List.mem_append_right _ (List.mem_map.2 ⟨x, hx, rfl⟩)
  · rcases B.all s hs with h | ⟨y, hy, rfl⟩
    · exact B.dead s h
    · exact no y hy
  · rcases Nat.lt_or_ge w.length (d + 1) with h | h
    · exact List.mem_append_left _ (B.low w hw (by omega))
    · obtain ⟨v, c, rfl, hv⟩ := snoc w (by omega)
      rw [after_snoc]
      exact clos _ (B.low v (fun z hz => hw z (List.mem_append_left _ hz)) (by omega)) c (hw c (List.mem_append_right _ (List.mem_singleton.2 rfl)))
  · have fresh := a2 x hx
    obtain ⟨_, lx, _⟩ := oent x hx
    rcases Nat.lt_trichotomy w.length (d + 1) with h | h | h
    · exact absurd (hwe ▸ B.low w hw (by omega)) fresh
    · obtain ⟨v, c, rfl, hv⟩ := snoc w h
      rw [after_snoc] at hwe
      have vv : Valid m v := fun z hz => hw z (List.mem_append_left _ hz)
      have vc : c ∈ charsOf m := hw c (List.mem_append_right _ (List.mem_singleton.2 rfl))
      rcases B.all _ (B.low v vv (by omega)) with q | ⟨y, hy, q⟩
      · exact absurd (hwe ▸ B.clos _ q c vc) fresh
      · have l1 : leT x.1 (y.1 ++ [c]) = true := a3 x hx _ (tin y hy c vc) (by show stepI m.es y.2 c = _; rw [q, hwe])
        have l2 : leT (y.1 ++ [c]) (v ++ [c]) = true := leT_snoc' ((B.ent y hy).2.1.trans hv.symm) (B.min y hy v vv q.symm) (.inr (Nat.le_refl _))
        exact leT_trans _ _ _ l1 l2
    · exact (leT_iff _ _).2 (.inl (by omega))
  · rcases List.mem_append.1 hs with h | h
    · exact B.shape s h
    · obtain ⟨x, hx, rfl⟩ := List.mem_map.1 h
      exact ⟨_, (oent x hx).1⟩
theorem b_start (m : Mch) : BInv m 0 [([], sortI m.st)] [sortI m.st] [] where
  nd := by simp
  all := fun s hs => .inr ⟨_, List.mem_singleton.2 rfl, (List.mem_singleton.1 hs).symm⟩
  into := fun e he => by
    obtain rfl := List.mem_singleton.1 he
    exact List.mem_singleton.2 rfl
  osub := fun s hs => absurd hs List.not_mem_nil
  dead := fun s hs => absurd hs List.not_mem_nil
  clos := fun s hs => absurd hs List.not_mem_nil
  ent := fun e he => by
    obtain rfl := List.mem_singleton.1 he
    exact ⟨rfl, rfl, fun c hc => absurd hc List.not_mem_nil⟩
  asc := List.pairwise_singleton _ _
  low := fun w hw hl => by
    have : w = [] := List.length_eq_zero_iff.1 (by omega)
    subst this
    exact List.mem_singleton.2 rfl
  min := fun e he w hw _ => by
    obtain rfl := List.mem_singleton.1 he
    rw [leT_iff]
    cases w with
    | nil => exact .inr ⟨rfl, List.le_refl _⟩
    | cons c w => exact .inl (Nat.succ_pos _)
  shape := fun s hs => by
    obtain rfl := List.mem_singleton.1 hs
    exact ⟨[], rfl⟩
  lnd := by simp
/-- r is the first log -/
def IsFirst (m : Mch) : Option (List Nat) → Prop
  | none => ∀ w, Valid m w → hasI m w = false
  | some u => Valid m u ∧ hasI m u = true ∧ ∀ w, Valid m w → hasI m w = true → leT u w = true
theorem b_none {m : Mch} {d : Nat} {ss O : List (List Int)} (B : BInv m d [] ss O) : IsFirst m none := fun w hw => by
  have key : ∀ (n : Nat) (w : List Nat), w.length = n → Valid m w → afterI m w ∈ O := by
    intro n
    induction n with
    | zero =>
      intro w hl hw
      rcases B.all _ (B.low w hw (by omega)) with h | ⟨e, he, _⟩
      · exact h
      · exact absurd he List.not_mem_nil
    | succ n ih =>
      intro w hl hw
      have ne : w ≠ [] := fun z => by
        rw [z] at hl
        cases hl
      have es : w = w.dropLast ++ [w.getLast ne] := (List.dropLast_concat_getLast ne).symm
      rw [es] at hw ⊢
      rw [after_snoc]
      have h1 := ih w.dropLast (by rw [List.length_dropLast, hl]; rfl) fun z hz => hw z (List.mem_append_left _ hz)
      rcases B.all _ (B.clos _ h1 _ (hw _ (List.mem_append_right _ (List.mem_singleton.2 rfl)))) with h | ⟨e, he, _⟩
      · exact h
      · exact absurd he List.not_mem_nil
  rw [hasI_holds]
  exact B.dead _ (key _ w rfl hw)
theorem b_some {m : Mch} {d : Nat} {L : List Ent} {ss O : List (List Int)} (B : BInv m d L ss O) {i : Nat} {e : Ent} (hi : L[i]? = some e) (he : holds m e.2 = true) (no : ∀ j < i, ∀ e', L[j]? = some e' → holds m e'.2 = false) : IsFirst m (some e.1) := by
  have em := List.mem_of_getElem? hi
  obtain ⟨b1, b2, b3⟩ := B.ent e em
  refine ⟨b3, by rw [hasI_holds, ← b1]; exact he, fun w hw hl => ?_⟩
  rw [hasI_holds] at hl
  rcases Nat.lt_or_ge d w.length with h | h
  · exact (leT_iff _ _).2 (.inl (by omega))
  · rcases B.all _ (B.low w hw h) with q | ⟨y, hy, q⟩
    · rw [B.dead _ q] at hl
      cases hl
    · have l2 := B.min y hy w hw q.symm
      obtain ⟨j, hj, ey⟩ := List.getElem_of_mem hy
      obtain ⟨ilt, ei⟩ := List.getElem?_eq_some_iff.1 hi
      rcases Nat.lt_trichotomy j i with c | c | c
      · have := no j c y (by rw [List.getElem?_eq_getElem hj, ey])
        rw [q, hl] at this
        cases this
      · subst c
        rw [ei] at ey
        rw [ey]
        exact l2
      · have l1 := (List.pairwise_iff_getElem.1 B.asc i j ilt hj c).1
        rw [ei, ey] at l1
        exact leT_trans _ _ _ l1 l2
theorem first_one {m : Mch} {r r' : Option (List Nat)} (h : IsFirst m r) (h' : IsFirst m r') : r = r' := by
  cases r with
  | none =>
    cases r' with
    | none => rfl
    | some u =>
      have := h u h'.1
      rw [h'.2.1] at this
      cases this
  | some u =>
    cases r' with
    | none =>
      have := h' u h.1
      rw [h.2.1] at this
      cases this
    | some u' => exact congrArg some (leT_anti (h.2.2 u' h'.1 h'.2.1) (h'.2.2 u h.1 h.2.1))
theorem shape_len {m : Mch} (mo : MOk m) {ss : List (List Int)} (nd : ss.Nodup) (sh : ∀ s ∈ ss, ∃ w, s = afterI m w) : ss.length ≤ 64 := by
  have two : ∀ b : Bool, b ∈ [false, true] := fun b => by cases b <;> simp
  have all : ∀ s ∈ ss, s ∈ [false, true].flatMap fun b0 => [false, true].flatMap fun b1 => [false, true].flatMap fun b2 => [false, true].flatMap fun b3 => [false, true].flatMap fun b4 => [false, true].map fun b5 => pick6 b0 b1 b2 b3 b4 b5 := fun s hs => by
    obtain ⟨w, rfl⟩ := sh s hs
    have rg : ∀ x ∈ afterI m w, 0 ≤ x ∧ x < 6 := fun x hx => by
      obtain ⟨a, ha, p⟩ := mem_walkI.1 hx
      have n6 := mo.n6
      have rg : ∀ {a b : Int} {cs : List Nat}, Path m.es a cs b → (0 ≤ a ∧ a < m.n) → 0 ≤ b ∧ b < m.n := fun p => by
        induction p with
        | nil => exact id
        | cons h1 _ ih => exact fun _ => ih (mo.ed _ h1).2.2
      have := rg p (mo.st a (mem_sortI.1 ha))
      omega
    obtain ⟨b0, b1, b2, b3, b4, b5, e⟩ := asc_pick (walkI_asc (asc_sortI _)) rg
    rw [show afterI m w = pick6 b0 b1 b2 b3 b4 b5 from e]
    exact List.mem_flatMap.2 ⟨b0, two b0, List.mem_flatMap.2 ⟨b1, two b1, List.mem_flatMap.2 ⟨b2, two b2, List.mem_flatMap.2 ⟨b3, two b3, List.mem_flatMap.2 ⟨b4, two b4, List.mem_map.2 ⟨b5, two b5, rfl⟩⟩⟩⟩⟩⟩
  exact Nat.le_trans (nodup_len nd all) (by decide)
/-! ### a short log -/
/-- a way with the states that it meets -/
inductive Trace (es : List Edge) : Int → List Nat → List Int → Int → Prop
  | nil (a : Int) : Trace es a [] [a] a
  | cons {a b d : Int} {c : Nat} {cs : List Nat} {vs : List Int} (h : (a, c, b) ∈ es) (t : Trace es b cs vs d) : Trace es a (c :: cs) (a :: vs) d
theorem Trace.path {es : List Edge} {a d : Int} {cs : List Nat} {vs : List Int} (t : Trace es a cs vs d) : Path es a cs d := by
  induction t with
  | nil a => exact .nil a
  | cons h _ ih => exact .cons h ih
theorem Trace.len {es : List Edge} {a d : Int} {cs : List Nat} {vs : List Int} (t : Trace es a cs vs d) : vs.length = cs.length + 1 := by
  induction t with
  | nil a => rfl
  | cons h _ ih => rw [List.length_cons, ih, List.length_cons]
theorem Trace.cut {es : List Edge} {a d x : Int} {cs : List Nat} {vs : List Int} (t : Trace es a cs vs d) (hx : x ∈ vs) : ∃ cs' vs', Trace es x cs' vs' d ∧ vs'.Sublist vs := by
  induction t with
  | nil a =>
    obtain rfl := List.mem_singleton.1 hx
    exact ⟨[], _, .nil _, List.Sublist.refl _⟩
  | cons h t ih =>
    rcases List.mem_cons.1 hx with rfl | hx
    · exact ⟨_, _, .cons h t, List.Sublist.refl _⟩
    · obtain ⟨cs', vs', t', s⟩ := ih hx
      exact ⟨cs', vs', t', s.cons _⟩
theorem simple_way {es : List Edge} {a d : Int} {cs : List Nat} (p : Path es a cs d) : ∃ cs' vs', Trace es a cs' vs' d ∧ vs'.Nodup := by
  induction p with
  | nil a => exact ⟨[], [a], .nil a, by simp⟩
  | @cons a b d c cs h t ih =>
    obtain ⟨cs', vs', t', nd⟩ := ih
    by_cases ha : a ∈ vs'
    · obtain ⟨cs2, vs2, t2, s⟩ := t'.cut ha
      exact ⟨cs2, vs2, t2, nd.sublist s⟩
    · exact ⟨c :: cs', a :: vs', .cons h t', List.nodup_cons.2 ⟨ha, nd⟩⟩
theorem trace_in {m : Mch} (mo : MOk m) {a d : Int} {cs : List Nat} {vs : List Int} (t : Trace m.es a cs vs d) : (0 ≤ a ∧ a < m.n) → (∀ v ∈ vs, 0 ≤ v ∧ v < m.n) ∧ Valid m cs := by
  induction t with
  | nil a => exact fun h => ⟨fun v hv => by rw [List.mem_singleton.1 hv]; exact h, fun c hc => absurd hc List.not_mem_nil⟩
  | cons h t ih =>
    intro ha
    obtain ⟨e1, e2, e3⟩ := mo.ed _ h
    obtain ⟨i1, i2⟩ := ih e3
    refine ⟨fun v hv => ?_, fun c hc => ?_⟩
    · rcases List.mem_cons.1 hv with rfl | hv
      · exact ha
      · exact i1 v hv
    · rcases List.mem_cons.1 hc with rfl | hc
      · exact e2
      · exact i2 c hc
theorem range_ints {vs : List Int} {n : Nat} (nd : vs.Nodup) (h : ∀ v ∈ vs, 0 ≤ v ∧ v < n) : vs.length ≤ n := by
  have := nodup_len (xs := vs) (ys := (List.range n).map fun i : Nat => (i : Int)) nd fun v hv => by
    obtain ⟨h0, h1⟩ := h v hv
    obtain ⟨k, rfl⟩ := Int.eq_ofNat_of_zero_le h0
    exact List.mem_map.2 ⟨k, List.mem_range.2 (by omega), rfl⟩
  simpa using this
theorem first_short {m : Mch} (mo : MOk m) {u : List Nat} (h : IsFirst m (some u)) : u.length + 1 ≤ m.n := by
  obtain ⟨a, ha, b, hb, p⟩ := hasI_iff.1 h.2.1
  obtain ⟨cs, vs, t, nd⟩ := simple_way p
  obtain ⟨r1, r2⟩ := trace_in mo t (mo.st a ha)
  have l1 := range_ints nd r1
  rw [t.len] at l1
  have := h.2.2 cs r2 (hasI_iff.2 ⟨a, ha, b, hb, t.path⟩)
  rw [leT_iff] at this
  rcases this with q | ⟨q, _⟩ <;> omega
end GL

/-! G30: {k: v} with a tuple as the key. -/
namespace GL
open PySem PySem.Spec L2
open PyProof.Rows hiding St
/-- a new dict with one entry, its key a tuple -/
def onePair (p : Addr) (Q : VK) : List (V × V) → Hp → Prop
  | [(x, y)], H2 => ∃ (b : Addr) (k : List Key), x = .ref b ∧ H2 p = some (.dT []) ∧ H2 b = some (.tup (k.map kV)) ∧ Q (.ref p) (upd H2 p (.dT [(k, y)]))
  | _, _ => False
def tDOneT (tk tv : TE) : TE := fun σ H Q => ∀ p, H p = none → tk σ (upd H p (.dT [])) fun x H1 => tv σ H1 fun y H2 => onePair p Q [(x, y)] H2
theorem pe_dOneT {X : Cx} {pos : Pos} {k v : Expr} {tk tv : TE} (hu : X.A.units + 64 < cLine) (hk : PE X k tk) (hv : PE X v tv) : PE X (.Dict [some k] [v] pos) (tDOneT tk tv) := by
  refine ⟨fun pins s σ H Q I q => ?_⟩
  have hn := I.hok.fresh (Nat.le_refl s.heap.objs.size)
  have I1 := I.laid (a := s.heap.objs.size) (o := .dT []) (h' := s.heap.push { cls := .type "dict", data := .dict #[] }) (t' := s.toks) (fun _ _ q => Heap.get?_push_of_some _ q) (Nat.le_refl _) (dt_empty s.heap I.big)
  rw [arm_eval_Dict, zip_pairTrees [some k] [v] X.env pos rfl rfl, dictDisplay_pairs (pairTrees [some k] [v] X.env pos) (fun z => nomatch z) (by show 1 < 17; omega)]
  refine wpAny_bind (wpAny_standAt (wpAny_bind (wpAny_subDictH (knd := tupleKind (mixKind X.prog X.w)) (Q := fun d s' => wpAny (model X.prog X.w) X.A (pure (Value.ref d)) (EP X pins σ Q) X.xe s') (by show X.A.units < cLine; omega) (by show 1 ≤ 15; omega) ?_)))
  refine thn ((pps_cons hk hv pps_nil).run pins _ σ _ (onePair s.heap.objs.size Q) I1 ?_) ?_
  · exact q _ hn
  · rintro ws s2 ⟨ps, H2, I2, rel, one⟩
    cases rel with
    | nil => exact one.elim
    | cons h t =>
      rename_i xy _ _ _
      cases t with
      | cons _ _ => exact one.elim
      | nil =>
      obtain ⟨x, y⟩ := xy
      obtain ⟨b, ks, rfl, hp, hb, qq⟩ := (show ∃ (b : Addr) (k : List Key), x = .ref b ∧ H2 s.heap.objs.size = some (.dT []) ∧ H2 b = some (.tup (k.map kV)) ∧ Q (.ref s.heap.objs.size) (upd H2 s.heap.objs.size (.dT [(k, y)])) from one)
      rename_i ur
      obtain ⟨u, r⟩ := ur
      obtain ⟨ru, rr⟩ := h
      obtain rfl : u = Value.ref b := ru
      obtain ⟨hz, hsys, xs, rel0, dd⟩ := dt_of I2.hok hp
      cases rel0
      have key := key_of I2.hok hb
      refine ⟨[(ks, b, r)], ⟨rfl, rfl, key, True.intro⟩, dd, fun h' tk' dd' hs => ?_⟩
      apply wpAny_pure
      obtain ⟨o', es', ep', e1, e2, e3, e4, e5, e6⟩ := dd'
      have new : ObjOk X.prog X.w (upd H2 s.heap.objs.size (.dT [(ks, y)])) h' s.heap.objs.size (.dT [(ks, y)]) := by
        refine ⟨by show 1 ≤ sizeLine; decide, hsys, [(ks, b, r)], .cons ⟨rfl, ?_, rr⟩ .nil, o', es', ep', e1, e2, e3, e4, e6⟩
        have ne : b ≠ s.heap.objs.size := fun z => by
          rw [z, hp] at hb
          cases hb
        show upd H2 s.heap.objs.size _ b = _
        rw [upd_ne ne]
        exact hb
      exact ⟨.ref s.heap.objs.size, _, d_write I2 (by rw [hp]; exact True.intro) hs ⟨o', e1⟩ new, rfl, qq⟩
section
variable {K : PySem.W.Frag} {D0 : Hp} {R : Res} {l : List (V × PyData)} {σ : L2.St} {Q : VK}
theorem d_dOneT {tk tv : TE} (k : ∀ p, RD K D0 (star (objs [(p, .dT [])]) R) l (fun H => tk σ H fun x H1 => tv σ H1 fun y H2 => onePair p Q [(x, y)] H2)) : RD K D0 R l (fun H => tDOneT tk tv σ H Q) := fun N H A p hp => k p _ _ (A.nilO.newOb (fun _ z => by cases z) hp)
theorem d_onePair {p b : Addr} {ks : List Key} {y : V} (hb : D0 b = some (.tup (ks.map kV))) (k : RD K D0 (star (objs [(p, .dT [(ks, y)])]) R) l (Q (.ref p))) : RD K D0 (star (objs [(p, .dT [])]) R) l (fun H => onePair p Q [(.ref b, y)] H) := fun N H A => by
  refine ⟨b, ks, rfl, A.ob (List.Mem.head _), A.fixed hb, ?_⟩
  have A' := A.setOb (a := p) (o := .dT [(ks, y)]) (fun _ z => by cases z) (List.Mem.head _)
  have e : putO [(p, .dT [])] p (.dT [(ks, y)]) = [(p, .dT [(ks, y)])] := by simp [putO]
  rw [e] at A'
  exact k N _ A'
end
end GL

/-! M8: the class Machine: first_log. -/
namespace GL
open PySem PySem.Spec L2
open PyProof.Rows hiding St
open SX (S)
local macro_rules | `(tactic| walk_at "mem") => `(tactic| (first | exact List.Mem.head _ | exact List.Mem.tail _ (List.Mem.head _) | exact List.Mem.tail _ (List.Mem.tail _ (List.Mem.head _)) | ((repeat (first | exact List.Mem.head _ | apply List.Mem.tail)); done)))
local macro_rules | `(tactic| walk_at "inl") => `(tactic| (first | exact InL.int _ | exact InL.str _ | exact InL.bl _ | exact InL.non | (refine InL.mem ?zm; walk_at "mem") | assumption))
local macro_rules | `(tactic| walk_at "inls") => `(tactic| (repeat (first | exact InLs.nil | (refine InLs.cons ?zi ?_; case zi => walk_at "inl"))))
local macro_rules | `(tactic| walk_at "set") => `(tactic| (simp only [wipe, List.set_cons_succ, List.set_cons_zero]; rfl))
local macro_rules | `(tactic| walk_at "tails") => `(tactic| (first | exact sub_refl | exact sub_tail sub_refl | exact sub_tail (sub_tail sub_refl) | exact sub_nil | ((repeat (first | exact sub_refl | apply sub_tail)); done)))
local macro_rules | `(tactic| walk_at "sub") => `(tactic| (first | walk_at "tails" | ((repeat (refine sub_cons ?zi ?_; case zi => walk_at "inl")); walk_at "tails")))
local macro_rules | `(tactic| walk_at "g1") => `(tactic| (first
  | with_reducible refine d_seq ?_
  | with_reducible refine d_asg ?_
  | ((with_reducible refine d_name (σ' := ?zs) ?zh ?_); (case zh => walk_at "set"))
  | ((with_reducible refine d_var (v := ?zs) ?zh ?_); (case zh => rfl))
  | with_reducible refine d_C ?_
  | with_reducible refine d_op ?_
  | with_reducible refine d_cons ?_
  | with_reducible refine d_nil ?_
  | with_reducible refine d_cb ?_
  | with_reducible refine d_g ?_
  | with_reducible refine d_ifS ?_
  | with_reducible refine d_test ?_
  | with_reducible refine d_bl ?_
  | with_reducible refine d_addI ?_
  | with_reducible refine d_I0 ?_
  | with_reducible refine d_ret ?_
  | with_reducible refine d_retN ?_
  | with_reducible refine d_next ?_
  | with_reducible refine d_drop ?_
  | with_reducible refine d_and ?_
  | with_reducible refine d_or ?_
  | with_reducible refine d_not ?_
  | with_reducible refine d_andV ?_
  | with_reducible refine d_orV ?_
  | with_reducible refine d_notV ?_
  | with_reducible refine d_tru ?_
  | with_reducible refine d_truB ?_
  | with_reducible refine d_tif ?_
  | with_reducible refine d_iteT ?_
  | with_reducible refine d_iteF ?_
  | with_reducible refine d_iteNT ?_
  | with_reducible refine d_iteNF ?_
  | with_reducible refine d_eqI ?_
  | with_reducible refine d_neI ?_
  | with_reducible refine d_eqS ?_
  | with_reducible refine d_neS ?_
  | with_reducible refine d_eqB ?_
  | with_reducible refine d_neB ?_
  | with_reducible refine d_isN ?_
  | with_reducible refine d_notN ?_
  | with_reducible refine d_bm ?_
  | with_reducible refine d_tyS ?_
  | with_reducible refine d_tyO ?_
  | with_reducible refine d_find3 ?_
  | with_reducible refine d_tup ?_
  | with_reducible refine d_lst ?_
  | with_reducible refine d_for ?_
  | with_reducible refine d_iRng1 ?_
  | with_reducible refine d_gIt ?_
  | with_reducible refine d_lc ?_
  | with_reducible refine d_yes ?_
  | with_reducible refine d_tSl ?_
  | with_reducible refine d_noPart ?_
  | with_reducible refine d_part ?_
  | with_reducible refine d_int ?_
  | ((with_reducible refine d_wipe ?zh ?_); (case zh => rfl))
  | ((with_reducible refine d_aug (v := ?zs) ?zh ?_); (case zh => rfl))
  | with_reducible refine d_ipI ?_
  | ((with_reducible refine d_set (σ' := ?zs) ?zh ?_); (case zh => walk_at "set"))))
local macro_rules | `(tactic| walk_at "go") => `(tactic| (repeat walk_at "g1"))
local macro_rules | `(tactic| walk_at "g1") => `(tactic| (first
  | with_reducible refine d_chain ?_
  | with_reducible refine d_tB ?_
  | with_reducible refine d_tGM ?_
  | with_reducible refine d_tGN ?_
  | with_reducible refine d_rz ?_
  | with_reducible refine d_tXf ?_
  | with_reducible refine d_tFld ?_
  | with_reducible refine d_sFld ?_
  | with_reducible refine d_tMix ?_
  | with_reducible refine d_tDIn ?_
  | with_reducible refine d_tDNotIn ?_
  | with_reducible refine d_sDPut ?_
  | with_reducible refine d_sDDelT ?_
  | with_reducible refine d_tSet ?_
  | with_reducible refine d_gcons ?_
  | with_reducible refine d_gnil ?_
  | with_reducible refine d_iKeys ?_))
def lvD (L : List Ent) : List PyData := L.map fun e => .tuple [.str (S e.1), .tuple (e.2.map .int)]
def sKV (ss : List (List Int)) : List (List Key × V) := ss.map fun s => (s.map Sum.inl, .bl true)
theorem szM {n : Nat} (h : n ≤ 1000) : n < sizeLine := by
  rw [sizeLine_eq]
  omega
theorem inl_inj : ∀ {a b : List Int}, (a.map (Sum.inl : Int → Key)) = b.map Sum.inl → a = b
  | [], [], _ => rfl
  | [], _ :: _, h => by simp at h
  | _ :: _, [], h => by simp at h
  | x :: a, y :: b, h => by
    rw [List.map_cons, List.map_cons] at h
    injection h with h1 h2
    injection h1 with h1
    rw [h1, inl_inj h2]
theorem val_ss (ss : List (List Int)) (s : List Int) : (valV (sKV ss) (s.map Sum.inl)).isSome = decide (s ∈ ss) := by
  induction ss with
  | nil => rfl
  | cons x ss ih =>
    by_cases h : x = s
    · subst h
      rw [show sKV (x :: ss) = (x.map Sum.inl, .bl true) :: sKV ss from rfl, valV_pos rfl]
      simp
    · rw [show sKV (x :: ss) = (x.map Sum.inl, .bl true) :: sKV ss from rfl, valV_neg (fun z => h (inl_inj z)), ih]
      have : ¬ s = x := fun z => h z.symm
      simp [this]
theorem put_ss {ss : List (List Int)} {s : List Int} (h : s ∉ ss) : putK (sKV ss) (s.map Sum.inl) (.bl true) = sKV (ss ++ [s]) := by
  have n : ¬ ((sKV ss).any fun kv => decide (kv.1 = s.map Sum.inl)) = true := fun z => by
    obtain ⟨kv, hk, e2⟩ := List.any_eq_true.1 z
    obtain ⟨x, hx, rfl⟩ := List.mem_map.1 hk
    exact h (inl_inj (of_decide_eq_true e2) ▸ hx)
  unfold putK
  rw [if_neg n]
  simp [sKV]
theorem addE_len : ∀ (T : List Ent) (acc : List Ent × List (List Int)), (T.foldl addE acc).1.length ≤ acc.1.length + T.length ∧ (T.foldl addE acc).2.length ≤ acc.2.length + T.length
  | [], acc => ⟨Nat.le_refl _, Nat.le_refl _⟩
  | t :: T, acc => by
    rw [List.foldl_cons]
    obtain ⟨h1, h2⟩ := addE_len T (addE acc t)
    have h3 : (addE acc t).1.length ≤ acc.1.length + 1 ∧ (addE acc t).2.length ≤ acc.2.length + 1 := by
      unfold addE
      split
      · omega
      · simp
    rw [List.length_cons]
    omega
theorem chars_len (m : Mch) : (charsOf m).length ≤ 3 := by
  unfold charsOf
  rw [List.length_take]
  exact Nat.min_le_right _ _
theorem long_len (m : Mch) : ∀ L : List Ent, (longE m L).length ≤ 3 * L.length
  | [] => Nat.le_refl _
  | e :: L => by
    have ih := long_len m L
    have := chars_len m
    show (((charsOf m).map fun c => (e.1 ++ [c], stepI m.es e.2 c)) ++ longE m L).length ≤ _
    rw [List.length_append, List.length_map, List.length_cons]
    omega
section
variable {K : PySem.W.Frag} {W : WX} {D0 : Hp} {R : Res} {l : List (V × PyData)} {Q : VK} {vs : List V} {H : Hp} {E : XK} {P : Program} {w : World} {σ : L2.St} {D : Ends}
/-! ### while -/
def sp_Machine__next_level (K : PySem.W.Frag) : Sp := fun vs H Q _ => ∃ (a sd : Addr) (m : Mch) (v : V) (L : List Ent) (ss : List (List Int)) (D0 : Hp) (F : Res) (l : List (V × PyData)) (N : Addr → Prop), vs = [.ref a, v, .ref sd] ∧ At K D0 (star (objs [(sd, .dT (sKV ss))]) (star (mach K a m) F)) l N H ∧
  InL l v (.list (lvD L)) ∧ m.es.length ≤ 40 ∧ L.length ≤ 100 ∧ ss.length ≤ 100 ∧ (∀ e ∈ L, e.1.length ≤ 1000) ∧
  ∀ u, RD K D0 (star (objs [(sd, .dT (sKV (nextE m L ss).2))]) (star (mach K a m) F)) ((u, .list (lvD (nextE m L ss).1)) :: l) (Q u)
def t_Machine__next_level (K : PySem.W.Frag) (W : WX) : TS := (tSeq (tAsg (tLst tNil) (gName 3))
  (tSeq (tFor (gIt K (tVar 1)) (gTup K 2 (gCons (gName 4) (gCons (gName 5) gNil))) (tFor (gIt K (tSl (gSl K) (tC (.str "abc")) tNoPart (tPart (tFld K (tVar 0) "signs")))) (gName 6) (tSeq (tAsg (tGM (He.ga K "Machine") "_behind" (sp_Machine__behind K) W (tVar 0) (tCons (tVar 5) (tCons (tVar 6) tNil))) (gName 7))
  (tIfS (tB (tDNotIn (tVar 7) (tVar 2))) (tSeq (sDPut (tVar 2) (tVar 7) (tC (.bl true)))
  (tDrop (tBM K "list" rAppend (tVar 3) (tCons (tTup (tCons (tOp (gAdd K) (tVar 4) (tVar 6)) (tCons (tVar 7) tNil))) tNil)))) tNext))))
  (tRet (tVar 3))))

theorem len_Machine__next_level (h : sp_Machine__next_level K vs H Q E) : vs.length = 3 := by
  obtain ⟨_, _, _, _, _, _, _, _, _, _, rfl, _⟩ := h
  rfl
theorem d_nextLevel {a sd : Addr} {m : Mch} {v : V} {L : List Ent} {ss : List (List Int)} (hv : InL l v (.list (lvD L))) (he : m.es.length ≤ 40) (h1 : L.length ≤ 100) (h2 : ss.length ≤ 100) (h3 : ∀ e ∈ L, e.1.length ≤ 1000)
    (k : ∀ u, RD K D0 (star (objs [(sd, .dT (sKV (nextE m L ss).2))]) (star (mach K a m) R)) ((u, .list (lvD (nextE m L ss).1)) :: l) (Q u)) : RD K D0 (star (objs [(sd, .dT (sKV ss))]) (star (mach K a m) R)) l (fun H => sp_Machine__next_level K [.ref a, v, .ref sd] H Q E) :=
  fun N H A => ⟨a, sd, m, v, L, ss, D0, R, l, N, rfl, A, hv, he, h1, h2, h3, k⟩
theorem pure_Machine__next_level (M : MCls K) (h : sp_Machine__next_level K vs H Q E) : t_Machine__next_level K W { nx := fun _ H' => Q .non H', rt := Q } (start ["self", "level", "seen", "longer", "log", "states", "sign", "behind"] vs) H := by
  obtain ⟨a, sd, m, v, L, ss, D0, F, l, N, rfl, A, hv, he, hL, hS, hl, kk⟩ := h
  refine (?_ : RD K D0 (star (objs [(sd, .dT (sKV ss))]) (star (mach K a m) F)) l (fun H => t_Machine__next_level K W _ [some (.ref a), some v, some (.ref sd), none, none, none, none, none] H)) N H A
  unfold t_Machine__next_level
  walk_at "go"
  refine d_newO (ds := []) (Nat.zero_le _) .nil fun al => ?_
  walk_at "go"
  refine d_forList (v := v) (ds := lvD L) hv (fun i R' σ' l' => R' = star (own K al (lvD ((longE m (L.take i)).foldl addE ([], ss)).1)) (star (objs [(sd, .dT (sKV ((longE m (L.take i)).foldl addE ([], ss)).2))]) (star (mach K a m) F)) ∧
    (∃ x4 x5 x6 x7 : Option V, σ' = [some (.ref a), some v, some (.ref sd), some (.ref al), x4, x5, x6, x7]) ∧ ∀ p ∈ l, InL l' p.1 p.2) (fun i R' σ' l' h => hv.weak h.2.2) ⟨rfl, ⟨none, none, none, none, rfl⟩, sub_refl⟩ ?_ ?_
  · rintro i d x R' σ' l1 hd dv ⟨rfl, ⟨x4, x5, x6, x7, rfl⟩, sub⟩
    unfold lvD at hd
    rw [List.getElem?_map] at hd
    obtain ⟨⟨u, ns⟩, hx, rfl⟩ := Option.map_eq_some_iff.1 hd
    have ul := hl _ (List.mem_of_getElem? hx)
    have nx : longE m (L.take (i + 1)) = longE m (L.take i) ++ (charsOf m).map fun c => (u ++ [c], stepI m.es ns c) := by
      unfold longE
      rw [List.take_succ, hx, List.flatMap_append]
      simp
    have tl : (longE m (L.take i)).length ≤ 300 := by
      have := long_len m (L.take i)
      rw [List.length_take] at this
      omega
    obtain ⟨z1, z2⟩ := addE_len (longE m (L.take i)) ([], ss)
    have b1 : ((longE m (L.take i)).foldl addE ([], ss)).1.length ≤ 300 := Nat.le_trans z1 (by show 0 + _ ≤ 300; omega)
    have b2 : ((longE m (L.take i)).foldl addE ([], ss)).2.length ≤ 400 := Nat.le_trans z2 (by show ss.length + _ ≤ 400; omega)
    rw [nx, List.foldl_append]
    generalize (longE m (L.take i)).foldl addE ([], ss) = acc at b1 b2
    refine d_gTup2 (d1 := .str (S u)) (d2 := .tuple (ns.map .int)) (.mem (List.Mem.head _)) fun v1 v2 e1 e2 => ?_
    obtain rfl : v1 = .str (S u) := e1
    walk_at "go"
    refine RD.bring3 ?_
    refine openMach fun dx ed sd' td nd5 => ?_
    refine d_fld (List.Mem.head _) M.c M.n1 (v := .int m.k) rfl ?_
    refine closeMach nd5 ?_
    refine RD.put3 ?_
    walk_at "go"
    rw [abc_S]
    refine d_takeA (by decide) ?_
    walk_at "go"
    refine RD.weak (l' := (v2, .tuple (ns.map .int)) :: l1) (by walk_at "sub") ?_
    refine d_forStr (x := S (([97, 98, 99] : List Nat).take m.k)) (fun j R' σ' l' => R' = star (own K al (lvD ((((charsOf m).take j).map fun c => ((u ++ [c], stepI m.es ns c) : Ent)).foldl addE acc).1)) (star (objs [(sd, .dT (sKV ((((charsOf m).take j).map fun c => ((u ++ [c], stepI m.es ns c) : Ent)).foldl addE acc).2))]) (star (mach K a m) F)) ∧
      l' = (v2, .tuple (ns.map .int)) :: l1 ∧ ∃ x6 x7 : Option V, σ' = [some (.ref a), some v, some (.ref sd), some (.ref al), some (.str (S u)), some v2, x6, x7]) ?_ ?_ ?_
    · exact ⟨rfl, rfl, _, _, rfl⟩
    · rintro j c R' σ' l' hc ⟨rfl, rfl, x6, x7, rfl⟩
      rw [S_tl] at hc
      have hc' : (charsOf m)[j]? = some c := hc
      have jl : j < 3 := Nat.lt_of_lt_of_le (List.getElem?_eq_some_iff.1 hc').1 (chars_len m)
      have nx2 : (((charsOf m).take (j + 1)).map fun c => ((u ++ [c], stepI m.es ns c) : Ent)).foldl addE acc = addE ((((charsOf m).take j).map fun c => ((u ++ [c], stepI m.es ns c) : Ent)).foldl addE acc) (u ++ [c], stepI m.es ns c) := by
        rw [List.take_succ, hc', List.map_append, List.foldl_append]
        rfl
      obtain ⟨z3, z4⟩ := addE_len (((charsOf m).take j).map fun c => ((u ++ [c], stepI m.es ns c) : Ent)) acc
      rw [List.length_map, List.length_take] at z3 z4
      have b3 : ((((charsOf m).take j).map fun c => ((u ++ [c], stepI m.es ns c) : Ent)).foldl addE acc).1.length ≤ 310 := by omega
      have b4 : ((((charsOf m).take j).map fun c => ((u ++ [c], stepI m.es ns c) : Ent)).foldl addE acc).2.length ≤ 410 := by omega
      rw [nx2]
      generalize (((charsOf m).take j).map fun c => ((u ++ [c], stepI m.es ns c) : Ent)).foldl addE acc = ac2 at b3 b4
      walk_at "go"
      refine RD.bring3 ?_
      refine d_kGM (fun _ _ _ => rfl) ?_
      walk_at "go"
      refine d_behindD (ns := ns) (c := c) (.mem (List.Mem.head _)) he fun q hq => ?_
      refine RD.put3 ?_
      walk_at "go"
      refine RD.rot ?_
      refine d_dinT (ks := (stepI m.es ns c).map Sum.inl) (List.Mem.head _) (by rw [upd_same, List.map_map]; rfl) ?_
      rw [val_ss]
      refine RD.rot ?_
      walk_at "go"
      refine d_ite (fun h => ?_) (fun h => ?_)
      · have hn : stepI m.es ns c ∉ ac2.2 := by simpa using h
        have ea : addE ac2 (u ++ [c], stepI m.es ns c) = (ac2.1 ++ [(u ++ [c], stepI m.es ns c)], ac2.2 ++ [stepI m.es ns c]) := if_neg hn
        walk_at "go"
        refine RD.rot ?_
        refine d_putT (ks := (stepI m.es ns c).map Sum.inl) (List.Mem.head _) (by rw [upd_same, List.map_map]; rfl) (by unfold sKV; rw [List.length_map]; exact szM (by omega)) ?_
        rw [put_ss hn, show putO [(sd, .dT (sKV ac2.2))] sd (.dT (sKV (ac2.2 ++ [stepI m.es ns c]))) = [(sd, .dT (sKV (ac2.2 ++ [stepI m.es ns c])))] from by simp [putO]]
        refine RD.rot ?_
        walk_at "go"
        refine d_cat (b := [c]) (by show u.length + 1 ≤ 1000000; have : u.length ≤ 1000 := ul; omega) ?_
        walk_at "go"
        refine d_newT (ds := [.str (S (u ++ [c])), .tuple ((stepI m.es ns c).map .int)]) (show 2 ≤ sizeLine by decide) (by walk_at "inls") fun y => ?_
        walk_at "go"
        refine d_append (d := .tuple [.str (S (u ++ [c])), .tuple ((stepI m.es ns c).map .int)]) (.mem (List.Mem.head _)) (by unfold lvD; rw [List.length_map]; exact szM (by omega)) ?_
        walk_at "go"
        dsimp only
        refine RD.moreD (same_upd hq) ?_
        refine d_end (l' := (v2, .tuple (ns.map .int)) :: l1) ?_ (by walk_at "sub")
        refine ⟨?_, rfl, _, _, rfl⟩
        rw [ea]
        unfold lvD
        rw [List.map_append]
        rfl
      · have hn : stepI m.es ns c ∈ ac2.2 := by simpa using h
        have ea : addE ac2 (u ++ [c], stepI m.es ns c) = ac2 := if_pos hn
        walk_at "go"
        dsimp only
        refine RD.moreD (same_upd hq) ?_
        refine d_end (l' := (v2, .tuple (ns.map .int)) :: l1) ?_ (by walk_at "sub")
        rw [ea]
        exact ⟨rfl, rfl, _, _, rfl⟩
    · rintro R' σ' l' ⟨rfl, rfl, x6, x7, rfl⟩
      rw [S_tl, show (charsOf m).take (([97, 98, 99] : List Nat).take m.k).length = charsOf m from List.take_length]
      dsimp only
      refine d_end (l' := l1) ?_ (by walk_at "sub")
      exact ⟨rfl, ⟨_, _, _, _, rfl⟩, sub⟩
  · rintro R' σ' l1 ⟨rfl, ⟨x4, x5, x6, x7, rfl⟩, sub⟩
    rw [show (lvD L).length = L.length from List.length_map _, List.take_length]
    walk_at "go"
    refine RD.freeze ?_
    refine RD.weak ?_ (kk (.ref al))
    exact sub_cons (.mem (List.Mem.head _)) fun p hp => (sub p hp).tail
def optV : Option (List Nat) → V
  | none => .non
  | some u => .str (S u)
def sp_Machine_first_log (K : PySem.W.Frag) : Sp := fun vs H Q _ => ∃ (a : Addr) (m : Mch) (D0 : Hp) (F : Res) (l : List (V × PyData)) (N : Addr → Prop), vs = [.ref a] ∧ At K D0 (star (mach K a m) F) l N H ∧ MOk m ∧
  ∀ r, IsFirst m r → RD K D0 (star (mach K a m) F) l (Q (optV r))
def t_Machine_first_log (K : PySem.W.Frag) (W : WX) : TS := (tSeq (tAsg (tLst (tCons (tTup (tCons (tC (.str "")) (tCons (tGM (He.ga K "Machine") "starts" (sp_Machine_starts K) W (tVar 0) tNil) tNil))) tNil)) (gName 1))
  (tSeq (tAsg (tDOneT (tGM (He.ga K "Machine") "starts" (sp_Machine_starts K) W (tVar 0) tNil) (tC (.bl true))) (gName 2))
  (tSeq (tWhile (tTru K (tVar 1)) (tSeq (tFor (gIt K (tVar 1)) (gTup K 2 (gCons (gName 3) (gCons (gName 4) gNil))) (tIfS (tTru K (tGM (He.ga K "Machine") "holds_end" (sp_Machine_holds_end K) W (tVar 0) (tCons (tVar 4) tNil))) (tRet (tVar 3)) tNext))
  (tAsg (tGM (He.ga K "Machine") "_next_level" (sp_Machine__next_level K) W (tVar 0) (tCons (tVar 1) (tCons (tVar 2) tNil))) (gName 1))))
  (tRet (tC .non)))))

theorem len_Machine_first_log (h : sp_Machine_first_log K vs H Q E) : vs.length = 1 := by
  obtain ⟨_, _, _, _, _, _, rfl, _⟩ := h
  rfl
theorem d_firstLog {a : Addr} {m : Mch} (mo : MOk m) (k : ∀ r, IsFirst m r → RD K D0 (star (mach K a m) R) l (Q (optV r))) : RD K D0 (star (mach K a m) R) l (fun H => sp_Machine_first_log K [.ref a] H Q E) :=
  fun N H A => ⟨a, m, D0, R, l, N, rfl, A, mo, k⟩
theorem pure_Machine_first_log (M : MCls K) (h : sp_Machine_first_log K vs H Q E) : t_Machine_first_log K W { nx := fun _ H' => Q .non H', rt := Q } (start ["self", "level", "seen", "log", "states"] vs) H := by
  obtain ⟨a, m, D0, F, l, N, rfl, A, mo, kk⟩ := h
  refine (?_ : RD K D0 (star (mach K a m) F) l (fun H => t_Machine_first_log K W _ [some (.ref a), none, none, none, none] H)) N H A
  unfold t_Machine_first_log
  walk_at "go"
  rw [emp_S]
  refine d_kGM (fun _ _ _ => rfl) ?_
  walk_at "go"
  refine d_startsI mo.snd fun u0 => ?_
  walk_at "go"
  refine d_newT (ds := [.str (S []), .tuple ((sortI m.st).map .int)]) (show 2 ≤ sizeLine by decide) (by walk_at "inls") fun y => ?_
  walk_at "go"
  refine d_newL (ds := lvD [([], sortI m.st)]) (show 1 ≤ sizeLine by decide) (.cons (.mem (List.Mem.head _)) .nil) fun vl => ?_
  walk_at "go"
  refine d_dOneT fun sd => ?_
  walk_at "go"
  refine RD.rot ?_
  refine d_kGM (fun _ _ _ => rfl) ?_
  walk_at "go"
  refine d_startsD mo.snd fun q hq => ?_
  refine RD.rot ?_
  walk_at "go"
  refine d_onePair (ks := (sortI m.st).map Sum.inl) (by rw [upd_same, List.map_map]; rfl) ?_
  refine RD.moreD (same_upd hq) ?_
  walk_at "go"
  refine d_while (fun n R' σ' l' => ∃ (d : Nat) (L : List Ent) (ss O : List (List Int)) (vl : V), BInv m d L ss O ∧ n = (if L = [] then 0 else 1 + (64 - ss.length)) ∧ (L ≠ [] → d ≤ ss.length) ∧ R' = star (objs [(sd, .dT (sKV ss))]) (star (mach K a m) F) ∧ InL l' vl (.list (lvD L)) ∧
    (∃ x3 x4 : Option V, σ' = [some (.ref a), some vl, some (.ref sd), x3, x4]) ∧ ∀ p ∈ l, InL l' p.1 p.2) (m0 := _) ⟨0, [([], sortI m.st)], [sortI m.st], [], vl, b_start m, rfl, fun _ => Nat.zero_le _, rfl, .mem (by walk_at "mem"), ⟨none, none, rfl⟩, by walk_at "sub"⟩ ?_
  rintro n R' σ' l1 ⟨d, L, ss, O, vl, B, rfl, dl, rfl, hvl, ⟨x3, x4, rfl⟩, sub⟩
  have fewS := shape_len mo B.nd B.shape
  have fewL : L.length ≤ 64 := by
    have h2 := nodup_len B.lnd fun s hs => by
      obtain ⟨e, he, rfl⟩ := List.mem_map.1 hs
      exact B.into e he
    rw [List.length_map] at h2
    omega
  walk_at "go"
  refine d_truL hvl ?_
  refine d_ite (fun h => ?_) (fun h => ?_)
  · have ne : L ≠ [] := fun z => by
      subst z
      simp [lvD] at h
    refine d_whileIn ?_
    walk_at "go"
    refine d_forList (v := vl) (ds := lvD L) hvl (fun i R' σ' l' => R' = star (objs [(sd, .dT (sKV ss))]) (star (mach K a m) F) ∧ l' = l1 ∧ (∃ x3 x4 : Option V, σ' = [some (.ref a), some vl, some (.ref sd), x3, x4]) ∧ ∀ e ∈ L.take i, holds m e.2 = false)
      (fun i R' σ' l' h => by rw [h.2.1]; exact hvl) ⟨rfl, rfl, ⟨_, _, rfl⟩, fun e he => absurd he List.not_mem_nil⟩ ?_ ?_
    · rintro i dd x R' σ' l' hd dv ⟨rfl, rfl, ⟨x3, x4, rfl⟩, no⟩
      unfold lvD at hd
      rw [List.getElem?_map] at hd
      obtain ⟨⟨u, ns⟩, hx, rfl⟩ := Option.map_eq_some_iff.1 hd
      obtain ⟨b1, b2, b3⟩ := B.ent _ (List.mem_of_getElem? hx)
      refine d_gTup2 (d1 := .str (S u)) (d2 := .tuple (ns.map .int)) (.mem (List.Mem.head _)) fun v1 v2 e1 e2 => ?_
      obtain rfl : v1 = .str (S u) := e1
      walk_at "go"
      refine RD.rot ?_
      refine d_kGM (fun _ _ _ => rfl) ?_
      walk_at "go"
      refine d_holdsEnd (ns := ns) (.mem (by walk_at "mem")) (by
        rw [show ns = afterI m u from b1]
        exact walkI_len u (Nat.le_trans (sortI_len _) (Nat.le_trans mo.stl (by decide))) (Nat.le_trans mo.len (by decide))) ?_
      refine RD.rot ?_
      walk_at "go"
      refine d_ite (fun h => ?_) (fun h => ?_)
      · walk_at "go"
        refine RD.drop ?_
        have first := b_some B hx h fun j hj e' he' => no e' (List.mem_take_iff_getElem.2 (by
          obtain ⟨j1, j2⟩ := List.getElem?_eq_some_iff.1 he'
          exact ⟨j, by omega, j2⟩))
        refine RD.weak ?_ (kk (some u) first)
        exact fun p hp => (((sub p hp).tail).tail).tail
      · walk_at "go"
        dsimp only
        refine d_end (l' := l') ?_ (by walk_at "sub")
        refine ⟨rfl, rfl, ⟨_, _, rfl⟩, fun e he => ?_⟩
        rw [List.take_succ, hx] at he
        rcases List.mem_append.1 he with he | he
        · exact no e he
        · obtain rfl := List.mem_singleton.1 he
          exact h
    · rintro R' σ' l' ⟨rfl, rfl, ⟨x3, x4, rfl⟩, no⟩
      rw [show (lvD L).length = L.length from List.length_map _, List.take_length] at no
      obtain ⟨B', es⟩ := b_step B no
      have fewS' := shape_len mo B'.nd B'.shape
      walk_at "go"
      refine RD.rot ?_
      refine d_kGM (fun _ _ _ => rfl) ?_
      refine RD.rot ?_
      walk_at "go"
      refine d_nextLevel (L := L) (ss := ss) hvl (Nat.le_trans mo.len (by decide)) (by omega) (by omega) (fun e he => by have := dl ne; rw [(B.ent e he).2.1]; omega) fun u => ?_
      walk_at "go"
      dsimp only
      have grow : (nextE m L ss).1 ≠ [] → ss.length < (nextE m L ss).2.length := fun z => by
        rw [es, List.length_append, List.length_map]
        have := List.length_pos_iff.2 z
        omega
      refine d_whileEnd (m' := if (nextE m L ss).1 = [] then 0 else 1 + (64 - (nextE m L ss).2.length)) (l' := (u, .list (lvD (nextE m L ss).1)) :: l') ?_ ?_ sub_refl
      · rw [if_neg ne]
        split
        · omega
        · rename_i z
          have := grow z
          omega
      · refine ⟨d + 1, (nextE m L ss).1, (nextE m L ss).2, ss, u, B', rfl, fun z => ?_, rfl, .mem (List.Mem.head _), ⟨_, _, rfl⟩, fun p hp => (sub p hp).tail⟩
        have g1 := grow z
        have g2 := dl ne
        omega
  · have e : L = [] := by
      cases L with
      | nil => rfl
      | cons x L => simp [lvD] at h
    subst e
    walk_at "go"
    refine RD.drop ?_
    refine RD.weak ?_ (kk none (b_none B))
    exact sub
end
end GL

/-! N6: any resource lent; comprehensions over a list whose list stays open. -/
namespace GL
open PySem PySem.Spec L2
open PyProof.Rows hiding St
open SX (S)
/-- R, whatever stands at P -/
noncomputable def lessP (P : Addr → Prop) (R : Res) : Res where
  h := fun N D H => R.h N (off D P) H
  st := fun h s k => R.st h (fun b o q => by
    by_cases z : P b
    · rw [show off _ P b = none from if_pos z] at q
      cases q
    · rw [off_ne z] at q ⊢
      exact s b o q) k
section
variable {K : PySem.W.Frag} {D0 D1 : Hp} {R S U : Res} {l l' : List (V × PyData)} {σ : L2.St} {D : Ends} {Q : VK} {L : List (Addr × HO)} {T : Hp → Prop} {w : World}
theorem RD.lendR {v : V} {d : PyData} (fact : ∀ {N1 : Addr → Prop} {D H D' : Hp}, U.h N1 D H → Same D D' → (∀ b, N1 b → D' b = H b) → Dt K D' v d)
    (k : ∀ D1 (R' : Res), (∀ {S : Res} {l'' : List (V × PyData)} {T' : Hp → Prop}, Loc S → RD K D0 (star S (star U R)) l T' → RD K D1 (star S R') l'' T') → RD K D1 R' ((v, d) :: l) T) : RD K D0 (star U R) l T := fun N H A => by
  obtain ⟨N1, N2, e, dj, h1, h2⟩ := A.r
  have offe : off (off H N2) N1 = off H N := funext fun b => by
    by_cases z1 : N1 b
    · rw [show off (off H N2) N1 b = none from if_pos z1, show off H N b = none from if_pos ((e b).2 (.inl z1))]
    · rw [off_ne z1]
      by_cases z2 : N2 b
      · rw [show off H N2 b = none from if_pos z2, show off H N b = none from if_pos ((e b).2 (.inr z2))]
      · rw [off_ne z2, off_ne fun q => ((e b).1 q).elim z1 z2]
  have sm : Same (off H N) (off H N2) := fun b o q => by
    have nb : ¬ N b := fun z => by
      rw [show off H N b = none from if_pos z] at q
      cases q
    rw [off_ne nb] at q
    rw [off_ne fun z => nb ((e b).2 (.inr z))]
    exact q
  have n12 : ∀ b, N1 b → off H N2 b = H b := fun b hb => off_ne fun z => dj b hb z
  refine k (off H N2) (lessP N1 R) ?_ N2 H ⟨fun b hb => A.nt b ((e b).2 (.inr hb)), ?_, fun b o q => q, fun p hp => ?_⟩
  · intro S l'' T' hS kk N' H' A'
    have st : ∀ b, N1 b → ¬ N' b ∧ H' b = H b := fun b hb => by
      obtain ⟨o, ho, _⟩ := A.nt b ((e b).2 (.inl hb))
      have q := A'.d0 b o ((n12 b hb).trans ho)
      have nb : ¬ N' b := fun z => by
        rw [show off H' N' b = none from if_pos z] at q
        cases q
      rw [off_ne nb] at q
      exact ⟨nb, q.trans ho.symm⟩
    have ce : off (off H' N') N1 = off H' fun b => N1 b ∨ N' b := funext fun b => by
      by_cases z1 : N1 b
      · rw [show off (off H' N') N1 b = none from if_pos z1, show off H' (fun b => N1 b ∨ N' b) b = none from if_pos (.inl z1)]
      · rw [off_ne z1]
        by_cases z2 : N' b
        · rw [show off H' N' b = none from if_pos z2, show off H' (fun b => N1 b ∨ N' b) b = none from if_pos (.inr z2)]
        · rw [off_ne z2, off_ne (N := fun b => N1 b ∨ N' b) fun q => q.elim z1 z2]
    have sm2 : Same (off H N) (off H' fun b => N1 b ∨ N' b) := fun b o q => by
      have nb : ¬ N b := fun z => by
        rw [show off H N b = none from if_pos z] at q
        cases q
      have q2 := A'.d0 b o (sm b o q)
      rw [← ce, off_ne fun z => nb ((e b).2 (.inl z))]
      exact q2
    obtain ⟨M1, M2, e', dj', g1, g2⟩ := A'.r
    refine kk (fun b => N1 b ∨ N' b) H' ⟨?_, ⟨M1, fun b => N1 b ∨ M2 b, fun b => ?_, fun b x y => ?_, hS g1, N1, M2, fun b => Iff.rfl, fun b x y => ?_, U.st h1 sm2 fun b hb => (st b hb).2, ?_⟩, A.d0.trans sm2, fun p hp => (A.f p hp).mono sm2⟩
    · rintro b (hb | hb)
      · obtain ⟨o, ho, nt⟩ := A.nt b ((e b).2 (.inl hb))
        exact ⟨o, (st b hb).2.trans ho, nt⟩
      · exact A'.nt b hb
    · show (N1 b ∨ N' b) ↔ M1 b ∨ (N1 b ∨ M2 b)
      rw [e' b]
      exact ⟨fun q => q.elim (fun z => .inr (.inl z)) fun q => q.elim .inl fun z => .inr (.inr z), fun q => q.elim (fun z => .inr (.inl z)) fun q => q.elim .inl fun z => .inr (.inr z)⟩
    · rcases y with y | y
      · exact (st b y).1 ((e' b).2 (.inl x))
      · exact dj' b x y
    · exact (st b x).1 ((e' b).2 (.inr y))
    · rw [← ce]
      exact g2
  · show R.h N2 (off (off H N2) N1) H
    rw [offe]
    exact h2
  · rcases List.mem_cons.1 hp with rfl | hp
    · exact fact h1 sm n12
    · exact (A.f p hp).mono sm
theorem plan_fact {q : Addr} {p : Plan} {N1 : Addr → Prop} {D H D' : Hp} (h : (planR K q p).h N1 D H) (s : Same D D') (k : ∀ b, N1 b → D' b = H b) : Dt K D' (.ref q) (planD p) := by
  obtain ⟨a1, a2, a3, M1, M2, e1, _, ⟨o1, o2⟩, M3, M4, e2, _, ⟨p1, xs3, x3, d3⟩, M5, M6, e3, _, ⟨p2, xs2, x2, d2⟩, ⟨p3, xs1, x1, d1⟩⟩ := h
  have m3 : N1 a3 := (e1 a3).2 (.inr ((e2 a3).2 (.inl ((p1 a3).2 rfl))))
  have m2 : N1 a2 := (e1 a2).2 (.inr ((e2 a2).2 (.inr ((e3 a2).2 (.inl ((p2 a2).2 rfl))))))
  have m1 : N1 a1 := (e1 a1).2 (.inr ((e2 a1).2 (.inr ((e3 a1).2 (.inr ((p3 a1).2 rfl))))))
  have mq : N1 q := (e1 q).2 (.inl ((o1 q).2 ⟨_, List.Mem.head _⟩))
  exact .lst ((k q mq).trans (o2 _ (List.Mem.head _))) (.cons (.int _) (.cons (.lst ((k a1 m1).trans x1) (d1.mono s)) (.cons (.lst ((k a2 m2).trans x2) (d2.mono s)) (.cons (.lst ((k a3 m3).trans x3) (d3.mono s)) .nil))))
theorem lendPlan {q : Addr} {p : Plan} (k : ∀ D1 (R' : Res), (∀ {S : Res} {l'' : List (V × PyData)} {T' : Hp → Prop}, Loc S → RD K D0 (star S (star (planR K q p) R)) l T' → RD K D1 (star S R') l'' T') → RD K D1 R' ((.ref q, planD p) :: l) T) : RD K D0 (star (planR K q p) R) l T :=
  RD.lendR plan_fact k
/-- a comprehension over a list, the rest as it was, its list open -/
theorem d_lcListO {v : V} {ds : List PyData} {g : TG} {tt : TT} {te : TE} {vs : List Nat} (hv : InL l v (.list ds)) (Pd : Nat → List PyData → Prop) (h0 : Pd 0 [])
    (hs : ∀ i d x Dd es, ds[i]? = some d → Dv x d → Pd i es → RD K D0 (star (own K Dd es) R) ((x, d) :: l) (fun H => g x (wipe σ vs) H fun σ2 H2 => kWipe σ2 vs σ H2 fun H2 => tt σ2 H2 fun b H3 =>
      if b = true then te σ2 H3 fun y H4 => kItem Dd y H4 (ContC K D0 Dd (Cont1 K D0 R l (Pd (i + 1)))) else ContC K D0 Dd (Cont1 K D0 R l (Pd (i + 1))) H3))
    (hd : ∀ a es, Pd ds.length es → RD K D0 (star (own K a es) R) l (Q (.ref a))) : RD K D0 R l (fun H => wIt K v H fun J H1 => LcK g tt te vs σ Q J H1) := fun N H A => by
  obtain ⟨a, xs, rfl, ha, hd0⟩ := (A.dt hv).list
  have hl : ∀ {D es N' H'}, At K D0 (star (own K D es) R) l N' H' → ∃ xs', SqL K H' a xs' ∧ DtAll K (off H' N') xs' ds := fun {D es N' H'} A' => by
    obtain ⟨a', xs', e, h', d'⟩ := (A'.dt hv).list
    cases e
    exact ⟨xs', SqL.of (off_same a _ h'), d'⟩
  refine .inl ⟨a, rfl, ⟨xs, SqL.of (off_same a _ ha)⟩, fun D hD => ⟨fun i m H => m = ds.length - i ∧ i ≤ ds.length ∧ ContC K D0 D (Cont1 K D0 R l (Pd i)) H, ⟨_, rfl, Nat.zero_le _, R, l, [], _, ⟨rfl, rfl, h0⟩, A.newOwn hD .nil⟩, ?_⟩⟩
  rintro i m H' ⟨rfl, hi, R', l', es, N', ⟨e1, e2, p⟩, A'⟩
  subst e1 e2
  obtain ⟨xs', hq, d'⟩ := hl A'
  by_cases hlt : i < ds.length
  · have hx : i < xs'.length := by rw [d'.len]; exact hlt
    refine .inr ⟨⟨xs', xs'[i], hq, by simp [hx]⟩, ContC K D0 D (Cont1 K D0 R' l' (Pd (i + 1))), fun H2 p => ⟨ds.length - (i + 1), by omega, rfl, hlt, p⟩, ?_⟩
    rintro x H2 ⟨rfl, hy⟩
    obtain ⟨d, e1, e2⟩ := d'.get (hy xs' hq)
    exact hs i d x D es e1 e2.dv p N' _ (A'.facts e2)
  · have e : i = ds.length := by omega
    subst e
    exact .inl ⟨⟨xs', hq, by rw [d'.len]; exact Nat.le_refl _⟩, hd D es p N' H' A'⟩
/-- an owned list of texts, whatever stands -/
theorem own_strs {a : Addr} {ns : List Str} (k : RD K D0 (star (GL.objs [(a, .lst (ns.map V.str))]) R) l T) : RD K D0 (star (own K a (ns.map .str)) R) l T :=
  RD.res (S := star (GL.objs [(a, .lst (ns.map V.str))]) R) (fun h => by
    obtain ⟨N1, N2, e, dj, ⟨h1, xs, hx, hd⟩, h2⟩ := h
    obtain rfl := hd.strs
    exact ⟨N1, N2, e, dj, ⟨fun b => (h1 b).trans ⟨fun z => ⟨.lst (ns.map V.str), by rw [z]; exact List.Mem.head _⟩, fun ⟨o, m⟩ => congrArg Prod.fst (List.mem_singleton.1 m)⟩, fun p hp => by rw [List.mem_singleton.1 hp]; exact hx⟩, h2⟩) k
end
end GL

/-! M9: remove_end; one of six edits of a machine and its plan. -/
namespace GL
open PySem PySem.Spec L2
open PyProof.Rows hiding St
open SX (S)
local macro_rules | `(tactic| walk_at "mem") => `(tactic| (first | exact List.Mem.head _ | exact List.Mem.tail _ (List.Mem.head _) | exact List.Mem.tail _ (List.Mem.tail _ (List.Mem.head _)) | ((repeat (first | exact List.Mem.head _ | apply List.Mem.tail)); done)))
local macro_rules | `(tactic| walk_at "inl") => `(tactic| (first | exact InL.int _ | exact InL.str _ | exact InL.bl _ | exact InL.non | (refine InL.mem ?zm; walk_at "mem") | assumption))
local macro_rules | `(tactic| walk_at "inls") => `(tactic| (repeat (first | exact InLs.nil | (refine InLs.cons ?zi ?_; case zi => walk_at "inl"))))
local macro_rules | `(tactic| walk_at "set") => `(tactic| (simp only [wipe, List.set_cons_succ, List.set_cons_zero]; rfl))
local macro_rules | `(tactic| walk_at "tails") => `(tactic| (first | exact sub_refl | exact sub_tail sub_refl | exact sub_tail (sub_tail sub_refl) | exact sub_nil | ((repeat (first | exact sub_refl | apply sub_tail)); done)))
local macro_rules | `(tactic| walk_at "sub") => `(tactic| (first | walk_at "tails" | ((repeat (refine sub_cons ?zi ?_; case zi => walk_at "inl")); walk_at "tails")))
local macro_rules | `(tactic| walk_at "g1") => `(tactic| (first
  | with_reducible refine d_seq ?_
  | with_reducible refine d_asg ?_
  | ((with_reducible refine d_name (σ' := ?zs) ?zh ?_); (case zh => walk_at "set"))
  | ((with_reducible refine d_var (v := ?zs) ?zh ?_); (case zh => rfl))
  | with_reducible refine d_C ?_
  | with_reducible refine d_op ?_
  | with_reducible refine d_cons ?_
  | with_reducible refine d_nil ?_
  | with_reducible refine d_cb ?_
  | with_reducible refine d_g ?_
  | with_reducible refine d_ifS ?_
  | with_reducible refine d_test ?_
  | with_reducible refine d_bl ?_
  | with_reducible refine d_addI ?_
  | with_reducible refine d_I0 ?_
  | with_reducible refine d_ret ?_
  | with_reducible refine d_retN ?_
  | with_reducible refine d_next ?_
  | with_reducible refine d_drop ?_
  | with_reducible refine d_and ?_
  | with_reducible refine d_or ?_
  | with_reducible refine d_not ?_
  | with_reducible refine d_andV ?_
  | with_reducible refine d_orV ?_
  | with_reducible refine d_notV ?_
  | with_reducible refine d_tru ?_
  | with_reducible refine d_truB ?_
  | with_reducible refine d_tif ?_
  | with_reducible refine d_iteT ?_
  | with_reducible refine d_iteF ?_
  | with_reducible refine d_iteNT ?_
  | with_reducible refine d_iteNF ?_
  | with_reducible refine d_eqI ?_
  | with_reducible refine d_neI ?_
  | with_reducible refine d_eqS ?_
  | with_reducible refine d_neS ?_
  | with_reducible refine d_eqB ?_
  | with_reducible refine d_neB ?_
  | with_reducible refine d_isN ?_
  | with_reducible refine d_notN ?_
  | with_reducible refine d_bm ?_
  | with_reducible refine d_tyS ?_
  | with_reducible refine d_tyO ?_
  | with_reducible refine d_find3 ?_
  | with_reducible refine d_tup ?_
  | with_reducible refine d_lst ?_
  | with_reducible refine d_for ?_
  | with_reducible refine d_iRng1 ?_
  | with_reducible refine d_gIt ?_
  | with_reducible refine d_lc ?_
  | with_reducible refine d_yes ?_
  | with_reducible refine d_tSl ?_
  | with_reducible refine d_noPart ?_
  | with_reducible refine d_part ?_
  | with_reducible refine d_int ?_
  | ((with_reducible refine d_wipe ?zh ?_); (case zh => rfl))
  | ((with_reducible refine d_aug (v := ?zs) ?zh ?_); (case zh => rfl))
  | with_reducible refine d_ipI ?_
  | ((with_reducible refine d_set (σ' := ?zs) ?zh ?_); (case zh => walk_at "set"))))
local macro_rules | `(tactic| walk_at "go") => `(tactic| (repeat walk_at "g1"))
local macro_rules | `(tactic| walk_at "g1") => `(tactic| (first
  | with_reducible refine d_chain ?_
  | with_reducible refine d_tB ?_
  | with_reducible refine d_tGM ?_
  | with_reducible refine d_tGN ?_
  | with_reducible refine d_rz ?_
  | with_reducible refine d_tXf ?_
  | with_reducible refine d_tFld ?_
  | with_reducible refine d_sFld ?_
  | with_reducible refine d_tMix ?_
  | with_reducible refine d_tDIn ?_
  | with_reducible refine d_tDNotIn ?_
  | with_reducible refine d_sDPut ?_
  | with_reducible refine d_sDDelT ?_
  | with_reducible refine d_tSet ?_
  | with_reducible refine d_gcons ?_
  | with_reducible refine d_gnil ?_
  | with_reducible refine d_iKeys ?_))
local macro_rules | `(tactic| walk_at "g1") => `(tactic| (first
  | with_reducible refine d_par ?_
  | with_reducible refine d_kPar ?_))
section
variable {K : PySem.W.Frag} {W : WX} {D0 : Hp} {R : Res} {l : List (V × PyData)} {Q : VK} {vs : List V} {H : Hp} {E : XK} {P : Program} {w : World} {L : List (Addr × HO)} {σ : L2.St} {D : Ends} {T : Hp → Prop}
def t_Machine_remove_end (K : PySem.W.Frag) (W : WX) : TS := (tSeq (tDrop (tGM (He.ga K "Machine") "_require_state" (sp_Machine__require_state K) W (tVar 0) (tCons (tVar 1) tNil)))
  (tRet (tG (sp_take_out K) W (tCons (tFld K (tVar 0) "_ends") (tCons (tVar 1) tNil)))))

theorem len_Machine_remove_end (h : sp_Machine_remove_end K vs H Q E) : vs.length = 2 := spEd_len h
theorem pure_Machine_remove_end (M : MCls K) (h : sp_Machine_remove_end K vs H Q E) : t_Machine_remove_end K (fun cls d _ H => E cls d H) { nx := fun _ H' => Q .non H', rt := Q } (start ["self", "state"] vs) H := by
  obtain ⟨a, m, v, d, D0, F, l, N, rfl, A, hd, nd, h1, h2, kN, kY⟩ := h
  have dv := (A.dt hd).dv
  refine (?_ : RD K D0 (star (mach K a m) F) l (fun H => t_Machine_remove_end K (fun cls d _ H => E cls d H) _ [some (.ref a), some v] H)) N H A
  unfold t_Machine_remove_end
  walk_at "go"
  refine d_kGM (fun _ _ _ => rfl) ?_
  walk_at "go"
  refine d_reqState hd nd (fun hb => ?_) kN
  obtain ⟨i, rfl, rfl, i0, i1⟩ := between_int hb dv
  have z := kY i rfl i0 i1
  dsimp only at z
  walk_at "go"
  refine openMach fun dx ed sd td nd5 => ?_
  refine d_fld (List.Mem.head _) M.c M.n5 (v := .ref td) rfl ?_
  walk_at "go"
  refine d_takeOut in_mN (fun hi => ?_) (fun hi => ?_)
  · rw [put_mN nd5]
    rw [if_pos hi, decide_eq_true hi] at z
    exact closeMach nd5 z
  · rw [if_neg hi, decide_eq_false hi] at z
    exact closeMach nd5 z
theorem d_removeEdgeI {a : Addr} {m : Mch} {o t : Int} {c : Nat} {EX : XK} (hm : (o, c, t) ∈ m.es) (k : RD K D0 (star (mach K a { m with es := m.es.filter fun x => decide (x ≠ (o, c, t)) }) R) l (Q .non)) :
    RD K D0 (star (mach K a m) R) l (fun H => sp_Machine_remove_edge K [.ref a, .int o, .str (S [c]), .int t] H Q EX) := fun N H A => ⟨a, m, o, t, c, D0, R, l, N, rfl, A, fun h => absurd hm h, fun _ => k⟩
theorem d_neO {a : Addr} {ds : List PyData} {y : V} {e : PyData} (hy : InL l y e) (dp : (PyData.list ds).depth ≤ 60) (k : RD K D0 (star (own K a ds) R) l (Q (.bl (!PyData.eqv (.list ds) e)))) : RD K D0 (star (own K a ds) R) l (fun H => gNe K (.ref a) y H Q) := fun N H A => by
  obtain ⟨xs, hx, hd⟩ := A.ownAt
  exact ⟨.list ds, e, .lst hx (hd.mono off_same), A.dH hy, dp, k N H A⟩
theorem d_remI {a : Addr} {ns : List Int} {i : Int} {j : Nat} (hj : ns[j]? = some i) (hno : ∀ m : Nat, m < j → ns[m]? ≠ some i) (k : RD K D0 (star (own K a ((ns.eraseIdx j).map .int)) R) l (Q .non)) : RD K D0 (star (own K a (ns.map .int)) R) l (fun H => rRemI (.ref a) [.int i] H Q) := fun N H A => by
  obtain ⟨xs, hx, hd⟩ := A.ownAt
  obtain rfl := hd.ints
  exact ⟨a, ns, i, j, rfl, rfl, hx, hj, hno, k _ _ (A.setOwn (DtAll.ofInts _))⟩
theorem erase_nodup {α : Type} [DecidableEq α] : ∀ {xs : List α} {j : Nat} {x : α}, xs.Nodup → xs[j]? = some x → xs.eraseIdx j = xs.filter fun y => decide (y ≠ x)
  | [], _, _, _, h => by simp at h
  | y :: xs, 0, x, nd, h => by
    obtain rfl : y = x := by simpa using h
    obtain ⟨n1, n2⟩ := List.nodup_cons.1 nd
    rw [List.eraseIdx_cons_zero, List.filter_cons_of_neg (by simp)]
    exact (List.filter_eq_self.2 fun z hz => by
      have : z ≠ y := fun e => n1 (e ▸ hz)
      simp [this]).symm
  | y :: xs, j + 1, x, nd, h => by
    obtain ⟨n1, n2⟩ := List.nodup_cons.1 nd
    have h' : xs[j]? = some x := by simpa using h
    have ne : y ≠ x := fun e => n1 (e ▸ List.mem_of_getElem? h')
    rw [List.eraseIdx_cons_succ, List.filter_cons_of_pos (by simp [ne]), erase_nodup n2 h']
theorem erase_map' {α β : Type} (f : α → β) : ∀ (xs : List α) (j : Nat), (xs.map f).eraseIdx j = (xs.eraseIdx j).map f
  | [], _ => rfl
  | _ :: _, 0 => rfl
  | x :: xs, j + 1 => by
    rw [List.map_cons, List.eraseIdx_cons_succ, List.eraseIdx_cons_succ, List.map_cons, erase_map' f xs j]
theorem at_mem_first {ns : List Int} {i : Int} (nd : ns.Nodup) (h : i ∈ ns) : ∃ j : Nat, ns[j]? = some i ∧ ∀ m : Nat, m < j → ns[m]? ≠ some i := by
  obtain ⟨j, hj, e⟩ := List.getElem_of_mem h
  refine ⟨j, by rw [List.getElem?_eq_getElem hj, e], fun m hm z => ?_⟩
  obtain ⟨hm2, e2⟩ := List.getElem?_eq_some_iff.1 z
  exact (List.pairwise_iff_getElem.1 (List.nodup_iff_pairwise_ne.1 nd)) m j hm2 hj hm (e2.trans e.symm)
theorem RD.bring6 {A B C D' E' G X : Res} (k : RD K D0 (star G (star A (star B (star C (star D' (star E' X)))))) l T) : RD K D0 (star A (star B (star C (star D' (star E' (star G X)))))) l T :=
  RD.res (S := star G (star A (star B (star C (star D' (star E' X)))))) (fun h => star_swap (star_right (fun z => star_swap (star_right (fun y => star_swap (star_right (fun x => star_swap (star_right (fun u => star_swap u) x)) y)) z)) h)) k
theorem RD.put6 {A B C D' E' G X : Res} (k : RD K D0 (star A (star B (star C (star D' (star E' (star G X)))))) l T) : RD K D0 (star G (star A (star B (star C (star D' (star E' X)))))) l T :=
  RD.res (S := star A (star B (star C (star D' (star E' (star G X)))))) (fun h => star_right (fun z => star_right (fun y => star_right (fun x => star_right (fun u => star_swap u) (star_swap x)) (star_swap y)) (star_swap z)) (star_swap h)) k
theorem PlanOk.less {k s e : Nat} {p : Plan} (h : PlanOk k s e p) (x : Edge) : PlanOk k s (e + 1) ⟨p.n, p.st, p.en, p.es.filter fun y => decide (y ≠ x)⟩ where
  n1 := h.n1
  ns := h.ns
  snd := h.snd
  st := h.st
  nnd := h.nnd
  en := h.en
  nd := h.nd.filter _
  len := Nat.le_trans (List.length_filter_le _ _) (Nat.le_trans h.len (Nat.le_succ _))
  ed := fun y hy => h.ed y (List.mem_filter.1 hy).1
theorem nodup_snoc {α : Type} {xs : List α} {x : α} (h : xs.Nodup) (n : x ∉ xs) : (xs ++ [x]).Nodup := by
  rw [List.nodup_append]
  refine ⟨h, by simp, fun a ha b hb => ?_⟩
  obtain rfl := List.mem_singleton.1 hb
  exact fun z => n (z ▸ ha)
theorem PlanOk.more {k s e : Nat} {p : Plan} (h : PlanOk k s e p) {x : Edge} (n : x ∉ p.es) (hx : (0 ≤ x.1 ∧ x.1 < p.n) ∧ x.2.1 ∈ ([97, 98, 99] : List Nat).take k ∧ (0 ≤ x.2.2 ∧ x.2.2 < p.n)) : PlanOk k s (e + 1) ⟨p.n, p.st, p.en, p.es ++ [x]⟩ where
  n1 := h.n1
  ns := h.ns
  snd := h.snd
  st := h.st
  nnd := h.nnd
  en := h.en
  nd := nodup_snoc h.nd n
  len := by
    have := h.len
    show (p.es ++ [x]).length ≤ _
    rw [List.length_append, List.length_singleton]
    omega
  ed := fun y hy => by
    rcases List.mem_append.1 hy with hy | hy
    · exact h.ed y hy
    · rw [List.mem_singleton.1 hy]
      exact hx
theorem PlanOk.setEn {k s e : Nat} {p : Plan} (h : PlanOk k s e p) {en : List Int} (nd : en.Nodup) (r : ∀ i ∈ en, 0 ≤ i ∧ i < p.n) : PlanOk k s (e + 1) ⟨p.n, p.st, en, p.es⟩ :=
  ⟨h.n1, h.ns, h.snd, h.st, nd, r, h.nd, Nat.le_trans h.len (Nat.le_succ _), h.ed⟩
theorem PlanOk.setSt {k s e : Nat} {p : Plan} (h : PlanOk k s e p) {st : List Int} (nd : st.Nodup) (r : ∀ i ∈ st, 0 ≤ i ∧ i < p.n) : PlanOk k s (e + 1) ⟨p.n, st, p.en, p.es⟩ :=
  ⟨h.n1, h.ns, nd, r, h.nnd, h.en, h.nd, Nat.le_trans h.len (Nat.le_succ _), h.ed⟩
theorem PlanOk.same {k s e : Nat} {p : Plan} (h : PlanOk k s e p) : PlanOk k s (e + 1) p :=
  ⟨h.n1, h.ns, h.snd, h.st, h.nnd, h.en, h.nd, Nat.le_trans h.len (Nat.le_succ _), h.ed⟩
theorem eqv_es {es : List Edge} : PyData.eqv (.list (es.map eD)) (.list []) = es.isEmpty := by
  cases es <;> simp [PyData.eqv, PyData.eqvAll]
theorem depth_es (es : List Edge) : (PyData.list (es.map eD)).depth ≤ 60 := by
  have h : PyData.depthAll (es.map eD) ≤ 1 := by
    induction es with
    | nil => simp [PyData.depthAll]
    | cons x xs ih =>
      have e : PyData.depthAll ((x :: xs).map eD) = max (eD x).depth (PyData.depthAll (xs.map eD)) := by simp [PyData.depthAll]
      have e2 : (eD x).depth ≤ 1 := by
        obtain ⟨o, c, t⟩ := x
        simp [eD, PyData.depth, PyData.depthAll]
      rw [e]
      omega
  simp only [PyData.depth]
  omega
/-- the plan's parts on top, then the pen and the machine -/
abbrev openR (K : PySem.W.Frag) (pe tool q a1 a2 a3 : Addr) (m : Mch) (p : Plan) (F : Res) : Res := star (objs [(q, .lst (planX p a1 a2 a3))]) (star (own K a3 (p.es.map eD)) (star (own K a2 (p.en.map .int)) (star (own K a1 (p.st.map .int)) (star (pen K pe) (star (mach K tool m) F)))))
theorem back_open {pe tool q a1 a2 a3 : Addr} {m : Mch} {p : Plan} (k : RD K D0 (star (pen K pe) (star (mach K tool m) (star (planR K q p) R))) l T) : RD K D0 (openR K pe tool q a1 a2 a3 m p R) l T := closePlan (RD.put3 k)
end
end GL

/-! G31: raise X() of an own class without a field. -/
namespace GL
open PySem PySem.Spec L2
open PyProof.Rows hiding St
section
variable {X : Cx} {C : Addr} {bmB : List Value} {B newId initId : String}
theorem pmk_own0 {x : Str} {p pos : Pos} (F : ExcBaseFacts B newId initId bmB) (q : PySem.W.excIn X.K C bmB newId = true) (gC : X.mg x = some (.ref C)) (kC : PySem.W.keepIn X.K (.ref C) = true) (r : Raises X (.ref C)) (hg : Gl X x)
    (hdb : (x == ("__debug__" : Str)) = false := by decide) : PMk X (.Call (.Name x p) [] [] pos) (fun _ H Q => Q (.ref C) none H) := by
  intro pins s σ H Q I h
  refine wpAny_Call_Name_kw (ld_glob I hg gC ?_ hdb)
  refine PySem.W.callWith_K0 I.kIn kC ?_
  show wpAny _ _ (call (.ref C) []) _ _ _
  obtain ⟨bm, N, nm, qn, bs, hdct, sn, sub, ab, col, dd, k0, k1, k2, k3, k5, mN, hC, hN, hni, T⟩ := exc_obj I.kIn q
  refine wpAny_call_exc_subT F T hC hN hni (fun h' e hm => ?_) (by show 0 ≤ sizeLine; omega)
  exact mk_of I hm r h (I.hok.gone hm.new)
def tRz0 (C : Addr) (W : WX) : TS := fun _ σ H => W (.ref C) none σ H
theorem g_raise0 {W : WX} {x : Str} {p pos pos2 : Pos} (F : ExcBaseFacts B newId initId bmB) (q : PySem.W.excIn X.K C bmB newId = true) (hc : X.calm = true) (tk : Takes X W) (hg : Gl X x) (gC : X.mg x = some (.ref C)) (kC : PySem.W.keepIn X.K (.ref C) = true) (r : Raises X (.ref C))
    (hdb : (x == ("__debug__" : Str)) = false := by decide) : PS X (.Raise (some (.Call (.Name x p) [] [] pos)) none pos2) (tRz0 C W) := ps_raise hc tk (pmk_own0 F q gC kC r hg hdb)
end
/-- an own class without a field: what its text must say -/
structure Ex0 (newId : String) (bmB : List Value) (K : PySem.W.Frag) (C : Addr) : Prop where
  q : PySem.W.excIn K C bmB newId = true
  sub : PySem.W.subIn K (.ref C) (.type "BaseException") = some true
  ty : PySem.W.typeIn K (.ref C) = some (.type "type")
  kp : PySem.W.keepIn K (.ref C) = true
  te : PySem.W.exmOne K (.ref C) (.ref C) = some true
def ex0 (newId : String) (bmB : List Value) (x : String) (K : PySem.W.Frag) : Bool :=
  PySem.W.excIn K (He.ga K x) bmB newId && (decide (PySem.W.subIn K (.ref (He.ga K x)) (.type "BaseException") = some true) && (decide (PySem.W.typeIn K (.ref (He.ga K x)) = some (.type "type")) && (PySem.W.keepIn K (.ref (He.ga K x)) && decide (PySem.W.exmOne K (.ref (He.ga K x)) (.ref (He.ga K x)) = some true))))
theorem ex0_ok {newId : String} {bmB : List Value} {K : PySem.W.Frag} {x : String} (h : ex0 newId bmB x K = true) : Ex0 newId bmB K (He.ga K x) := by
  unfold ex0 at h
  simp only [Bool.and_eq_true, decide_eq_true_eq] at h
  obtain ⟨h1, h2, h3, h4, h5⟩ := h
  exact ⟨h1, h2, h3, h4, h5⟩
section
variable {K : PySem.W.Frag} {D0 : Hp} {R : Res} {l : List (V × PyData)} {σ : L2.St} {D : Ends} {Q : VK} {T : Hp → Prop}
theorem d_rz0 {C : Addr} {W : WX} (k : RD K D0 R l (fun H => W (.ref C) none σ H)) : RD K D0 R l (fun H => tRz0 C W D σ H) := k
end
end GL

/-! M10: pairs of machines; a machine like its plan; edits. -/
namespace GL
open PySem PySem.Spec L2
open PyProof.Rows hiding St
open SX (S)
local macro_rules | `(tactic| walk_at "mem") => `(tactic| (first | exact List.Mem.head _ | exact List.Mem.tail _ (List.Mem.head _) | exact List.Mem.tail _ (List.Mem.tail _ (List.Mem.head _)) | ((repeat (first | exact List.Mem.head _ | apply List.Mem.tail)); done)))
local macro_rules | `(tactic| walk_at "inl") => `(tactic| (first | exact InL.int _ | exact InL.str _ | exact InL.bl _ | exact InL.non | (refine InL.mem ?zm; walk_at "mem") | assumption))
local macro_rules | `(tactic| walk_at "inls") => `(tactic| (repeat (first | exact InLs.nil | (refine InLs.cons ?zi ?_; case zi => walk_at "inl"))))
local macro_rules | `(tactic| walk_at "set") => `(tactic| (simp only [wipe, List.set_cons_succ, List.set_cons_zero]; rfl))
local macro_rules | `(tactic| walk_at "tails") => `(tactic| (first | exact sub_refl | exact sub_tail sub_refl | exact sub_tail (sub_tail sub_refl) | exact sub_nil | ((repeat (first | exact sub_refl | apply sub_tail)); done)))
local macro_rules | `(tactic| walk_at "sub") => `(tactic| (first | walk_at "tails" | ((repeat (refine sub_cons ?zi ?_; case zi => walk_at "inl")); walk_at "tails")))
local macro_rules | `(tactic| walk_at "g1") => `(tactic| (first
  | with_reducible refine d_seq ?_
  | with_reducible refine d_asg ?_
  | ((with_reducible refine d_name (σ' := ?zs) ?zh ?_); (case zh => walk_at "set"))
  | ((with_reducible refine d_var (v := ?zs) ?zh ?_); (case zh => rfl))
  | with_reducible refine d_C ?_
  | with_reducible refine d_op ?_
  | with_reducible refine d_cons ?_
  | with_reducible refine d_nil ?_
  | with_reducible refine d_cb ?_
  | with_reducible refine d_g ?_
  | with_reducible refine d_ifS ?_
  | with_reducible refine d_test ?_
  | with_reducible refine d_bl ?_
  | with_reducible refine d_addI ?_
  | with_reducible refine d_I0 ?_
  | with_reducible refine d_ret ?_
  | with_reducible refine d_retN ?_
  | with_reducible refine d_next ?_
  | with_reducible refine d_drop ?_
  | with_reducible refine d_and ?_
  | with_reducible refine d_or ?_
  | with_reducible refine d_not ?_
  | with_reducible refine d_andV ?_
  | with_reducible refine d_orV ?_
  | with_reducible refine d_notV ?_
  | with_reducible refine d_tru ?_
  | with_reducible refine d_truB ?_
  | with_reducible refine d_tif ?_
  | with_reducible refine d_iteT ?_
  | with_reducible refine d_iteF ?_
  | with_reducible refine d_iteNT ?_
  | with_reducible refine d_iteNF ?_
  | with_reducible refine d_eqI ?_
  | with_reducible refine d_neI ?_
  | with_reducible refine d_eqS ?_
  | with_reducible refine d_neS ?_
  | with_reducible refine d_eqB ?_
  | with_reducible refine d_neB ?_
  | with_reducible refine d_isN ?_
  | with_reducible refine d_notN ?_
  | with_reducible refine d_bm ?_
  | with_reducible refine d_tyS ?_
  | with_reducible refine d_tyO ?_
  | with_reducible refine d_find3 ?_
  | with_reducible refine d_tup ?_
  | with_reducible refine d_lst ?_
  | with_reducible refine d_for ?_
  | with_reducible refine d_iRng1 ?_
  | with_reducible refine d_gIt ?_
  | with_reducible refine d_lc ?_
  | with_reducible refine d_yes ?_
  | with_reducible refine d_tSl ?_
  | with_reducible refine d_noPart ?_
  | with_reducible refine d_part ?_
  | with_reducible refine d_int ?_
  | ((with_reducible refine d_wipe ?zh ?_); (case zh => rfl))
  | ((with_reducible refine d_aug (v := ?zs) ?zh ?_); (case zh => rfl))
  | with_reducible refine d_ipI ?_
  | ((with_reducible refine d_set (σ' := ?zs) ?zh ?_); (case zh => walk_at "set"))))
local macro_rules | `(tactic| walk_at "go") => `(tactic| (repeat walk_at "g1"))
local macro_rules | `(tactic| walk_at "g1") => `(tactic| (first
  | with_reducible refine d_chain ?_
  | with_reducible refine d_tB ?_
  | with_reducible refine d_tGM ?_
  | with_reducible refine d_tGN ?_
  | with_reducible refine d_rz ?_
  | with_reducible refine d_tXf ?_
  | with_reducible refine d_tFld ?_
  | with_reducible refine d_sFld ?_
  | with_reducible refine d_tMix ?_
  | with_reducible refine d_tDIn ?_
  | with_reducible refine d_tDNotIn ?_
  | with_reducible refine d_sDPut ?_
  | with_reducible refine d_sDDelT ?_
  | with_reducible refine d_tSet ?_
  | with_reducible refine d_gcons ?_
  | with_reducible refine d_gnil ?_
  | with_reducible refine d_iKeys ?_))
local macro_rules | `(tactic| walk_at "g1") => `(tactic| (first
  | with_reducible refine d_par ?_
  | with_reducible refine d_kPar ?_))
/-- the machine at a says how many signs it has -/
def Reads (K : PySem.W.Frag) (F : Res) (a : Addr) (k : Nat) : Prop := ∀ {D0 : Hp} {l : List (V × PyData)} {Q : VK}, RD K D0 F l (Q (.int k)) → RD K D0 F l (fun H => kFld K "signs" (.ref a) H Q)
section
variable {K : PySem.W.Frag} {W : WX} {D0 : Hp} {R : Res} {l : List (V × PyData)} {Q : VK} {vs : List V} {H : Hp} {E : XK} {P : Program} {w : World} {L : List (Addr × HO)} {σ : L2.St} {D : Ends} {T : Hp → Prop}
theorem reads_top (M : MCls K) {a : Addr} {m : Mch} : Reads K (star (mach K a m) R) a m.k := fun k => by
  refine openMach fun dx ed sd td nd5 => ?_
  refine d_fld (List.Mem.head _) M.c M.n1 (v := .int m.k) rfl ?_
  exact closeMach nd5 k
theorem reads_res {F F' : Res} {a : Addr} {k : Nat} (h : Reads K F' a k) (o : ∀ {N D H}, F.h N D H → F'.h N D H) (i : ∀ {N D H}, F'.h N D H → F.h N D H) : Reads K F a k := fun q => RD.res o (h (RD.res i q))
def sp_require_pair (K : PySem.W.Frag) : Sp := fun vs H Q E => ∃ (t a b : Addr) (ka kb : Nat) (D0 : Hp) (F : Res) (l : List (V × PyData)) (N : Addr → Prop), vs = [.ref t] ∧ D0 t = some (.tup [.ref a, .ref b]) ∧ At K D0 F l N H ∧ Reads K F a ka ∧ Reads K F b kb ∧
  (ka = kb → RD K D0 F l (Q .non)) ∧ (ka ≠ kb → RD K D0 F l (E (.ref (He.ga K "Unpaired")) none))
def t_require_pair (K : PySem.W.Frag) (W : WX) : TS := (tSeq (tAsg (tVar 0) (gTup K 2 (gCons (gName 1) (gCons (gName 2) gNil))))
  (tIfS (tTest (tOp (gNe K) (tFld K (tVar 1) "signs") (tFld K (tVar 2) "signs"))) (tRz0 (He.ga K "Unpaired") W) tNext))

theorem len_require_pair (h : sp_require_pair K vs H Q E) : vs.length = 1 := by
  obtain ⟨_, _, _, _, _, _, _, _, _, rfl, _⟩ := h
  rfl
theorem pure_require_pair (M : MCls K) (h : sp_require_pair K vs H Q E) : t_require_pair K (fun cls d _ H => E cls d H) { nx := fun _ H' => Q .non H', rt := Q } (start ["pair", "one", "two"] vs) H := by
  obtain ⟨t, a, b, ka, kb, D0, F, l, N, rfl, ht, A, ra, rb, k1, k2⟩ := h
  refine (?_ : RD K D0 F l (fun H => t_require_pair K (fun cls d _ H => E cls d H) _ [some (.ref t), none, none] H)) N H A
  unfold t_require_pair
  walk_at "go"
  refine d_gTup2D ht ?_
  walk_at "go"
  refine ra ?_
  walk_at "go"
  refine rb ?_
  walk_at "go"
  refine d_ite (fun h => ?_) (fun h => ?_)
  · have ne : ka ≠ kb := fun z => by
      subst z
      simp at h
    refine d_rz0 ?_
    exact k2 ne
  · have e : ka = kb := by
      have : (ka : Int) = (kb : Int) := by simpa using h
      omega
    walk_at "go"
    exact k1 e
theorem d_requirePair {t a b : Addr} {ka kb : Nat} (ht : D0 t = some (.tup [.ref a, .ref b])) (ra : Reads K R a ka) (rb : Reads K R b kb) (k1 : ka = kb → RD K D0 R l (Q .non)) (k2 : ka ≠ kb → RD K D0 R l (E (.ref (He.ga K "Unpaired")) none)) :
    RD K D0 R l (fun H => sp_require_pair K [.ref t] H Q E) := fun N H A => ⟨t, a, b, ka, kb, D0, R, l, N, rfl, ht, A, ra, rb, k1, k2⟩
def sp__law_unpaired (K : PySem.W.Frag) : Sp := fun vs H Q E => ∃ (a b : Addr) (ka kb : Nat) (D0 : Hp) (F : Res) (l : List (V × PyData)) (N : Addr → Prop), vs = [.ref a, .ref b] ∧ At K D0 F l N H ∧ Reads K F a ka ∧ Reads K F b kb ∧ RD K D0 F l (Q (.bl (!decide (ka = kb))))
def t__law_unpaired (K : PySem.W.Frag) (W : WX) : TS := (tSeq (tAsg (tC (.bl false)) (gName 2))
  (tSeq (tMix K (fun W1 => (tDrop (tG (sp_require_pair K) W1 (tCons (tTup (tCons (tVar 0) (tCons (tVar 1) tNil))) tNil)))) [(.ref (He.ga K "Unpaired"), none, (fun a cls d => (tAsg (tC (.bl true)) (gName 2))))] W)
  (tRet (tVar 2))))

theorem len__law_unpaired (h : sp__law_unpaired K vs H Q E) : vs.length = 2 := by
  obtain ⟨_, _, _, _, _, _, _, _, rfl, _⟩ := h
  rfl
theorem pure__law_unpaired {newId : String} {bmB : List Value} (X : Ex0 newId bmB K (He.ga K "Unpaired")) (h : sp__law_unpaired K vs H Q E) : t__law_unpaired K W { nx := fun _ H' => Q .non H', rt := Q } (start ["one", "other", "found"] vs) H := by
  obtain ⟨a, b, ka, kb, D0, F, l, N, rfl, A, ra, rb, kk⟩ := h
  refine (?_ : RD K D0 F l (fun H => t__law_unpaired K W _ [some (.ref a), some (.ref b), none] H)) N H A
  unfold t__law_unpaired
  walk_at "go"
  refine d_newTV (show 2 ≤ sizeLine by decide) fun q hq => ?_
  walk_at "go"
  refine d_requirePair (a := a) (b := b) upd_same ra rb (fun e => ?_) (fun e => ?_)
  · subst e
    walk_at "go"
    refine RD.moreD (same_upd hq) ?_
    rw [show (!decide (ka = ka)) = false from by simp] at kk
    exact kk
  · rw [show (!decide (ka = kb)) = true from by simp [e]] at kk
    dsimp only
    refine d_mixYes X.te fun e0 => ?_
    refine RD.moreD (same_upd hq) ?_
    walk_at "go"
    refine d_name (σ' := [some (.ref a), some (.ref b), some (.bl true)]) rfl ?_
    show RD K D0 F l (fun H => tRet (tVar 2) _ _ H)
    walk_at "go"
    exact kk
theorem d_unpaired {a b : Addr} {ka kb : Nat} (ra : Reads K R a ka) (rb : Reads K R b kb) (k : RD K D0 R l (Q (.bl (!decide (ka = kb))))) : RD K D0 R l (fun H => sp__law_unpaired K [.ref a, .ref b] H Q E) := fun N H A => ⟨a, b, ka, kb, D0, R, l, N, rfl, A, ra, rb, k⟩
/-! ### a machine's shape -/
def shapeD (m : Mch) : PyData := .tuple [.int m.k, .int m.n, .tuple ((sortE m.es).map eD), .tuple ((sortI m.st).map .int), .tuple ((sortI m.en).map .int)]
def sp__law_shape (K : PySem.W.Frag) : Sp := fun vs H Q _ => ∃ (a : Addr) (m : Mch) (D0 : Hp) (F : Res) (l : List (V × PyData)) (N : Addr → Prop), vs = [.ref a] ∧ At K D0 (star (mach K a m) F) l N H ∧ MOk m ∧ ∀ u, RD K D0 (star (mach K a m) F) ((u, shapeD m) :: l) (Q u)
def t__law_shape (K : PySem.W.Frag) (W : WX) : TS := (tRet (tTup (tCons (tFld K (tVar 0) "signs") (tCons (tFld K (tVar 0) "states") (tCons (tGM (He.ga K "Machine") "edges" (sp_Machine_edges K) W (tVar 0) tNil) (tCons (tGM (He.ga K "Machine") "starts" (sp_Machine_starts K) W (tVar 0) tNil) (tCons (tGM (He.ga K "Machine") "ends" (sp_Machine_ends K) W (tVar 0) tNil) tNil)))))))

theorem len__law_shape (h : sp__law_shape K vs H Q E) : vs.length = 1 := by
  obtain ⟨_, _, _, _, _, _, rfl, _⟩ := h
  rfl
theorem d_shape {a : Addr} {m : Mch} (mo : MOk m) (k : ∀ u, RD K D0 (star (mach K a m) R) ((u, shapeD m) :: l) (Q u)) : RD K D0 (star (mach K a m) R) l (fun H => sp__law_shape K [.ref a] H Q E) := fun N H A => ⟨a, m, D0, R, l, N, rfl, A, mo, k⟩
theorem pure__law_shape (M : MCls K) (h : sp__law_shape K vs H Q E) : t__law_shape K W { nx := fun _ H' => Q .non H', rt := Q } (start ["tool"] vs) H := by
  obtain ⟨a, m, D0, F, l, N, rfl, A, mo, kk⟩ := h
  refine (?_ : RD K D0 (star (mach K a m) F) l (fun H => t__law_shape K W _ [some (.ref a)] H)) N H A
  unfold t__law_shape
  walk_at "go"
  refine openMach fun dx ed sd td nd5 => ?_
  refine d_fld (List.Mem.head _) M.c M.n1 (v := .int m.k) rfl ?_
  walk_at "go"
  refine d_fld (List.Mem.head _) M.c M.n2 (v := .int m.n) rfl ?_
  refine closeMach nd5 ?_
  walk_at "go"
  refine d_kGM (fun _ _ _ => rfl) ?_
  walk_at "go"
  refine d_edgesE fun u1 => ?_
  walk_at "go"
  refine d_kGM (fun _ _ _ => rfl) ?_
  walk_at "go"
  refine d_startsI mo.snd fun u2 => ?_
  walk_at "go"
  refine d_kGM (fun _ _ _ => rfl) ?_
  walk_at "go"
  refine d_endsI mo.nnd fun u3 => ?_
  walk_at "go"
  refine d_newT (ds := [.int m.k, .int m.n, .tuple ((sortE m.es).map eD), .tuple ((sortI m.st).map .int), .tuple ((sortI m.en).map .int)]) (show 5 ≤ sizeLine by decide) (by walk_at "inls") fun u => ?_
  refine RD.weak ?_ (kk u)
  walk_at "sub"
/-! ### a machine like its plan -/
structure Like (k : Nat) (m : Mch) (p : Plan) : Prop where
  k : m.k = k
  n : m.n = p.n
  es : m.es.Perm p.es
  st : m.st.Perm p.st
  en : m.en.Perm p.en
theorem Like.ok {k s e : Nat} {m : Mch} {p : Plan} (h : Like k m p) (po : PlanOk k s e p) (k1 : 1 ≤ k) (k3 : k ≤ 3) (s6 : s ≤ 6) (e14 : e ≤ 14) : MOk m where
  k1 := h.k ▸ k1
  k3 := h.k ▸ k3
  n1 := h.n ▸ po.n1
  n6 := h.n ▸ Nat.le_trans po.ns s6
  len := h.es.length_eq ▸ Nat.le_trans po.len e14
  nd := h.es.nodup_iff.2 po.nd
  ed := fun x hx => by
    rw [h.n, h.k]
    exact po.ed x (h.es.mem_iff.1 hx)
  snd := h.st.nodup_iff.2 po.snd
  st := fun i hi => by
    rw [h.n]
    exact po.st i (h.st.mem_iff.1 hi)
  nnd := h.en.nodup_iff.2 po.nnd
  en := fun i hi => by
    rw [h.n]
    exact po.en i (h.en.mem_iff.1 hi)
theorem like_refl (k : Nat) (p : Plan) : Like k (machP k p) p := ⟨rfl, rfl, .refl _, .refl _, .refl _⟩
theorem like_twin {k : Nat} {m : Mch} {p : Plan} (h : Like k m p) (mo : MOk m) : Like k (twinM m) p where
  k := h.k
  n := h.n
  es := (sortE_perm m.es).trans h.es
  st := by
    refine ((List.perm_ext_iff_of_nodup (nodup_sortI _) mo.snd).2 fun i => mem_sortI).trans h.st
  en := by
    refine ((List.perm_ext_iff_of_nodup (nodup_sortI _) mo.nnd).2 fun i => mem_sortI).trans h.en
theorem like_leads {k : Nat} {m : Mch} {p : Plan} (h : Like k m p) (cs : List Nat) : hasI m cs = hasP p cs := by
  rw [Bool.eq_iff_iff, hasI_iff, hasP_iff]
  have path : ∀ {es es' : List Edge} {a b : Int} {cs : List Nat}, (∀ x ∈ es, x ∈ es') → Path es a cs b → Path es' a cs b := fun hs p => by
    induction p with
    | nil a => exact .nil a
    | cons h1 _ ih => exact .cons (hs _ h1) ih
  constructor
  · rintro ⟨a, ha, b, hb, q⟩
    exact ⟨a, h.st.mem_iff.1 ha, b, h.en.mem_iff.1 hb, path (fun x hx => h.es.mem_iff.1 hx) q⟩
  · rintro ⟨a, ha, b, hb, q⟩
    exact ⟨a, h.st.mem_iff.2 ha, b, h.en.mem_iff.2 hb, path (fun x hx => h.es.mem_iff.2 hx) q⟩
theorem like_after {k : Nat} {m : Mch} {p : Plan} (h : Like k m p) (cs : List Nat) : afterI m cs = walkI p.es (sortI p.st) cs := by
  have step : ∀ ns c, stepI m.es ns c = stepI p.es ns c := fun ns c => sortI_congr fun z => by
    simp only [List.mem_map, List.mem_filter]
    exact ⟨fun ⟨x, ⟨a, b⟩, e⟩ => ⟨x, ⟨h.es.mem_iff.1 a, b⟩, e⟩, fun ⟨x, ⟨a, b⟩, e⟩ => ⟨x, ⟨h.es.mem_iff.2 a, b⟩, e⟩⟩
  have st : sortI m.st = sortI p.st := sortI_congr fun z => h.st.mem_iff
  unfold afterI
  rw [st]
  generalize sortI p.st = ns
  induction cs generalizing ns with
  | nil => rfl
  | cons c cs ih =>
    show walkI m.es (stepI m.es ns c) cs = walkI p.es (stepI p.es ns c) cs
    rw [step]
    exact ih _
end
end GL

/-! K1: states_beyond, twins_of. -/
namespace GL
open PySem PySem.Spec L2
open PyProof.Rows hiding St
open SX (S)
local macro_rules | `(tactic| walk_at "mem") => `(tactic| (first | exact List.Mem.head _ | exact List.Mem.tail _ (List.Mem.head _) | exact List.Mem.tail _ (List.Mem.tail _ (List.Mem.head _)) | ((repeat (first | exact List.Mem.head _ | apply List.Mem.tail)); done)))
local macro_rules | `(tactic| walk_at "inl") => `(tactic| (first | exact InL.int _ | exact InL.str _ | exact InL.bl _ | exact InL.non | (refine InL.mem ?zm; walk_at "mem") | assumption))
local macro_rules | `(tactic| walk_at "inls") => `(tactic| (repeat (first | exact InLs.nil | (refine InLs.cons ?zi ?_; case zi => walk_at "inl"))))
local macro_rules | `(tactic| walk_at "set") => `(tactic| (simp only [wipe, List.set_cons_succ, List.set_cons_zero]; rfl))
local macro_rules | `(tactic| walk_at "tails") => `(tactic| (first | exact sub_refl | exact sub_tail sub_refl | exact sub_tail (sub_tail sub_refl) | exact sub_nil | ((repeat (first | exact sub_refl | apply sub_tail)); done)))
local macro_rules | `(tactic| walk_at "sub") => `(tactic| (first | walk_at "tails" | ((repeat (refine sub_cons ?zi ?_; case zi => walk_at "inl")); walk_at "tails")))
local macro_rules | `(tactic| walk_at "g1") => `(tactic| (first
  | with_reducible refine d_seq ?_
  | with_reducible refine d_asg ?_
  | ((with_reducible refine d_name (σ' := ?zs) ?zh ?_); (case zh => walk_at "set"))
  | ((with_reducible refine d_var (v := ?zs) ?zh ?_); (case zh => rfl))
  | with_reducible refine d_C ?_
  | with_reducible refine d_op ?_
  | with_reducible refine d_cons ?_
  | with_reducible refine d_nil ?_
  | with_reducible refine d_cb ?_
  | with_reducible refine d_g ?_
  | with_reducible refine d_ifS ?_
  | with_reducible refine d_test ?_
  | with_reducible refine d_bl ?_
  | with_reducible refine d_addI ?_
  | with_reducible refine d_I0 ?_
  | with_reducible refine d_ret ?_
  | with_reducible refine d_retN ?_
  | with_reducible refine d_next ?_
  | with_reducible refine d_drop ?_
  | with_reducible refine d_and ?_
  | with_reducible refine d_or ?_
  | with_reducible refine d_not ?_
  | with_reducible refine d_andV ?_
  | with_reducible refine d_orV ?_
  | with_reducible refine d_notV ?_
  | with_reducible refine d_tru ?_
  | with_reducible refine d_truB ?_
  | with_reducible refine d_tif ?_
  | with_reducible refine d_iteT ?_
  | with_reducible refine d_iteF ?_
  | with_reducible refine d_iteNT ?_
  | with_reducible refine d_iteNF ?_
  | with_reducible refine d_eqI ?_
  | with_reducible refine d_neI ?_
  | with_reducible refine d_eqS ?_
  | with_reducible refine d_neS ?_
  | with_reducible refine d_eqB ?_
  | with_reducible refine d_neB ?_
  | with_reducible refine d_isN ?_
  | with_reducible refine d_notN ?_
  | with_reducible refine d_bm ?_
  | with_reducible refine d_tyS ?_
  | with_reducible refine d_tyO ?_
  | with_reducible refine d_find3 ?_
  | with_reducible refine d_tup ?_
  | with_reducible refine d_lst ?_
  | with_reducible refine d_for ?_
  | with_reducible refine d_iRng1 ?_
  | with_reducible refine d_gIt ?_
  | with_reducible refine d_lc ?_
  | with_reducible refine d_yes ?_
  | with_reducible refine d_tSl ?_
  | with_reducible refine d_noPart ?_
  | with_reducible refine d_part ?_
  | with_reducible refine d_int ?_
  | ((with_reducible refine d_wipe ?zh ?_); (case zh => rfl))
  | ((with_reducible refine d_aug (v := ?zs) ?zh ?_); (case zh => rfl))
  | with_reducible refine d_ipI ?_
  | ((with_reducible refine d_set (σ' := ?zs) ?zh ?_); (case zh => walk_at "set"))))
local macro_rules | `(tactic| walk_at "go") => `(tactic| (repeat walk_at "g1"))
local macro_rules | `(tactic| walk_at "g1") => `(tactic| (first
  | with_reducible refine d_tB ?_
  | with_reducible refine d_tGM ?_
  | with_reducible refine d_tGN ?_
  | with_reducible refine d_tFld ?_
  | with_reducible refine d_sFld ?_
  | with_reducible refine d_gcons ?_
  | with_reducible refine d_gnil ?_
  | with_reducible refine d_gZip ?_
  | with_reducible refine d_gZip3 ?_))
def sp_Machine_states_beyond (K : PySem.W.Frag) : Sp := fun vs H Q _ => ∃ (a : Addr) (m : Mch) (v : V) (ns : List Int) (D0 : Hp) (F : Res) (l : List (V × PyData)) (N : Addr → Prop), vs = [.ref a, v] ∧ At K D0 (star (mach K a m) F) l N H ∧ InL l v (.tuple (ns.map .int)) ∧ MOk m ∧ ns.Nodup ∧ InRg m.n ns ∧
  ∀ (u : V) (G : List Int), (∀ x, x ∈ G ↔ Rc m.es ns x) → G.Nodup → RD K D0 (star (mach K a m) F) ((u, .tuple (G.map .int)) :: l) (Q u)
def t_Machine_states_beyond (K : PySem.W.Frag) (W : WX) : TS := (tSeq (tAsg (tCB (gList K) (tCons (tVar 1) tNil)) (gName 2))
  (tSeq (tAsg (tC (.int 0)) (gName 3))
  (tSeq (tWhile (tTest (tOp gLt (tVar 3) (tCB (gLen K) (tCons (tVar 2) tNil)))) (tSeq (tFor (gIt K (tGM (He.ga K "Machine") "edges" (sp_Machine_edges K) W (tVar 0) tNil)) (gTup K 3 (gCons (gName 4) (gCons (gName 5) (gCons (gName 6) gNil)))) (tIfS (tAnd (tTest (tOp (gEq K) (tVar 4) (tOp (rIx K) (tVar 2) (tVar 3)))) (tTest (tOp (gIn K true) (tVar 6) (tVar 2)))) (tDrop (tBM K "list" rAppend (tVar 2) (tCons (tVar 6) tNil))) tNext))
  (tAug 3 (tC (.int 1)) (ipI fun i j => i + j))))
  (tRet (tCB (gTuple K) (tCons (tCB (gSorted K) (tCons (tVar 2) tNil)) tNil))))))

section
variable {K : PySem.W.Frag} {W : WX} {D0 : Hp} {R : Res} {l : List (V × PyData)} {Q : VK} {vs : List V} {H : Hp} {E : XK}
theorem len_Machine_states_beyond (h : sp_Machine_states_beyond K vs H Q E) : vs.length = 2 := by
  obtain ⟨_, _, _, _, _, _, _, _, rfl, _⟩ := h
  rfl
theorem d_gListTO {x : V} {ds : List PyData} (hx : InL l x (.tuple ds)) (k : ∀ p, RD K D0 (star (own K p ds) R) l (Q (.ref p))) : RD K D0 R l (fun H => gList K [x] H Q) := fun N H A => by
  obtain ⟨a, xs, rfl, ha, hd⟩ := (A.dt hx).tuple
  exact ⟨a, xs, rfl, .inr (same_sqT off_same ha), fun p hp => k p _ _ (A.newOwn hp hd)⟩
theorem eqv_any (G : List Int) (y : Int) : ((G.map PyData.int).any fun e => PyData.eqv e (.int y)) = decide (y ∈ G) := by
  induction G with
  | nil => rfl
  | cons x G ih =>
    rw [List.map_cons, List.any_cons, ih, eqv_int]
    by_cases h : x = y
    · subst h
      simp
    · have : ¬ y = x := fun z => h z.symm
      simp [h, this]
theorem d_ixK {a : Addr} {G : List Int} {i : Nat} {x : Int} (hi : G[i]? = some x) (k : RD K D0 (star (own K a (G.map .int)) R) l (Q (.int x))) : RD K D0 (star (own K a (G.map .int)) R) l (fun H => rIx K (.ref a) (.int (i : Nat)) H Q) := fun N H A => by
  obtain ⟨xs, hx, hd⟩ := A.ownAt
  obtain rfl := hd.ints
  exact .inl ⟨a, _, _, .int x, rfl, rfl, SqL.of hx, atI_nat (by rw [List.getElem?_map, hi]; rfl), k N H A⟩
theorem rc_in {m : Mch} (mo : MOk m) {ns : List Int} (h : InRg m.n ns) {x : Int} (r : Rc m.es ns x) : 0 ≤ x ∧ x < m.n := by
  induction r with
  | base hx => exact h _ hx
  | step _ e ih => exact (mo.ed _ e).2.2
theorem pure_Machine_states_beyond (M : MCls K) (h : sp_Machine_states_beyond K vs H Q E) : t_Machine_states_beyond K W { nx := fun _ H' => Q .non H', rt := Q } (start ["self", "states", "found", "at", "origin", "_", "target"] vs) H := by
  obtain ⟨a, m, v, ns, D0, F, l, N, rfl, A, hv, mo, nd, rg, kk⟩ := h
  refine (?_ : RD K D0 (star (mach K a m) F) l (fun H => t_Machine_states_beyond K W _ [some (.ref a), some v, none, none, none, none, none] H)) N H A
  unfold t_Machine_states_beyond
  have big := line_big
  walk_at "go"
  refine d_gListTO hv fun q => ?_
  walk_at "go"
  refine d_while (m0 := 7) (fun k R' σ' l' => ∃ (G : List Int) (i : Nat) (o4 o5 o6 : Option V), R' = star (own K q (G.map .int)) (star (mach K a m) F) ∧ l' = l ∧ σ' = [some (.ref a), some v, some (.ref q), some (.int (i : Nat)), o4, o5, o6] ∧ k = 7 - i ∧ i ≤ G.length ∧
    G.Nodup ∧ (∀ x ∈ ns, x ∈ G) ∧ (∀ x ∈ G, Rc m.es ns x) ∧ ∀ x c y, x ∈ G.take i → (x, c, y) ∈ m.es → y ∈ G) ?_ ?_
  · exact ⟨ns, 0, none, none, none, rfl, rfl, rfl, rfl, Nat.zero_le _, nd, fun x h => h, fun x h => .base h, fun x c y h => absurd h List.not_mem_nil⟩
  rintro k R' σ' l' ⟨G, i, o4, o5, o6, rfl, rfl, rfl, rfl, hi, gn, g1, g2, g3⟩
  have grg : InRg m.n G := fun x hx => rc_in mo rg (g2 x hx)
  have gfew : G.length ≤ 6 := Nat.le_trans (few_in gn grg) mo.n6
  walk_at "go"
  refine d_lenO ?_
  rw [List.length_map]
  walk_at "go"
  refine d_iteP (fun hlt => ?_) (fun hge => ?_)
  · have hlt2 : i < G.length := by omega
    refine d_whileIn ?_
    walk_at "go"
    refine RD.rot ?_
    refine d_kGM (fun _ _ _ => rfl) ?_
    walk_at "go"
    refine d_edgesE fun u => ?_
    refine RD.rot ?_
    refine d_forTup (ds := (sortE m.es).map eD) (.mem (List.Mem.head _)) (fun j R2 σ2 l2 => ∃ (G2 : List Int) (o4 o5 o6 : Option V), R2 = star (own K q (G2.map .int)) (star (mach K a m) F) ∧ l2 = (u, PyData.tuple ((sortE m.es).map eD)) :: l' ∧
      σ2 = [some (.ref a), some v, some (.ref q), some (.int (i : Nat)), o4, o5, o6] ∧ G <+: G2 ∧ G2.Nodup ∧ (∀ x ∈ G2, Rc m.es ns x) ∧ ∀ c y, (G[i], c, y) ∈ (sortE m.es).take j → y ∈ G2) ?_ ?_ ?_ ?_
    · rintro j R2 σ2 l2 ⟨G2, o4, o5, o6, _, rfl, _⟩
      exact .mem (List.Mem.head _)
    · exact ⟨G, _, _, _, rfl, rfl, rfl, List.prefix_refl _, gn, g2, fun c y h => absurd h List.not_mem_nil⟩
    · rintro j d x R2 σ2 l2 hd dv ⟨G2, o4, o5, o6, rfl, rfl, rfl, pre, gn2, rc2, add⟩
      rw [List.getElem?_map, Option.map_eq_some_iff] at hd
      obtain ⟨⟨o, c, t⟩, he, rfl⟩ := hd
      have hem : (o, c, t) ∈ m.es := (sortE_perm m.es).mem_iff.1 (List.mem_of_getElem? he)
      have hGi : G2[i]? = some G[i] := by
        obtain ⟨z, rfl⟩ := pre
        rw [List.getElem?_append_left hlt2, List.getElem?_eq_getElem hlt2]
      have g2few : G2.length ≤ 6 := Nat.le_trans (few_in gn2 fun x hx => rc_in mo rg (rc2 x hx)) mo.n6
      refine d_gEdge (o := o) (s := S [c]) (t := t) (.mem (List.Mem.head _)) ?_
      walk_at "go"
      refine d_ixK hGi ?_
      walk_at "go"
      have stay : (o = G[i] → t ∈ G2) → RD K D0 (star (own K q (G2.map .int)) (star (mach K a m) F)) ((u, PyData.tuple ((sortE m.es).map eD)) :: l') (fun H => Cont K D0 (fun R2 σ2 l2 => ∃ (G2 : List Int) (o4 o5 o6 : Option V), R2 = star (own K q (G2.map .int)) (star (mach K a m) F) ∧ l2 = (u, PyData.tuple ((sortE m.es).map eD)) :: l' ∧
          σ2 = [some (.ref a), some v, some (.ref q), some (.int (i : Nat)), o4, o5, o6] ∧ G <+: G2 ∧ G2.Nodup ∧ (∀ x ∈ G2, Rc m.es ns x) ∧ ∀ c y, (G[i], c, y) ∈ (sortE m.es).take (j + 1) → y ∈ G2) [some (.ref a), some v, some (.ref q), some (.int (i : Nat)), some (.int o), some (.str (S [c])), some (.int t)] H) := fun hs => by
        refine d_end (l' := (u, PyData.tuple ((sortE m.es).map eD)) :: l') ?_ (by walk_at "tails")
        refine ⟨G2, _, _, _, rfl, rfl, rfl, pre, gn2, rc2, fun c2 y h => ?_⟩
        rw [List.take_add_one, he] at h
        rcases List.mem_append.1 h with h | h
        · exact add c2 y h
        · have e : (G[i], c2, y) = (o, c, t) := by simpa using h
          injection e with e1 e2
          injection e2 with e3 e4
          rw [e4]
          exact hs e1.symm
      refine d_iteP (fun ho => ?_) (fun ho => ?_)
      · walk_at "go"
        refine d_inO (d := .int t) (.int _) (by simp only [PyData.depth]; decide) ?_
        rw [if_pos rfl, eqv_any]
        walk_at "go"
        by_cases ht : t ∈ G2
        · rw [decide_eq_true ht]
          refine d_iteN rfl ?_
          walk_at "go"
          exact RD.weak (l' := (u, PyData.tuple ((sortE m.es).map eD)) :: l') (by walk_at "tails") (stay fun _ => ht)
        · rw [decide_eq_false ht]
          refine d_ite (fun _ => ?_) (fun z => absurd z (by decide))
          walk_at "go"
          refine d_append (d := .int t) (.int _) (by rw [List.length_map]; omega) ?_
          walk_at "go"
          dsimp only
          have og : o = G[i] := ho
          refine d_end (l' := (u, PyData.tuple ((sortE m.es).map eD)) :: l') ?_ (by walk_at "tails")
          refine ⟨G2 ++ [t], _, _, _, by rw [List.map_append]; rfl, rfl, rfl, pre.trans (List.prefix_append _ _), ?_, fun x hx => ?_, fun c2 y h => ?_⟩
          · rw [List.nodup_append]
            exact ⟨gn2, by simp, fun x hx y hy e => ht (by rw [List.mem_singleton] at hy; rw [← hy, ← e]; exact hx)⟩
          · rcases List.mem_append.1 hx with hx | hx
            · exact rc2 x hx
            · rw [List.mem_singleton] at hx
              rw [hx]
              exact .step (rc2 o (by rw [og]; exact pre.subset (List.getElem_mem hlt2))) hem
          · rw [List.take_add_one, he] at h
            rcases List.mem_append.1 h with h | h
            · exact List.mem_append_left _ (add c2 y h)
            · have e : (G[i], c2, y) = (o, c, t) := by simpa using h
              injection e with e1 e2
              injection e2 with e3 e4
              rw [e4]
              exact List.mem_append_right _ (List.mem_singleton.2 rfl)
      · walk_at "go"
        exact RD.weak (l' := (u, PyData.tuple ((sortE m.es).map eD)) :: l') (by walk_at "tails") (stay fun e => absurd e ho)
    · rintro R2 σ2 l2 ⟨G2, o4, o5, o6, rfl, rfl, rfl, pre, gn2, rc2, add⟩
      have g2few : G2.length ≤ 6 := Nat.le_trans (few_in gn2 fun x hx => rc_in mo rg (rc2 x hx)) mo.n6
      have hpl := pre.length_le
      walk_at "go"
      refine d_whileEnd (m' := 7 - (i + 1)) (l' := l') (by omega) ?_ (by walk_at "tails")
      refine ⟨G2, i + 1, _, _, _, rfl, rfl, rfl, rfl, by omega, gn2, fun x h => pre.subset (g1 x h), rc2, fun x c y hx he => ?_⟩
      have hGi : G2[i]? = some G[i] := by
        obtain ⟨z, rfl⟩ := pre
        rw [List.getElem?_append_left hlt2, List.getElem?_eq_getElem hlt2]
      rw [List.take_add_one, hGi] at hx
      rcases List.mem_append.1 hx with hx | hx
      · refine pre.subset (g3 x c y ?_ he)
        obtain ⟨z, rfl⟩ := pre
        rwa [List.take_append_of_le_length (by omega)] at hx
      · have ex : x = G[i] := by simpa using hx
        subst ex
        refine add c y ?_
        rw [List.length_map, List.take_length]
        exact (sortE_perm m.es).mem_iff.2 he
  · have ei : i = G.length := by omega
    subst ei
    rw [List.take_length] at g3
    walk_at "go"
    refine RD.freeze ?_
    refine d_sortedI (.mem (List.Mem.head _)) fun w => ?_
    walk_at "go"
    refine d_tupleL (.mem (List.Mem.head _)) fun u => ?_
    have p := List.mergeSort_perm G fun a b => decide (a ≤ b)
    refine RD.weak (l' := (u, .tuple ((G.mergeSort fun a b => decide (a ≤ b)).map .int)) :: l') (by walk_at "sub") (kk u _ (fun x => ?_) (p.nodup_iff.2 gn))
    rw [p.mem_iff]
    exact search_all g1 g2 (fun x c y hx he => g3 x c y hx he) x
theorem d_beyond {a : Addr} {m : Mch} {v : V} {ns : List Int} (hv : InL l v (.tuple (ns.map .int))) (mo : MOk m) (nd : ns.Nodup) (rg : InRg m.n ns) (kk : ∀ (u : V) (G : List Int), (∀ x, x ∈ G ↔ Rc m.es ns x) → G.Nodup → RD K D0 (star (mach K a m) R) ((u, .tuple (G.map .int)) :: l) (Q u)) :
    RD K D0 (star (mach K a m) R) l (fun H => sp_Machine_states_beyond K [.ref a, v] H Q E) := fun N H A => ⟨a, m, v, ns, D0, R, l, N, rfl, A, hv, mo, nd, rg, kk⟩
end
end GL

/-! G38: a tuple of any values as a resource; zips whose last source is a list that stands. -/
namespace GL
open PySem PySem.Spec L2
open PyProof.Rows hiding St
/-- this tuple stands -/
def tupR (t : Addr) (xs : List V) : Res where
  h := fun N D _ => (∀ b, ¬ N b) ∧ D t = some (.tup xs)
  st := fun ⟨e, h⟩ s _ => ⟨e, s _ _ h⟩
section
variable {K : PySem.W.Frag} {D0 : Hp} {R : Res} {l : List (V × PyData)} {σ : L2.St} {Q : VK} {T : Hp → Prop}
theorem RD.openTup {t : Addr} {xs : List V} (k : ∀ D1, Same D0 D1 → D1 t = some (.tup xs) → RD K D1 R l T) : RD K D0 (star (tupR t xs) R) l T := fun N H A => by
  obtain ⟨N1, N2, e, dj, ⟨e1, ht⟩, h2⟩ := A.r
  have en : ∀ b, N b ↔ N2 b := fun b => (e b).trans ⟨fun z => z.elim (fun q => absurd q (e1 b)) id, .inr⟩
  have eN : N = N2 := funext fun b => propext (en b)
  subst eN
  refine k (upd D0 t (.tup xs)) (fun b u hb => ?_) upd_same N H ⟨A.nt, h2, fun b u hb => ?_, A.f⟩
  · by_cases z : b = t
    · subst z
      have h1 := A.d0 _ _ hb
      rw [ht] at h1
      rw [upd_same, ← h1]
    · rw [upd_ne z]
      exact hb
  · by_cases z : b = t
    · subst z
      rw [upd_same] at hb
      rw [← hb]
      exact ht
    · rw [upd_ne z] at hb
      exact A.d0 b u hb
theorem RD.closeTup {t : Addr} {xs : List V} (h : D0 t = some (.tup xs)) (k : RD K D0 (star (tupR t xs) R) l T) : RD K D0 R l T := fun N H A =>
  k N H ⟨A.nt, ⟨fun _ => False, N, fun b => ⟨.inr, fun z => z.elim False.elim id⟩, fun _ z _ => z, ⟨fun _ z => z, A.d0 _ _ h⟩, A.r⟩, A.d0, A.f⟩
theorem d_lcZip3F {g : TG} {tt : TT} {te : TE} {vs : List Nat} {c1 c2 : Sc} {xs ys : List V} {v : V} {ds : List PyData} (s1 : SrcOk K D0 R l c1 xs) (s2 : SrcOk K D0 R l c2 ys) (hv : InL l v (.list ds)) (e2 : ys.length = xs.length) (e3 : ds.length = xs.length) (Pd : Nat → List PyData → Prop) (h0 : Pd 0 [])
    (hs : ∀ (i : Nat) x y z d q Dd es, xs[i]? = some x → ys[i]? = some y → ds[i]? = some d → D0 q = none → Pd i es → RD K (upd D0 q (.tup [x, y, z])) (star (own K Dd es) R) ((z, d) :: l) (fun H => g (.ref q) (wipe σ vs) H fun σ2 H2 => kWipe σ2 vs σ H2 fun H2 => tt σ2 H2 fun b H3 =>
      if b = true then te σ2 H3 fun y H4 => kItem Dd y H4 (ContC K D0 Dd (Cont1 K D0 R l (Pd (i + 1)))) else ContC K D0 Dd (Cont1 K D0 R l (Pd (i + 1))) H3))
    (hd : ∀ v es, Pd xs.length es → RD K D0 R ((v, .list es) :: l) (Q v)) :
    RD K D0 R l (fun H => kZip3 K [c1.v, c2.v, v] H fun J H1 => LcK g tt te vs σ Q J H1) := fun N H A => by
  obtain ⟨b, zs0, rfl, hb0, _⟩ := (A.dt hv).list
  refine ⟨c1, c2, .lst b, xs, ys, zs0, rfl, s1 _ _ _ A.objs0, s2 _ _ _ A.objs0, SqL.of (off_same _ _ hb0), fun Dd hD => ⟨fun i m H => m = xs.length - i ∧ i ≤ xs.length ∧ ContC K D0 Dd (Cont1 K D0 R l (Pd i)) H, ⟨_, rfl, Nat.zero_le _, R, l, [], _, ⟨rfl, rfl, h0⟩, A.newOwn hD .nil⟩, ?_⟩⟩
  rintro i m H' ⟨rfl, hi, R', l', es, N', ⟨rfl, rfl, p⟩, A'⟩
  have g1 := s1 _ _ _ A'
  have g2 := s2 _ _ _ A'
  obtain ⟨b', zs, eb, hb, dz⟩ := (A'.dt hv).list
  cases eb
  have g3 : (Sc.lst b).has K H' zs := SqL.of (off_same _ _ hb)
  by_cases hlt : i < xs.length
  · refine .inr ⟨⟨xs, ys, zs, g1, g2, g3, hlt, by omega, by rw [dz.len]; omega⟩, ContC K D0 Dd (Cont1 K D0 R' l' (Pd (i + 1))), fun H2 p => ⟨xs.length - (i + 1), by omega, rfl, hlt, p⟩, ?_⟩
    rintro w H2 ⟨q, x, y, z, rfl, hq, rfl, hx, hy, hz⟩
    obtain ⟨d, ed, dd⟩ := dz.get (hz _ g3)
    obtain ⟨dq, A2⟩ := (A'.facts dd).newTD (xs := [x, y, z]) hq
    exact hs i x y z d q Dd es (hx _ g1) (hy _ g2) ed dq p N' _ A2
  · have e : i = xs.length := by omega
    subst e
    obtain ⟨N2, A2⟩ := A'.freeze
    exact .inl ⟨⟨xs, ys, zs, g1, g2, g3, by rw [e2, dz.len, e3]; omega⟩, hd (.ref Dd) es p N2 H' A2⟩
theorem d_lcZip2F {g : TG} {tt : TT} {te : TE} {vs : List Nat} {c1 : Sc} {xs : List V} {v : V} {ds : List PyData} (s1 : SrcOk K D0 R l c1 xs) (hv : InL l v (.list ds)) (e3 : ds.length = xs.length) (Pd : Nat → List PyData → Prop) (h0 : Pd 0 [])
    (hs : ∀ (i : Nat) x z d q Dd es, xs[i]? = some x → ds[i]? = some d → D0 q = none → Pd i es → RD K (upd D0 q (.tup [x, z])) (star (own K Dd es) R) ((z, d) :: l) (fun H => g (.ref q) (wipe σ vs) H fun σ2 H2 => kWipe σ2 vs σ H2 fun H2 => tt σ2 H2 fun b H3 =>
      if b = true then te σ2 H3 fun y H4 => kItem Dd y H4 (ContC K D0 Dd (Cont1 K D0 R l (Pd (i + 1)))) else ContC K D0 Dd (Cont1 K D0 R l (Pd (i + 1))) H3))
    (hd : ∀ v es, Pd xs.length es → RD K D0 R ((v, .list es) :: l) (Q v)) :
    RD K D0 R l (fun H => kZip K [c1.v, v] H fun J H1 => LcK g tt te vs σ Q J H1) := fun N H A => by
  obtain ⟨b, zs0, rfl, hb0, _⟩ := (A.dt hv).list
  refine ⟨c1, .lst b, xs, zs0, rfl, s1 _ _ _ A.objs0, SqL.of (off_same _ _ hb0), fun Dd hD => ⟨fun i m H => m = xs.length - i ∧ i ≤ xs.length ∧ ContC K D0 Dd (Cont1 K D0 R l (Pd i)) H, ⟨_, rfl, Nat.zero_le _, R, l, [], _, ⟨rfl, rfl, h0⟩, A.newOwn hD .nil⟩, ?_⟩⟩
  rintro i m H' ⟨rfl, hi, R', l', es, N', ⟨rfl, rfl, p⟩, A'⟩
  have g1 := s1 _ _ _ A'
  obtain ⟨b', zs, eb, hb, dz⟩ := (A'.dt hv).list
  cases eb
  have g3 : (Sc.lst b).has K H' zs := SqL.of (off_same _ _ hb)
  by_cases hlt : i < xs.length
  · refine .inr ⟨⟨xs, zs, g1, g3, hlt, by rw [dz.len]; omega⟩, ContC K D0 Dd (Cont1 K D0 R' l' (Pd (i + 1))), fun H2 p => ⟨xs.length - (i + 1), by omega, rfl, hlt, p⟩, ?_⟩
    rintro w H2 ⟨q, x, z, rfl, hq, rfl, hx, hz⟩
    obtain ⟨d, ed, dd⟩ := dz.get (hz _ g3)
    obtain ⟨dq, A2⟩ := (A'.facts dd).newTD (xs := [x, z]) hq
    exact hs i x z d q Dd es (hx _ g1) ed dq p N' _ A2
  · have e : i = xs.length := by omega
    subst e
    obtain ⟨N2, A2⟩ := A'.freeze
    exact .inl ⟨⟨xs, zs, g1, g3, by rw [dz.len, e3]; omega⟩, hd (.ref Dd) es p N2 H' A2⟩
end
end GL

/-! K2: KindFollower. -/
namespace GL
open PySem PySem.Spec L2
open PyProof.Rows hiding St
open SX (S)
local macro_rules | `(tactic| walk_at "mem") => `(tactic| (first | exact List.Mem.head _ | exact List.Mem.tail _ (List.Mem.head _) | exact List.Mem.tail _ (List.Mem.tail _ (List.Mem.head _)) | ((repeat (first | exact List.Mem.head _ | apply List.Mem.tail)); done)))
local macro_rules | `(tactic| walk_at "inl") => `(tactic| (first | exact InL.int _ | exact InL.str _ | exact InL.bl _ | exact InL.non | (refine InL.mem ?zm; walk_at "mem") | assumption))
local macro_rules | `(tactic| walk_at "inls") => `(tactic| (repeat (first | exact InLs.nil | (refine InLs.cons ?zi ?_; case zi => walk_at "inl"))))
local macro_rules | `(tactic| walk_at "set") => `(tactic| (simp only [wipe, List.set_cons_succ, List.set_cons_zero]; rfl))
local macro_rules | `(tactic| walk_at "tails") => `(tactic| (first | exact sub_refl | exact sub_tail sub_refl | exact sub_tail (sub_tail sub_refl) | exact sub_nil | ((repeat (first | exact sub_refl | apply sub_tail)); done)))
local macro_rules | `(tactic| walk_at "sub") => `(tactic| (first | walk_at "tails" | ((repeat (refine sub_cons ?zi ?_; case zi => walk_at "inl")); walk_at "tails")))
local macro_rules | `(tactic| walk_at "g1") => `(tactic| (first
  | with_reducible refine d_seq ?_
  | with_reducible refine d_asg ?_
  | ((with_reducible refine d_name (σ' := ?zs) ?zh ?_); (case zh => walk_at "set"))
  | ((with_reducible refine d_var (v := ?zs) ?zh ?_); (case zh => rfl))
  | with_reducible refine d_C ?_
  | with_reducible refine d_op ?_
  | with_reducible refine d_cons ?_
  | with_reducible refine d_nil ?_
  | with_reducible refine d_cb ?_
  | with_reducible refine d_g ?_
  | with_reducible refine d_ifS ?_
  | with_reducible refine d_test ?_
  | with_reducible refine d_bl ?_
  | with_reducible refine d_addI ?_
  | with_reducible refine d_I0 ?_
  | with_reducible refine d_ret ?_
  | with_reducible refine d_retN ?_
  | with_reducible refine d_next ?_
  | with_reducible refine d_drop ?_
  | with_reducible refine d_and ?_
  | with_reducible refine d_or ?_
  | with_reducible refine d_not ?_
  | with_reducible refine d_andV ?_
  | with_reducible refine d_orV ?_
  | with_reducible refine d_notV ?_
  | with_reducible refine d_tru ?_
  | with_reducible refine d_truB ?_
  | with_reducible refine d_tif ?_
  | with_reducible refine d_iteT ?_
  | with_reducible refine d_iteF ?_
  | with_reducible refine d_iteNT ?_
  | with_reducible refine d_iteNF ?_
  | with_reducible refine d_eqI ?_
  | with_reducible refine d_neI ?_
  | with_reducible refine d_eqS ?_
  | with_reducible refine d_neS ?_
  | with_reducible refine d_eqB ?_
  | with_reducible refine d_neB ?_
  | with_reducible refine d_isN ?_
  | with_reducible refine d_notN ?_
  | with_reducible refine d_bm ?_
  | with_reducible refine d_tyS ?_
  | with_reducible refine d_tyO ?_
  | with_reducible refine d_find3 ?_
  | with_reducible refine d_tup ?_
  | with_reducible refine d_lst ?_
  | with_reducible refine d_for ?_
  | with_reducible refine d_iRng1 ?_
  | with_reducible refine d_gIt ?_
  | with_reducible refine d_lc ?_
  | with_reducible refine d_yes ?_
  | with_reducible refine d_tSl ?_
  | with_reducible refine d_noPart ?_
  | with_reducible refine d_part ?_
  | with_reducible refine d_int ?_
  | ((with_reducible refine d_wipe ?zh ?_); (case zh => rfl))
  | ((with_reducible refine d_aug (v := ?zs) ?zh ?_); (case zh => rfl))
  | with_reducible refine d_ipI ?_
  | ((with_reducible refine d_set (σ' := ?zs) ?zh ?_); (case zh => walk_at "set"))))
local macro_rules | `(tactic| walk_at "go") => `(tactic| (repeat walk_at "g1"))
local macro_rules | `(tactic| walk_at "g1") => `(tactic| (first
  | with_reducible refine d_tB ?_
  | with_reducible refine d_tGM ?_
  | with_reducible refine d_tGN ?_
  | with_reducible refine d_tFld ?_
  | with_reducible refine d_sFld ?_
  | with_reducible refine d_gcons ?_
  | with_reducible refine d_gnil ?_
  | with_reducible refine d_gZip ?_
  | with_reducible refine d_gZip3 ?_))
def kfFs (t b : Addr) : List (Str × V) := [("_machines", .ref t), ("_behind", .ref b)]
def kfL (K : PySem.W.Frag) (a dx t b : Addr) : List (Addr × HO) := [(a, .ins (He.ga K "KindFollower") dx (kfFs t b)), (dx, .own a)]
def insD (s : List Int) : PyData := .tuple (s.map .int)
/-- the two machines of its own and the states behind what is read -/
structure Kd where
  m1 : Mch
  m2 : Mch
  s1 : List Int
  s2 : List Int
def kindC (K : PySem.W.Frag) (a dx t b x1 x2 : Addr) (k : Kd) : Res := star (objs (kfL K a dx t b)) (star (tupR t [.ref x1, .ref x2]) (star (facts K [.ref b] [.list [insD k.s1, insD k.s2]]) (star (mach K x1 k.m1) (mach K x2 k.m2))))
def kindR (K : PySem.W.Frag) (a : Addr) (k : Kd) : Res where
  h := fun N D H => ∃ dx t b x1 x2, a ≠ dx ∧ (kindC K a dx t b x1 x2 k).h N D H
  st := fun ⟨dx, t, b, x1, x2, ne, h⟩ s q => ⟨dx, t, b, x1, x2, ne, (kindC K a dx t b x1 x2 k).st h s q⟩
def sp_KindFollower_read (K : PySem.W.Frag) : Sp := fun vs H Q _ => ∃ (a : Addr) (k : Kd) (c : Nat) (D0 : Hp) (F : Res) (l : List (V × PyData)) (N : Addr → Prop), vs = [.ref a, .str (S [c])] ∧ At K D0 (star (kindR K a k) F) l N H ∧ c ∈ ([97, 98, 99] : List Nat).take k.m1.k ∧ k.m1.es.length ≤ 40 ∧ k.m2.es.length ≤ 40 ∧
  RD K D0 (star (kindR K a { k with s1 := stepI k.m1.es k.s1 c, s2 := stepI k.m2.es k.s2 c }) F) l (Q .non)
def t_KindFollower_read (K : PySem.W.Frag) (W : WX) : TS := (tSeq (tDrop (tG (sp_require_sign K) W (tCons (tVar 1) (tCons (tFld K (tOp (rIx K) (tFld K (tVar 0) "_machines") (tC (.int 0))) "signs") tNil))))
  (sFld K (tVar 0) (tLc (gZip K (tCons (tFld K (tVar 0) "_machines") (tCons (tFld K (tVar 0) "_behind") tNil))) (gTup K 2 (gCons (gName 2) (gCons (gName 3) gNil))) tYes (tGM (He.ga K "Machine") "states_behind" (sp_Machine_states_behind K) W0 (tVar 2) (tCons (tVar 3) (tCons (tVar 1) tNil))) [2, 3]) "_behind"))

structure KCls (K : PySem.W.Frag) : Prop where
  c : Cls K (He.ga K "KindFollower")
  n1 : NoAttr K (He.ga K "KindFollower") "_machines"
  n2 : NoAttr K (He.ga K "KindFollower") "_behind"
def holdB (m : Mch) (s : List Int) : Bool := s.any fun i => decide (i ∈ m.en)
def kdL (h1 h2 : Bool) : Nat → List PyData
  | 0 => []
  | 1 => if h1 then [.str "A"] else []
  | _ => (if h1 then [.str "A"] else []) ++ if h2 then [.str "B"] else []
theorem ones_AB : ones ("AB" : Str) = [.str "A", .str "B"] := by decide +kernel
def sp_KindFollower_is_now (K : PySem.W.Frag) : Sp := fun vs H Q _ => ∃ (a : Addr) (k : Kd) (D0 : Hp) (F : Res) (l : List (V × PyData)) (N : Addr → Prop), vs = [.ref a] ∧ At K D0 (star (kindR K a k) F) l N H ∧ k.s1.length ≤ 1000 ∧ k.s2.length ≤ 1000 ∧
  ∀ u, RD K D0 (star (kindR K a k) F) ((u, .tuple (kdL (holdB k.m1 k.s1) (holdB k.m2 k.s2) 2)) :: l) (Q u)
def t_KindFollower_is_now (K : PySem.W.Frag) (W : WX) : TS := (tRet (tCB (gTuple K) (tCons (tLc (gZip3 K (tCons (tC (.str "AB")) (tCons (tFld K (tVar 0) "_machines") (tCons (tFld K (tVar 0) "_behind") tNil)))) (gTup K 3 (gCons (gName 1) (gCons (gName 2) (gCons (gName 3) gNil)))) (tTru K (tGM (He.ga K "Machine") "holds_end" (sp_Machine_holds_end K) W0 (tVar 2) (tCons (tVar 3) tNil))) (tVar 1) [1, 2, 3]) tNil)))

structure Kok (k : Kd) : Prop where
  o1 : MOk k.m1
  o2 : MOk k.m2
  d1 : k.s1.Nodup
  d2 : k.s2.Nodup
  r1 : InRg k.m1.n k.s1
  r2 : InRg k.m2.n k.s2
theorem Kok.l1 {k : Kd} (h : Kok k) : k.s1.length ≤ 1000 := Nat.le_trans (few_in h.d1 h.r1) (Nat.le_trans h.o1.n6 (by decide))
theorem Kok.l2 {k : Kd} (h : Kok k) : k.s2.length ≤ 1000 := Nat.le_trans (few_in h.d2 h.r2) (Nat.le_trans h.o2.n6 (by decide))
def CanB (m : Mch) (s : List Int) (c : Bool) : Prop := c = true ↔ ∃ x, Rc m.es s x ∧ x ∈ m.en
theorem can_ex (m : Mch) (s : List Int) : ∃ c, CanB m s c := by
  by_cases h : ∃ x, Rc m.es s x ∧ x ∈ m.en
  · exact ⟨true, Iff.intro (fun _ => h) fun _ => rfl⟩
  · exact ⟨false, Iff.intro (fun z => by cases z) fun z => absurd z h⟩
theorem can_hold {m : Mch} {s G : List Int} {c : Bool} (h : CanB m s c) (g : ∀ x, x ∈ G ↔ Rc m.es s x) : (G.any fun i => decide (i ∈ m.en)) = c := by
  have e : (G.any fun i => decide (i ∈ m.en)) = true ↔ c = true := by
    have h' : c = true ↔ ∃ x, Rc m.es s x ∧ x ∈ m.en := h
    rw [h', List.any_eq_true]
    exact ⟨fun ⟨x, h1, h2⟩ => ⟨x, (g x).1 h1, of_decide_eq_true h2⟩, fun ⟨x, h1, h2⟩ => ⟨x, (g x).2 h1, decide_eq_true h2⟩⟩
  cases c with
  | true => exact e.2 rfl
  | false =>
    cases hh : G.any fun i => decide (i ∈ m.en) with
    | false => rfl
    | true => exact absurd (e.1 hh) (by decide)
def sp_KindFollower_can_become (K : PySem.W.Frag) : Sp := fun vs H Q _ => ∃ (a : Addr) (k : Kd) (D0 : Hp) (F : Res) (l : List (V × PyData)) (N : Addr → Prop), vs = [.ref a] ∧ At K D0 (star (kindR K a k) F) l N H ∧ Kok k ∧
  ∀ u c1 c2, CanB k.m1 k.s1 c1 → CanB k.m2 k.s2 c2 → RD K D0 (star (kindR K a k) F) ((u, .tuple (kdL c1 c2 2)) :: l) (Q u)
def t_KindFollower_can_become (K : PySem.W.Frag) (W : WX) : TS := (tRet (tCB (gTuple K) (tCons (tLc (gZip3 K (tCons (tC (.str "AB")) (tCons (tFld K (tVar 0) "_machines") (tCons (tFld K (tVar 0) "_behind") tNil)))) (gTup K 3 (gCons (gName 1) (gCons (gName 2) (gCons (gName 3) gNil)))) (tTru K (tGM (He.ga K "Machine") "holds_end" (sp_Machine_holds_end K) W0 (tVar 2) (tCons (tGM (He.ga K "Machine") "states_beyond" (sp_Machine_states_beyond K) W0 (tVar 2) (tCons (tVar 3) tNil)) tNil))) (tVar 1) [1, 2, 3]) tNil)))

def sp_KindFollower_is_settled (K : PySem.W.Frag) : Sp := fun vs H Q _ => ∃ (a : Addr) (k : Kd) (D0 : Hp) (F : Res) (l : List (V × PyData)) (N : Addr → Prop), vs = [.ref a] ∧ At K D0 (star (kindR K a k) F) l N H ∧ Kok k ∧
  ∀ c1 c2, CanB k.m1 k.s1 c1 → CanB k.m2 k.s2 c2 → RD K D0 (star (kindR K a k) F) l (Q (.bl (decide (((kdL c1 c2 2).length : Int) ≤ 1))))
def t_KindFollower_is_settled (K : PySem.W.Frag) (W : WX) : TS := (tRet (tOp gLe (tCB (gLen K) (tCons (tGM (He.ga K "KindFollower") "can_become" (sp_KindFollower_can_become K) W (tVar 0) tNil) tNil)) (tC (.int 1))))

section
variable {K : PySem.W.Frag} {W : WX} {D0 : Hp} {R : Res} {l : List (V × PyData)} {Q : VK} {vs : List V} {H : Hp} {E : XK} {T : Hp → Prop}
theorem openK {a : Addr} {k : Kd} (kk : ∀ dx t b x1 x2 D1, a ≠ dx → Same D0 D1 → D1 t = some (.tup [.ref x1, .ref x2]) → RD K D1 (star (objs (kfL K a dx t b)) (star (mach K x1 k.m1) (star (mach K x2 k.m2) R))) ((.ref b, .list [insD k.s1, insD k.s2]) :: l) T) : RD K D0 (star (kindR K a k) R) l T := fun N H A => by
  obtain ⟨N1, N2, e, dj, ⟨dx, t, b, x1, x2, ne, h1⟩, h2⟩ := A.r
  have z : RD K D0 (star (kindC K a dx t b x1 x2 k) R) l T := RD.pull (RD.rot (RD.pull (RD.openTup fun D1 sm ht => RD.pull (RD.openFacts (RD.pull (RD.third (kk dx t b x1 x2 D1 ne sm ht)))))))
  exact z N H ⟨A.nt, ⟨N1, N2, e, dj, h1, h2⟩, A.d0, A.f⟩
theorem closeK {a dx t b x1 x2 : Addr} {k : Kd} (ne : a ≠ dx) (ht : D0 t = some (.tup [.ref x1, .ref x2])) (hb : InL l (.ref b) (.list [insD k.s1, insD k.s2])) (kk : RD K D0 (star (kindR K a k) R) l T) : RD K D0 (star (objs (kfL K a dx t b)) (star (mach K x1 k.m1) (star (mach K x2 k.m2) R))) l T :=
  RD.back (RD.push (RD.closeFacts (.cons hb .nil) (RD.push (RD.closeTup ht (RD.push (RD.rot (RD.push (RD.res (S := star (kindR K a k) R) (fun h => by
    obtain ⟨N1, N2, e0, dj, h1, h2⟩ := h
    exact ⟨N1, N2, e0, dj, ⟨dx, t, b, x1, x2, ne, h1⟩, h2⟩) kk))))))))
theorem len_KindFollower_is_now (h : sp_KindFollower_is_now K vs H Q E) : vs.length = 1 := by
  obtain ⟨_, _, _, _, _, _, rfl, _⟩ := h
  rfl
theorem srcAB : SrcOk K D0 R l (.txt "AB") [.str "A", .str "B"] := fun S N H A => by
  rw [← ones_AB]
  exact srcTxt (R := R) S N H A
theorem pure_KindFollower_is_now (P : KCls K) (h : sp_KindFollower_is_now K vs H Q E) : t_KindFollower_is_now K W { nx := fun _ H' => Q .non H', rt := Q } (start ["self", "kind", "machine", "states"] vs) H := by
  obtain ⟨a, k, D0, F, l, N, rfl, A, n1, n2, kk⟩ := h
  refine (?_ : RD K D0 (star (kindR K a k) F) l (fun H => t_KindFollower_is_now K W _ [some (.ref a), none, none, none] H)) N H A
  unfold t_KindFollower_is_now
  have big := line_big
  refine openK fun dx t b x1 x2 D1 ne sm ht => ?_
  walk_at "go"
  refine d_fld (v := .ref t) (List.Mem.head _) P.c P.n1 rfl ?_
  walk_at "go"
  refine d_fld (v := .ref b) (List.Mem.head _) P.c P.n2 rfl ?_
  walk_at "go"
  refine d_lcZip3F (c1 := .txt "AB") (c2 := .tup t) (ds := [insD k.s1, insD k.s2]) srcAB (srcTup ht) (.mem (List.Mem.head _)) rfl rfl (fun i es => es = kdL (holdB k.m1 k.s1) (holdB k.m2 k.s2) i) rfl ?_ ?_
  · rintro i x y z d q Dd es hx hy hd dq rfl
    refine d_gTup3D (q := q) upd_same ?_
    match i, hx, hy, hd with
    | 0, hx, hy, hd =>
      obtain rfl : x = .str "A" := by simpa using hx.symm
      obtain rfl : y = .ref x1 := by simpa using hy.symm
      obtain rfl : d = insD k.s1 := by simpa using hd.symm
      walk_at "go"
      refine RD.third ?_
      refine d_kGM (fun _ _ _ => rfl) ?_
      walk_at "go"
      refine d_holdsEnd (ns := k.s1) (.mem (List.Mem.head _)) n1 ?_
      refine RD.back ?_
      walk_at "go"
      refine RD.moreD (same_upd dq) ?_
      cases hh : holdB k.m1 k.s1 with
      | true =>
        refine d_ite (fun _ => ?_) (fun z => absurd (show (holdB k.m1 k.s1) = false from z) (by rw [hh]; decide))
        walk_at "go"
        exact d_item1 (d := .str "A") (.str _) (by show 0 < _; omega) rfl (by walk_at "tails")
      | false =>
        refine d_ite (fun z => absurd (show (holdB k.m1 k.s1) = true from z) (by rw [hh]; decide)) (fun _ => ?_)
        exact d_noItem1 rfl (by walk_at "tails")
    | 1, hx, hy, hd =>
      obtain rfl : x = .str "B" := by simpa using hx.symm
      obtain rfl : y = .ref x2 := by simpa using hy.symm
      obtain rfl : d = insD k.s2 := by simpa using hd.symm
      walk_at "go"
      refine RD.bring4 ?_
      refine d_kGM (fun _ _ _ => rfl) ?_
      walk_at "go"
      refine d_holdsEnd (ns := k.s2) (.mem (List.Mem.head _)) n2 ?_
      refine RD.put4 ?_
      walk_at "go"
      refine RD.moreD (same_upd dq) ?_
      have e2 : kdL (holdB k.m1 k.s1) (holdB k.m2 k.s2) 2 = kdL (holdB k.m1 k.s1) (holdB k.m2 k.s2) 1 ++ if holdB k.m2 k.s2 then [.str "B"] else [] := rfl
      have e3 : (kdL (holdB k.m1 k.s1) (holdB k.m2 k.s2) 1).length ≤ 1 := by
        show (if holdB k.m1 k.s1 then [PyData.str "A"] else []).length ≤ 1
        split <;> simp
      cases hh : holdB k.m2 k.s2 with
      | true =>
        refine d_ite (fun _ => ?_) (fun z => absurd (show (holdB k.m2 k.s2) = false from z) (by rw [hh]; decide))
        walk_at "go"
        rw [hh] at e2 e3
        exact d_item1 (d := .str "B") (.str _) (by omega) (by rw [e2]; rfl) (by walk_at "tails")
      | false =>
        refine d_ite (fun z => absurd (show (holdB k.m2 k.s2) = true from z) (by rw [hh]; decide)) (fun _ => ?_)
        rw [hh] at e2
        exact d_noItem1 (by rw [e2, if_neg (by decide), List.append_nil]) (by walk_at "tails")
    | i + 2, hx, hy, hd => simp at hx
  · rintro v es rfl
    walk_at "go"
    refine d_tupleL (.mem (List.Mem.head _)) fun u => ?_
    refine closeK ne ht (.mem (List.Mem.tail _ (List.Mem.tail _ (List.Mem.head _)))) ?_
    refine RD.moreD sm ?_
    refine RD.weak (l' := (u, .tuple (kdL (holdB k.m1 k.s1) (holdB k.m2 k.s2) 2)) :: l) (by walk_at "sub") (kk u)
theorem len_KindFollower_can_become (h : sp_KindFollower_can_become K vs H Q E) : vs.length = 1 := by
  obtain ⟨_, _, _, _, _, _, rfl, _⟩ := h
  rfl
theorem len_KindFollower_is_settled (h : sp_KindFollower_is_settled K vs H Q E) : vs.length = 1 := by
  obtain ⟨_, _, _, _, _, _, rfl, _⟩ := h
  rfl
theorem pure_KindFollower_can_become (P : KCls K) (h : sp_KindFollower_can_become K vs H Q E) : t_KindFollower_can_become K W { nx := fun _ H' => Q .non H', rt := Q } (start ["self", "kind", "machine", "states"] vs) H := by
  obtain ⟨a, k, D0, F, l, N, rfl, A, ok, kk⟩ := h
  obtain ⟨c1, hc1⟩ := can_ex k.m1 k.s1
  obtain ⟨c2, hc2⟩ := can_ex k.m2 k.s2
  refine (?_ : RD K D0 (star (kindR K a k) F) l (fun H => t_KindFollower_can_become K W _ [some (.ref a), none, none, none] H)) N H A
  unfold t_KindFollower_can_become
  have big := line_big
  refine openK fun dx t b x1 x2 D1 ne sm ht => ?_
  walk_at "go"
  refine d_fld (v := .ref t) (List.Mem.head _) P.c P.n1 rfl ?_
  walk_at "go"
  refine d_fld (v := .ref b) (List.Mem.head _) P.c P.n2 rfl ?_
  walk_at "go"
  refine d_lcZip3F (c1 := .txt "AB") (c2 := .tup t) (ds := [insD k.s1, insD k.s2]) srcAB (srcTup ht) (.mem (List.Mem.head _)) rfl rfl (fun i es => es = kdL (c1) (c2) i) rfl ?_ ?_
  · rintro i x y z d q Dd es hx hy hd dq rfl
    refine d_gTup3D (q := q) upd_same ?_
    match i, hx, hy, hd with
    | 0, hx, hy, hd =>
      obtain rfl : x = .str "A" := by simpa using hx.symm
      obtain rfl : y = .ref x1 := by simpa using hy.symm
      obtain rfl : d = insD k.s1 := by simpa using hd.symm
      walk_at "go"
      refine RD.third ?_
      refine d_kGM (fun _ _ _ => rfl) ?_
      walk_at "go"
      refine d_kGM (fun _ _ _ => rfl) ?_
      walk_at "go"
      refine d_beyond (ns := k.s1) (.mem (List.Mem.head _)) ok.o1 ok.d1 ok.r1 fun u G hG gn => ?_
      have gl : G.length ≤ 1000 := Nat.le_trans (few_in gn fun x hx => rc_in ok.o1 ok.r1 ((hG x).1 hx)) (Nat.le_trans ok.o1.n6 (by decide))
      walk_at "go"
      refine d_holdsEnd (ns := G) (.mem (List.Mem.head _)) gl ?_
      rw [can_hold hc1 hG]
      refine RD.forget ?_
      refine RD.back ?_
      walk_at "go"
      refine RD.moreD (same_upd dq) ?_
      cases c1 with
      | true =>
        refine d_ite (fun _ => ?_) (fun z => absurd z (by decide))
        walk_at "go"
        exact d_item1 (d := .str "A") (.str _) (by show 0 < _; omega) rfl (by walk_at "tails")
      | false =>
        refine d_ite (fun z => absurd z (by decide)) (fun _ => ?_)
        exact d_noItem1 rfl (by walk_at "tails")
    | 1, hx, hy, hd =>
      obtain rfl : x = .str "B" := by simpa using hx.symm
      obtain rfl : y = .ref x2 := by simpa using hy.symm
      obtain rfl : d = insD k.s2 := by simpa using hd.symm
      walk_at "go"
      refine RD.bring4 ?_
      refine d_kGM (fun _ _ _ => rfl) ?_
      walk_at "go"
      refine d_kGM (fun _ _ _ => rfl) ?_
      walk_at "go"
      refine d_beyond (ns := k.s2) (.mem (List.Mem.head _)) ok.o2 ok.d2 ok.r2 fun u G hG gn => ?_
      have gl : G.length ≤ 1000 := Nat.le_trans (few_in gn fun x hx => rc_in ok.o2 ok.r2 ((hG x).1 hx)) (Nat.le_trans ok.o2.n6 (by decide))
      walk_at "go"
      refine d_holdsEnd (ns := G) (.mem (List.Mem.head _)) gl ?_
      rw [can_hold hc2 hG]
      refine RD.forget ?_
      refine RD.put4 ?_
      walk_at "go"
      refine RD.moreD (same_upd dq) ?_
      have e2 : kdL (c1) (c2) 2 = kdL (c1) (c2) 1 ++ if c2 then [.str "B"] else [] := rfl
      have e3 : (kdL (c1) (c2) 1).length ≤ 1 := by
        show (if c1 then [PyData.str "A"] else []).length ≤ 1
        split <;> simp
      cases c2 with
      | true =>
        refine d_ite (fun _ => ?_) (fun z => absurd z (by decide))
        walk_at "go"
        exact d_item1 (d := .str "B") (.str _) (by omega) (by rw [e2]; rfl) (by walk_at "tails")
      | false =>
        refine d_ite (fun z => absurd z (by decide)) (fun _ => ?_)
        exact d_noItem1 (by rw [e2, if_neg (by decide), List.append_nil]) (by walk_at "tails")
    | i + 2, hx, hy, hd => simp at hx
  · rintro v es rfl
    walk_at "go"
    refine d_tupleL (.mem (List.Mem.head _)) fun u => ?_
    refine closeK ne ht (.mem (List.Mem.tail _ (List.Mem.tail _ (List.Mem.head _)))) ?_
    refine RD.moreD sm ?_
    refine RD.weak (l' := (u, .tuple (kdL (c1) (c2) 2)) :: l) (by walk_at "sub") (kk u c1 c2 hc1 hc2)
theorem d_kGMK {a : Addr} {k : Kd} {n : Str} {T : Hp → Prop} (kk : RD K D0 (star (kindR K a k) R) l T) (hn : ∀ t b, (kfFs t b).lookup n = none := by intro _ _; rfl) : RD K D0 (star (kindR K a k) R) l (fun H => kGM (He.ga K "KindFollower") n (.ref a) H T) := fun N H A => by
  have h := kk N H A
  obtain ⟨_, _, _, _, ⟨dx, t, b, x1, x2, ne, hf⟩, _⟩ := A.r
  obtain ⟨_, _, _, _, ⟨_, hh⟩, _⟩ := hf
  exact ⟨a, dx, kfFs t b, rfl, hh _ (List.Mem.head _), hn _ _, h⟩
theorem d_isNow {a : Addr} {k : Kd} (n1 : k.s1.length ≤ 1000) (n2 : k.s2.length ≤ 1000) (kk : ∀ u, RD K D0 (star (kindR K a k) R) ((u, .tuple (kdL (holdB k.m1 k.s1) (holdB k.m2 k.s2) 2)) :: l) (Q u)) :
    RD K D0 (star (kindR K a k) R) l (fun H => sp_KindFollower_is_now K [.ref a] H Q E) := fun N H A => ⟨a, k, D0, R, l, N, rfl, A, n1, n2, kk⟩
theorem d_canBecome {a : Addr} {k : Kd} (ok : Kok k) (kk : ∀ u c1 c2, CanB k.m1 k.s1 c1 → CanB k.m2 k.s2 c2 → RD K D0 (star (kindR K a k) R) ((u, .tuple (kdL c1 c2 2)) :: l) (Q u)) :
    RD K D0 (star (kindR K a k) R) l (fun H => sp_KindFollower_can_become K [.ref a] H Q E) := fun N H A => ⟨a, k, D0, R, l, N, rfl, A, ok, kk⟩
theorem pure_KindFollower_is_settled (h : sp_KindFollower_is_settled K vs H Q E) : t_KindFollower_is_settled K W { nx := fun _ H' => Q .non H', rt := Q } (start ["self"] vs) H := by
  obtain ⟨a, k, D0, F, l, N, rfl, A, ok, kk⟩ := h
  refine (?_ : RD K D0 (star (kindR K a k) F) l (fun H => t_KindFollower_is_settled K W _ [some (.ref a)] H)) N H A
  unfold t_KindFollower_is_settled
  walk_at "go"
  refine d_kGMK ?_
  walk_at "go"
  refine d_canBecome ok fun u c1 c2 h1 h2 => ?_
  walk_at "go"
  refine d_lenT (ds := kdL c1 c2 2) (.mem (List.Mem.head _)) ?_
  walk_at "go"
  exact RD.weak (by walk_at "tails") (kk c1 c2 h1 h2)
theorem len_KindFollower_read (h : sp_KindFollower_read K vs H Q E) : vs.length = 2 := by
  obtain ⟨_, _, _, _, _, _, _, rfl, _⟩ := h
  rfl
theorem d_ixTK {t : Addr} {xs : List V} {i : Int} {v : V} (ht : D0 t = some (.tup xs)) (hi : atI xs i = some v) (k : RD K D0 R l (Q v)) : RD K D0 R l (fun H => rIx K (.ref t) (.int i) H Q) := fun N H A =>
  .inr (.inl ⟨t, xs, i, v, rfl, rfl, .inl (.inl (A.fixed ht)), hi, k N H A⟩)
theorem putK_b {t b b2 : Addr} : putF "_behind" (.ref b2) (kfFs t b) = kfFs t b2 := by
  simp only [kfFs, putF, if_neg (show ¬ (("_machines" : Str) = "_behind") by decide +kernel), if_true]
theorem RD.isRefK {v : V} {ds : List PyData} (h : InL l v (.list ds)) (k : ∀ a, v = .ref a → RD K D0 R l T) : RD K D0 R l T := fun N H A => by
  obtain ⟨a, xs, rfl, _⟩ := (A.dt h).list
  exact k a rfl N H A
theorem pure_KindFollower_read (P : KCls K) (M : MCls K) (h : sp_KindFollower_read K vs H Q E) : t_KindFollower_read K W { nx := fun _ H' => Q .non H', rt := Q } (start ["self", "sign", "machine", "states"] vs) H := by
  obtain ⟨a, k, c, D0, F, l, N, rfl, A, hc, e1, e2, kk⟩ := h
  refine (?_ : RD K D0 (star (kindR K a k) F) l (fun H => t_KindFollower_read K W _ [some (.ref a), some (.str (S [c])), none, none] H)) N H A
  unfold t_KindFollower_read
  have big := line_big
  refine openK fun dx t b x1 x2 D1 ne sm ht => ?_
  walk_at "go"
  refine d_fld (v := .ref t) (List.Mem.head _) P.c P.n1 rfl ?_
  walk_at "go"
  refine d_ixTK (v := .ref x1) ht rfl ?_
  walk_at "go"
  refine RD.rot ?_
  refine openMach fun dm ed sd td nd5 => ?_
  refine d_fld (v := .int k.m1.k) (List.Mem.head _) M.c M.n1 rfl ?_
  refine closeMach nd5 ?_
  refine RD.rot ?_
  walk_at "go"
  refine d_reqSign (show 1 ≤ 1000000 by decide) (fun _ => ?_) (fun z => absurd ⟨c, rfl, hc⟩ z)
  walk_at "go"
  refine d_fld (v := .ref t) (List.Mem.head _) P.c P.n1 rfl ?_
  walk_at "go"
  refine d_fld (v := .ref b) (List.Mem.head _) P.c P.n2 rfl ?_
  walk_at "go"
  refine d_lcZip2F (c1 := .tup t) (ds := [insD k.s1, insD k.s2]) (srcTup ht) (.mem (List.Mem.head _)) rfl (fun i es => es = [insD (stepI k.m1.es k.s1 c), insD (stepI k.m2.es k.s2 c)].take i) rfl ?_ ?_
  · rintro i x z d q Dd es hx hd dq rfl
    refine d_gTup2D (q := q) upd_same ?_
    match i, hx, hd with
    | 0, hx, hd =>
      obtain rfl : x = .ref x1 := by simpa using hx.symm
      obtain rfl : d = insD k.s1 := by simpa using hd.symm
      walk_at "go"
      refine RD.third ?_
      refine d_kGM (fun _ _ _ => rfl) ?_
      walk_at "go"
      refine d_statesBehind (ns := k.s1) (cs := [c]) (.mem (List.Mem.head _)) e1 fun u => ?_
      refine RD.back ?_
      refine RD.moreD (same_upd dq) ?_
      exact d_item1 (d := insD (stepI k.m1.es k.s1 c)) (.mem (List.Mem.head _)) (by show 0 < _; omega) rfl (by walk_at "tails")
    | 1, hx, hd =>
      obtain rfl : x = .ref x2 := by simpa using hx.symm
      obtain rfl : d = insD k.s2 := by simpa using hd.symm
      walk_at "go"
      refine RD.bring4 ?_
      refine d_kGM (fun _ _ _ => rfl) ?_
      walk_at "go"
      refine d_statesBehind (ns := k.s2) (cs := [c]) (.mem (List.Mem.head _)) e2 fun u => ?_
      refine RD.put4 ?_
      refine RD.moreD (same_upd dq) ?_
      exact d_item1 (d := insD (stepI k.m2.es k.s2 c)) (.mem (List.Mem.head _)) (by show 1 < _; omega) rfl (by walk_at "tails")
    | i + 2, hx, hd => simp at hx
  · rintro v es rfl
    refine RD.isRefK (.mem (List.Mem.head _)) fun b2 eb => ?_
    subst eb
    walk_at "go"
    refine d_putF (List.Mem.head _) P.c P.n2 (show 2 < 1000 by decide) ?_
    rw [show putO (kfL K a dx t b) a (.ins (He.ga K "KindFollower") dx (putF "_behind" (.ref b2) (kfFs t b))) = kfL K a dx t b2 from by
      simp only [kfL, putO, List.map_cons, List.map_nil, if_true, if_neg (Ne.symm ne), putK_b]]
    walk_at "go"
    refine closeK (k := { k with s1 := stepI k.m1.es k.s1 c, s2 := stepI k.m2.es k.s2 c }) ne ht (.mem (List.Mem.head _)) ?_
    refine RD.moreD sm ?_
    exact RD.weak (by walk_at "tails") kk
theorem d_readK {a : Addr} {k : Kd} {c : Nat} (hc : c ∈ ([97, 98, 99] : List Nat).take k.m1.k) (e1 : k.m1.es.length ≤ 40) (e2 : k.m2.es.length ≤ 40) (kk : RD K D0 (star (kindR K a { k with s1 := stepI k.m1.es k.s1 c, s2 := stepI k.m2.es k.s2 c }) R) l (Q .non)) :
    RD K D0 (star (kindR K a k) R) l (fun H => sp_KindFollower_read K [.ref a, .str (S [c])] H Q E) := fun N H A => ⟨a, k, c, D0, R, l, N, rfl, A, hc, e1, e2, kk⟩
theorem d_settledK {a : Addr} {k : Kd} (ok : Kok k) (kk : ∀ c1 c2, CanB k.m1 k.s1 c1 → CanB k.m2 k.s2 c2 → RD K D0 (star (kindR K a k) R) l (Q (.bl (decide (((kdL c1 c2 2).length : Int) ≤ 1))))) :
    RD K D0 (star (kindR K a k) R) l (fun H => sp_KindFollower_is_settled K [.ref a] H Q E) := fun N H A => ⟨a, k, D0, R, l, N, rfl, A, ok, kk⟩
end
end GL

/-! K3: KindFollower(pair). -/
namespace GL
open PySem PySem.Spec L2
open PyProof.Rows hiding St
open SX (S)
local macro_rules | `(tactic| walk_at "mem") => `(tactic| (first | exact List.Mem.head _ | exact List.Mem.tail _ (List.Mem.head _) | exact List.Mem.tail _ (List.Mem.tail _ (List.Mem.head _)) | ((repeat (first | exact List.Mem.head _ | apply List.Mem.tail)); done)))
local macro_rules | `(tactic| walk_at "inl") => `(tactic| (first | exact InL.int _ | exact InL.str _ | exact InL.bl _ | exact InL.non | (refine InL.mem ?zm; walk_at "mem") | assumption))
local macro_rules | `(tactic| walk_at "inls") => `(tactic| (repeat (first | exact InLs.nil | (refine InLs.cons ?zi ?_; case zi => walk_at "inl"))))
local macro_rules | `(tactic| walk_at "set") => `(tactic| (simp only [wipe, List.set_cons_succ, List.set_cons_zero]; rfl))
local macro_rules | `(tactic| walk_at "tails") => `(tactic| (first | exact sub_refl | exact sub_tail sub_refl | exact sub_tail (sub_tail sub_refl) | exact sub_nil | ((repeat (first | exact sub_refl | apply sub_tail)); done)))
local macro_rules | `(tactic| walk_at "sub") => `(tactic| (first | walk_at "tails" | ((repeat (refine sub_cons ?zi ?_; case zi => walk_at "inl")); walk_at "tails")))
local macro_rules | `(tactic| walk_at "g1") => `(tactic| (first
  | with_reducible refine d_seq ?_
  | with_reducible refine d_asg ?_
  | ((with_reducible refine d_name (σ' := ?zs) ?zh ?_); (case zh => walk_at "set"))
  | ((with_reducible refine d_var (v := ?zs) ?zh ?_); (case zh => rfl))
  | with_reducible refine d_C ?_
  | with_reducible refine d_op ?_
  | with_reducible refine d_cons ?_
  | with_reducible refine d_nil ?_
  | with_reducible refine d_cb ?_
  | with_reducible refine d_g ?_
  | with_reducible refine d_ifS ?_
  | with_reducible refine d_test ?_
  | with_reducible refine d_bl ?_
  | with_reducible refine d_addI ?_
  | with_reducible refine d_I0 ?_
  | with_reducible refine d_ret ?_
  | with_reducible refine d_retN ?_
  | with_reducible refine d_next ?_
  | with_reducible refine d_drop ?_
  | with_reducible refine d_and ?_
  | with_reducible refine d_or ?_
  | with_reducible refine d_not ?_
  | with_reducible refine d_andV ?_
  | with_reducible refine d_orV ?_
  | with_reducible refine d_notV ?_
  | with_reducible refine d_tru ?_
  | with_reducible refine d_truB ?_
  | with_reducible refine d_tif ?_
  | with_reducible refine d_iteT ?_
  | with_reducible refine d_iteF ?_
  | with_reducible refine d_iteNT ?_
  | with_reducible refine d_iteNF ?_
  | with_reducible refine d_eqI ?_
  | with_reducible refine d_neI ?_
  | with_reducible refine d_eqS ?_
  | with_reducible refine d_neS ?_
  | with_reducible refine d_eqB ?_
  | with_reducible refine d_neB ?_
  | with_reducible refine d_isN ?_
  | with_reducible refine d_notN ?_
  | with_reducible refine d_bm ?_
  | with_reducible refine d_tyS ?_
  | with_reducible refine d_tyO ?_
  | with_reducible refine d_find3 ?_
  | with_reducible refine d_tup ?_
  | with_reducible refine d_lst ?_
  | with_reducible refine d_for ?_
  | with_reducible refine d_iRng1 ?_
  | with_reducible refine d_gIt ?_
  | with_reducible refine d_lc ?_
  | with_reducible refine d_yes ?_
  | with_reducible refine d_tSl ?_
  | with_reducible refine d_noPart ?_
  | with_reducible refine d_part ?_
  | with_reducible refine d_int ?_
  | ((with_reducible refine d_wipe ?zh ?_); (case zh => rfl))
  | ((with_reducible refine d_aug (v := ?zs) ?zh ?_); (case zh => rfl))
  | with_reducible refine d_ipI ?_
  | ((with_reducible refine d_set (σ' := ?zs) ?zh ?_); (case zh => walk_at "set"))))
local macro_rules | `(tactic| walk_at "go") => `(tactic| (repeat walk_at "g1"))
local macro_rules | `(tactic| walk_at "g1") => `(tactic| (first
  | with_reducible refine d_tB ?_
  | with_reducible refine d_tGM ?_
  | with_reducible refine d_tGN ?_
  | with_reducible refine d_tFld ?_
  | with_reducible refine d_sFld ?_
  | with_reducible refine d_gcons ?_
  | with_reducible refine d_gnil ?_
  | with_reducible refine d_gZip ?_
  | with_reducible refine d_gZip3 ?_))
/-- this resource holds that one, among others -/
def Vw (F U : Res) : Prop := ∃ F' : Res, (∀ {N : Addr → Prop} {D H : Hp}, F.h N D H → (star U F').h N D H) ∧ ∀ {N : Addr → Prop} {D H : Hp}, (star U F').h N D H → F.h N D H
theorem Vw.top {U F : Res} : Vw (star U F) U := ⟨F, fun h => h, fun h => h⟩
theorem Vw.second {U S F : Res} : Vw (star S (star U F)) U := ⟨star S F, fun h => star_swap h, fun h => star_swap h⟩
theorem star_monoR {S A B : Res} (h : ∀ {N : Addr → Prop} {D H : Hp}, A.h N D H → B.h N D H) {N : Addr → Prop} {D H : Hp} : (star S A).h N D H → (star S B).h N D H := fun ⟨N1, N2, e, dj, h1, h2⟩ => ⟨N1, N2, e, dj, h1, h h2⟩
def sp_twins_of (K : PySem.W.Frag) : Sp := fun vs H Q _ => ∃ (t a1 a2 : Addr) (m1 m2 : Mch) (D0 : Hp) (F : Res) (l : List (V × PyData)) (N : Addr → Prop), vs = [.ref t] ∧ D0 t = some (.tup [.ref a1, .ref a2]) ∧ At K D0 F l N H ∧ Vw F (mach K a1 m1) ∧ Vw F (mach K a2 m2) ∧ MOk m1 ∧ MOk m2 ∧
  ∀ u x1 x2, RD K D0 (star (tupR u [.ref x1, .ref x2]) (star (mach K x1 (twinM m1)) (star (mach K x2 (twinM m2)) F))) l (Q (.ref u))
def t_twins_of (K : PySem.W.Frag) (W : WX) : TS := (tSeq (tAsg (tVar 0) (gTup K 2 (gCons (gName 1) (gCons (gName 2) gNil))))
  (tRet (tTup (tCons (tGM (He.ga K "Machine") "twin" (sp_Machine_twin K) W (tVar 1) tNil) (tCons (tGM (He.ga K "Machine") "twin" (sp_Machine_twin K) W (tVar 2) tNil) tNil)))))

section
variable {K : PySem.W.Frag} {W : WX} {D0 : Hp} {R : Res} {l : List (V × PyData)} {Q : VK} {vs : List V} {H : Hp} {E : XK} {T : Hp → Prop}
theorem len_twins_of (h : sp_twins_of K vs H Q E) : vs.length = 1 := by
  obtain ⟨_, _, _, _, _, _, _, _, _, rfl, _⟩ := h
  rfl
theorem pure_twins_of (h : sp_twins_of K vs H Q E) : t_twins_of K W { nx := fun _ H' => Q .non H', rt := Q } (start ["pair", "one", "two"] vs) H := by
  obtain ⟨t, a1, a2, m1, m2, D0, F, l, N, rfl, ht, A, ⟨F1, v1, w1⟩, ⟨F2, v2, w2⟩, o1, o2, kk⟩ := h
  refine (?_ : RD K D0 F l (fun H => t_twins_of K W _ [some (.ref t), none, none] H)) N H A
  unfold t_twins_of
  walk_at "go"
  refine d_gTup2D ht ?_
  walk_at "go"
  refine RD.res (S := star (mach K a1 m1) F1) v1 ?_
  refine d_kGM (fun _ _ _ => rfl) ?_
  walk_at "go"
  refine d_twin o1 fun x1 => ?_
  refine RD.res (S := star (mach K x1 (twinM m1)) F) (star_monoR w1) ?_
  walk_at "go"
  refine RD.res (S := star (mach K x1 (twinM m1)) (star (mach K a2 m2) F2)) (star_monoR v2) ?_
  refine RD.rot ?_
  refine d_kGM (fun _ _ _ => rfl) ?_
  walk_at "go"
  refine d_twin o2 fun x2 => ?_
  walk_at "go"
  refine d_newTV (show 2 ≤ sizeLine by decide) fun u du => ?_
  refine RD.third ?_
  refine RD.res (S := star (mach K x1 (twinM m1)) (star (mach K x2 (twinM m2)) F)) (star_monoR (star_monoR w2)) ?_
  refine RD.closeTup upd_same ?_
  exact RD.moreD (same_upd du) (kk u x1 x2)
theorem d_twinsOf {t a1 a2 : Addr} {m1 m2 : Mch} (ht : D0 t = some (.tup [.ref a1, .ref a2])) (v1 : Vw R (mach K a1 m1)) (v2 : Vw R (mach K a2 m2)) (o1 : MOk m1) (o2 : MOk m2) (kk : ∀ u x1 x2, RD K D0 (star (tupR u [.ref x1, .ref x2]) (star (mach K x1 (twinM m1)) (star (mach K x2 (twinM m2)) R))) l (Q (.ref u))) :
    RD K D0 R l (fun H => sp_twins_of K [.ref t] H Q E) := fun N H A => ⟨t, a1, a2, m1, m2, D0, R, l, N, rfl, ht, A, v1, v2, o1, o2, kk⟩
theorem Vw.under {S F U : Res} (h : Vw F U) : Vw (star S F) U := by
  obtain ⟨F', v, w⟩ := h
  exact ⟨star S F', fun h => star_swap (star_monoR v h), fun h => star_monoR w (star_swap h)⟩
theorem Vw.use {F U : Res} (h : Vw F U) {T1 T2 : Hp → Prop} (k : ∀ F', RD K D0 (star U F') l T1 → RD K D0 (star U F') l T2) (kk : RD K D0 F l T1) : RD K D0 F l T2 := by
  obtain ⟨F', v, w⟩ := h
  exact RD.res (S := star U F') v (k F' (RD.res w kk))
theorem reads_vw (M : MCls K) {F : Res} {a : Addr} {m : Mch} (h : Vw F (mach K a m)) : Reads K F a m.k := fun k => h.use (fun _ => reads_top M) k
def sp_KindFollower___init__ (K : PySem.W.Frag) : Sp := fun vs H Q _ => ∃ (x dx t a1 a2 : Addr) (m1 m2 : Mch) (D0 : Hp) (F : Res) (l : List (V × PyData)) (N : Addr → Prop), vs = [.ref x, .ref t] ∧ x ≠ dx ∧ D0 t = some (.tup [.ref a1, .ref a2]) ∧
  At K D0 (star (objs [(x, .ins (He.ga K "KindFollower") dx []), (dx, .own x)]) F) l N H ∧ Vw F (mach K a1 m1) ∧ Vw F (mach K a2 m2) ∧ MOk m1 ∧ MOk m2 ∧ m1.k = m2.k ∧
  RD K D0 (star (kindR K x ⟨twinM m1, twinM m2, sortI m1.st, sortI m2.st⟩) F) l (Q .non)
def t_KindFollower___init__ (K : PySem.W.Frag) (W : WX) : TS := (tSeq (tDrop (tG (sp_require_pair K) W (tCons (tVar 1) tNil)))
  (tSeq (sFld K (tVar 0) (tG (sp_twins_of K) W (tCons (tVar 1) tNil)) "_machines")
  (sFld K (tVar 0) (tLc (gIt K (tVar 1)) (gName 2) tYes (tGM (He.ga K "Machine") "starts" (sp_Machine_starts K) W0 (tVar 2) tNil) [2]) "_behind")))

theorem len_KindFollower___init__ (h : sp_KindFollower___init__ K vs H Q E) : vs.length = 2 := by
  obtain ⟨_, _, _, _, _, _, _, _, _, _, _, rfl, _⟩ := h
  rfl
theorem kf2 {u v : V} : putF "_behind" v [("_machines", u)] = ([("_machines", u), ("_behind", v)] : List (Str × V)) := by
  simp only [putF, if_neg (show ¬ (("_machines" : Str) = "_behind") by decide +kernel)]
theorem pure_KindFollower___init__ (P : KCls K) (M : MCls K) (h : sp_KindFollower___init__ K vs H Q E) : t_KindFollower___init__ K W { nx := fun _ H' => Q .non H', rt := Q } (start ["self", "pair", "machine"] vs) H := by
  obtain ⟨x, dx, t, a1, a2, m1, m2, D0, F, l, N, rfl, ne, ht, A, v1, v2, o1, o2, hk, kk⟩ := h
  refine (?_ : RD K D0 (star (objs [(x, .ins (He.ga K "KindFollower") dx []), (dx, .own x)]) F) l (fun H => t_KindFollower___init__ K W _ [some (.ref x), some (.ref t), none] H)) N H A
  unfold t_KindFollower___init__
  walk_at "go"
  refine d_requirePair ht (reads_vw M v1.under) (reads_vw M v2.under) (fun _ => ?_) (fun z => absurd hk z)
  walk_at "go"
  refine d_twinsOf ht v1.under v2.under o1 o2 fun u x1 x2 => ?_
  refine RD.bring4 ?_
  walk_at "go"
  refine d_putF (fs := []) (List.Mem.head _) P.c P.n1 (by decide) ?_
  rw [show putO [(x, .ins (He.ga K "KindFollower") dx []), (dx, .own x)] x (.ins (He.ga K "KindFollower") dx (putF "_machines" (.ref u) [])) = [(x, .ins (He.ga K "KindFollower") dx [("_machines", .ref u)]), (dx, .own x)] from by simp [putO, Ne.symm ne, putF]]
  walk_at "go"
  refine d_lcTV ht (fun i es => es = [insD (sortI m1.st), insD (sortI m2.st)].take i) rfl ?_ ?_
  · rintro i y Dd es hy rfl
    match i, hy with
    | 0, hy =>
      obtain rfl : y = .ref a1 := by simpa using hy.symm
      obtain ⟨F', v, w⟩ := (v1.under (S := mach K x2 (twinM m2))).under (S := mach K x1 (twinM m1)) |>.under (S := tupR u [.ref x1, .ref x2]) |>.under (S := objs [(x, .ins (He.ga K "KindFollower") dx [("_machines", .ref u)]), (dx, .own x)]) |>.under (S := own K Dd ([insD (sortI m1.st), insD (sortI m2.st)].take 0))
      walk_at "go"
      refine RD.res (S := star (mach K a1 m1) F') v ?_
      refine d_kGM (fun _ _ _ => rfl) ?_
      walk_at "go"
      refine d_startsI o1.snd fun z => ?_
      refine RD.res w ?_
      exact d_item1 (d := insD (sortI m1.st)) (.mem (List.Mem.head _)) (by have := line_big; show 0 < _; omega) rfl (by walk_at "tails")
    | 1, hy =>
      obtain rfl : y = .ref a2 := by simpa using hy.symm
      obtain ⟨F', v, w⟩ := (v2.under (S := mach K x2 (twinM m2))).under (S := mach K x1 (twinM m1)) |>.under (S := tupR u [.ref x1, .ref x2]) |>.under (S := objs [(x, .ins (He.ga K "KindFollower") dx [("_machines", .ref u)]), (dx, .own x)]) |>.under (S := own K Dd ([insD (sortI m1.st), insD (sortI m2.st)].take 1))
      walk_at "go"
      refine RD.res (S := star (mach K a2 m2) F') v ?_
      refine d_kGM (fun _ _ _ => rfl) ?_
      walk_at "go"
      refine d_startsI o2.snd fun z => ?_
      refine RD.res w ?_
      exact d_item1 (d := insD (sortI m2.st)) (.mem (List.Mem.head _)) (by have := line_big; show 1 < _; omega) rfl (by walk_at "tails")
    | i + 2, hy => simp at hy
  · rintro v es rfl
    refine RD.isRefK (.mem (List.Mem.head _)) fun b eb => ?_
    subst eb
    walk_at "go"
    refine d_putF (List.Mem.head _) P.c P.n2 (by simp) ?_
    rw [show putO [(x, .ins (He.ga K "KindFollower") dx [("_machines", .ref u)]), (dx, .own x)] x (.ins (He.ga K "KindFollower") dx (putF "_behind" (.ref b) [("_machines", .ref u)])) = kfL K x dx u b from by
      simp only [putO, List.map_cons, List.map_nil, if_true, if_neg (Ne.symm ne), kf2]
      rfl]
    walk_at "go"
    refine RD.rot ?_
    refine RD.openTup fun D1 sm hu => ?_
    refine closeK (k := ⟨twinM m1, twinM m2, sortI m1.st, sortI m2.st⟩) ne hu (.mem (List.Mem.head _)) ?_
    refine RD.moreD sm ?_
    exact RD.weak (by walk_at "tails") kk
theorem d_makeK {t a1 a2 : Addr} {m1 m2 : Mch} (ht : D0 t = some (.tup [.ref a1, .ref a2])) (v1 : Vw R (mach K a1 m1)) (v2 : Vw R (mach K a2 m2)) (o1 : MOk m1) (o2 : MOk m2) (hk : m1.k = m2.k) (kk : ∀ x, RD K D0 (star (kindR K x ⟨twinM m1, twinM m2, sortI m1.st, sortI m2.st⟩) R) l (Q (.ref x))) :
    RD K D0 R l (fun H => kGN (He.ga K "KindFollower") (sp_KindFollower___init__ K) E [.ref t] H Q) := fun N H A x dx hx hdx ne => by
  have A1 := A.objs0.newOb (o := .own x) (fun _ z => by cases z) hdx
  have hx2 : upd H dx (.own x) x = none := by
    rw [upd_ne (Ne.symm ne)]
    exact hx
  have A2 := A1.newOb (o := .ins (He.ga K "KindFollower") dx []) (fun _ z => by cases z) hx2
  exact ⟨x, dx, t, a1, a2, m1, m2, D0, R, l, _, rfl, Ne.symm ne, ht, A2, v1, v2, o1, o2, hk, fun N' H' A' => ⟨rfl, kk x N' H' A'⟩⟩
end
end GL

/-! K4: the law's own reach of states. -/
namespace GL
open PySem PySem.Spec L2
open PyProof.Rows hiding St
open SX (S)
theorem mem_step {es : List Edge} {G : List Int} {c : Nat} {y : Int} : y ∈ stepI es G c ↔ ∃ x, x ∈ G ∧ (x, c, y) ∈ es := by
  unfold stepI
  rw [mem_sortI, List.mem_map]
  constructor
  · rintro ⟨⟨o, d, t⟩, h, rfl⟩
    rw [List.mem_filter, Bool.and_eq_true, decide_eq_true_iff, decide_eq_true_iff] at h
    obtain ⟨h1, h2, h3⟩ := h
    replace h2 : d = c := h2
    subst h2
    exact ⟨o, h3, h1⟩
  · rintro ⟨x, hx, he⟩
    exact ⟨(x, c, y), by rw [List.mem_filter, Bool.and_eq_true, decide_eq_true_iff, decide_eq_true_iff]; exact ⟨he, rfl, hx⟩, rfl⟩
/-- a part of a round: the signs so far -/
structure Part (es : List Edge) (F : List Int) (cs : List Nat) (G : List Int) : Prop where
  keep : ∀ x ∈ F, x ∈ G
  add : ∀ x c y, c ∈ cs → x ∈ F → (x, c, y) ∈ es → y ∈ G
  only : ∀ x ∈ G, Rc es F x
  nd : G.Nodup
theorem Part.step {es : List Edge} {F G : List Int} {cs : List Nat} (h : Part es F cs G) (c : Nat) : Part es F (cs ++ [c]) (sortI (G ++ stepI es G c)) where
  keep := fun x hx => mem_sortI.2 (List.mem_append_left _ (h.keep x hx))
  add := fun x d y hd hx he => by
    rcases List.mem_append.1 hd with hd | hd
    · exact mem_sortI.2 (List.mem_append_left _ (h.add x d y hd hx he))
    · rw [List.mem_singleton] at hd
      subst hd
      exact mem_sortI.2 (List.mem_append_right _ (mem_step.2 ⟨x, h.keep x hx, he⟩))
  only := fun x hx => by
    rcases List.mem_append.1 (mem_sortI.1 hx) with hx | hx
    · exact h.only x hx
    · obtain ⟨o, ho, he⟩ := mem_step.1 hx
      exact .step (h.only o ho) he
  nd := nodup_sortI _
theorem Part.round {es : List Edge} {F G : List Int} {cs : List Nat} (h : Part es F cs G) (all : ∀ e ∈ es, e.2.1 ∈ cs) : Round es F G :=
  ⟨h.keep, fun x c y hx he => h.add x c y (all _ he) hx he, h.only, h.nd⟩
end GL

/-! L65: kinds followed. -/
namespace L65
open PySem PySem.Spec L2 GL
open PyProof.Rows hiding St
open SX (S)
local macro_rules | `(tactic| walk_at "mem") => `(tactic| (first | exact List.Mem.head _ | exact List.Mem.tail _ (List.Mem.head _) | exact List.Mem.tail _ (List.Mem.tail _ (List.Mem.head _)) | ((repeat (first | exact List.Mem.head _ | apply List.Mem.tail)); done)))
local macro_rules | `(tactic| walk_at "inl") => `(tactic| (first | exact InL.int _ | exact InL.str _ | exact InL.bl _ | exact InL.non | (refine InL.mem ?zm; walk_at "mem") | assumption))
local macro_rules | `(tactic| walk_at "inls") => `(tactic| (repeat (first | exact InLs.nil | (refine InLs.cons ?zi ?_; case zi => walk_at "inl"))))
local macro_rules | `(tactic| walk_at "set") => `(tactic| (simp only [wipe, List.set_cons_succ, List.set_cons_zero]; rfl))
local macro_rules | `(tactic| walk_at "tails") => `(tactic| (first | exact sub_refl | exact sub_tail sub_refl | exact sub_tail (sub_tail sub_refl) | exact sub_nil | ((repeat (first | exact sub_refl | apply sub_tail)); done)))
local macro_rules | `(tactic| walk_at "sub") => `(tactic| (first | walk_at "tails" | ((repeat (refine sub_cons ?zi ?_; case zi => walk_at "inl")); walk_at "tails")))
local macro_rules | `(tactic| walk_at "g1") => `(tactic| (first
  | with_reducible refine d_seq ?_
  | with_reducible refine d_asg ?_
  | ((with_reducible refine d_name (σ' := ?zs) ?zh ?_); (case zh => walk_at "set"))
  | ((with_reducible refine d_var (v := ?zs) ?zh ?_); (case zh => rfl))
  | with_reducible refine d_C ?_
  | with_reducible refine d_op ?_
  | with_reducible refine d_cons ?_
  | with_reducible refine d_nil ?_
  | with_reducible refine d_cb ?_
  | with_reducible refine d_g ?_
  | with_reducible refine d_ifS ?_
  | with_reducible refine d_test ?_
  | with_reducible refine d_bl ?_
  | with_reducible refine d_addI ?_
  | with_reducible refine d_I0 ?_
  | with_reducible refine d_ret ?_
  | with_reducible refine d_retN ?_
  | with_reducible refine d_next ?_
  | with_reducible refine d_drop ?_
  | with_reducible refine d_and ?_
  | with_reducible refine d_or ?_
  | with_reducible refine d_not ?_
  | with_reducible refine d_andV ?_
  | with_reducible refine d_orV ?_
  | with_reducible refine d_notV ?_
  | with_reducible refine d_tru ?_
  | with_reducible refine d_truB ?_
  | with_reducible refine d_tif ?_
  | with_reducible refine d_iteT ?_
  | with_reducible refine d_iteF ?_
  | with_reducible refine d_iteNT ?_
  | with_reducible refine d_iteNF ?_
  | with_reducible refine d_eqI ?_
  | with_reducible refine d_neI ?_
  | with_reducible refine d_eqS ?_
  | with_reducible refine d_neS ?_
  | with_reducible refine d_eqB ?_
  | with_reducible refine d_neB ?_
  | with_reducible refine d_isN ?_
  | with_reducible refine d_notN ?_
  | with_reducible refine d_bm ?_
  | with_reducible refine d_tyS ?_
  | with_reducible refine d_tyO ?_
  | with_reducible refine d_find3 ?_
  | with_reducible refine d_tup ?_
  | with_reducible refine d_lst ?_
  | with_reducible refine d_for ?_
  | with_reducible refine d_iRng1 ?_
  | with_reducible refine d_gIt ?_
  | with_reducible refine d_lc ?_
  | with_reducible refine d_yes ?_
  | with_reducible refine d_tSl ?_
  | with_reducible refine d_noPart ?_
  | with_reducible refine d_part ?_
  | with_reducible refine d_int ?_
  | ((with_reducible refine d_wipe ?zh ?_); (case zh => rfl))
  | ((with_reducible refine d_aug (v := ?zs) ?zh ?_); (case zh => rfl))
  | with_reducible refine d_ipI ?_
  | ((with_reducible refine d_set (σ' := ?zs) ?zh ?_); (case zh => walk_at "set"))))
local macro_rules | `(tactic| walk_at "go") => `(tactic| (repeat walk_at "g1"))
local macro_rules | `(tactic| walk_at "g1") => `(tactic| (first
  | with_reducible refine d_par ?_
  | with_reducible refine d_kPar ?_
  | with_reducible refine d_gcons ?_
  | with_reducible refine d_gnil ?_
  | with_reducible refine d_tFld ?_
  | with_reducible refine d_tSet ?_
  | with_reducible refine d_gZip ?_
  | with_reducible refine d_tGM ?_
  | with_reducible refine d_tGN ?_))
section
variable {K : PySem.W.Frag} {W : WX} {D0 : Hp} {R : Res} {l : List (V × PyData)} {Q : VK} {vs : List V} {H : Hp} {E : XK} {P : Program} {w : World} {σ : L2.St} {D : Ends} {T : Hp → Prop}
/-! ### whether an end can be reached -/
theorem CanB.one {m : Mch} {s : List Int} {c d : Bool} (h : CanB m s c) (g : CanB m s d) : c = d := by
  have e : c = true ↔ d = true := Iff.trans h (Iff.symm g)
  exact Bool.eq_iff_iff.2 e
def sp__law_can (K : PySem.W.Frag) : Sp := fun vs H Q _ => ∃ (v u : V) (k : Nat) (p : Plan) (ns : List Int) (D0 : Hp) (F : Res) (l : List (V × PyData)) (N : Addr → Prop), vs = [v, u, .int k] ∧ At K D0 F l N H ∧ InL l v (planD p) ∧ InL l u (.list (ns.map .int)) ∧ 1 ≤ k ∧ k ≤ 3 ∧ PlanOk k 4 7 p ∧ ns.Nodup ∧ InRg p.n ns ∧
  ∀ c, CanB (machP k p) ns c → RD K D0 F l (Q (.bl c))
def t__law_can (K : PySem.W.Frag) (P : Program) (w : World) (W : WX) : TS := (tSeq (tAsg (tCB (gListA K) (tCons (tVar 1) tNil)) (gName 3))
  (tSeq (tFor (iRng1 (tCons (tOp (rIx K) (tVar 0) (tC (.int 0))) tNil)) (gName 4) (tFor (gIt K (tSl (gSl K) (tC (.str "abc")) tNoPart (tPart (tVar 2)))) (gName 5) (tAsg (tCB (rSortL w) (tCons (tCB (rSetI w K) (tCons (tOp (gAdd K) (tVar 3) (tG (sp__law_stepped K) W (tCons (tVar 0) (tCons (tVar 3) (tCons (tVar 5) tNil))))) tNil)) tNil)) (gName 3))))
  (tRet (tOp (gNe K) (tLc (gIt K (tVar 3)) (gName 6) (tTest (tOp (gIn K false) (tVar 6) (tOp (rIx K) (tVar 0) (tC (.int 2))))) (tVar 6) [6]) (tLst tNil)))))

theorem len__law_can (h : sp__law_can K vs H Q E) : vs.length = 3 := by
  obtain ⟨_, _, _, _, _, _, _, _, _, rfl, _⟩ := h
  rfl
theorem d_can {v u : V} {k : Nat} {p : Plan} {ns : List Int} (hv : InL l v (planD p)) (hu : InL l u (.list (ns.map .int))) (k1 : 1 ≤ k) (k3 : k ≤ 3) (po : PlanOk k 4 7 p) (nd : ns.Nodup) (rg : InRg p.n ns) (kk : ∀ c, CanB (machP k p) ns c → RD K D0 R l (Q (.bl c))) :
    RD K D0 R l (fun H => sp__law_can K [v, u, .int k] H Q E) := fun N H A => ⟨v, u, k, p, ns, D0, R, l, N, rfl, A, hv, hu, k1, k3, po, nd, rg, kk⟩
theorem pure__law_can (h : sp__law_can K vs H Q E) : t__law_can K P w W { nx := fun _ H' => Q .non H', rt := Q } (start ["plan", "states", "k", "found", "step", "sign", "state"] vs) H := by
  obtain ⟨v, u, k, p, ns, D0, F, l, N, rfl, A, hv, hu, k1, k3, po, nd, rg, kk⟩ := h
  refine (?_ : RD K D0 F l (fun H => t__law_can K P w W _ [some v, some u, some (.int k), none, none, none, none] H)) N H A
  have hv' := hv
  unfold planD at hv'
  have mo := po.mach k1 k3 (by decide) (by decide)
  have n1 := po.n1
  have ns4 := po.ns
  have es7 := po.len
  have big := line_big
  have few : ∀ {r : Nat} {G : List Int}, Rounds p.es ns r G → InRg p.n G ∧ G.length ≤ 4 := fun {r G} h => by
    obtain ⟨g1, _, _, g4⟩ := h.grow nd
    have rgG : InRg p.n G := fun x hx => rc_in mo rg (g4 x hx)
    exact ⟨rgG, Nat.le_trans (few_in g1 rgG) ns4⟩
  unfold t__law_can
  walk_at "go"
  refine d_listL hu fun x0 => ?_
  walk_at "go"
  refine d_ixL (hv'.tail) (d := .int p.n) rfl fun y hy => ?_
  obtain rfl : y = .int p.n := hy
  refine RD.forget ?_
  refine d_rng1 (j := (p.n : Int)) (by omega) (by omega) ?_
  rw [Int.toNat_natCast]
  refine d_forRange (fun i R' σ' l' => R' = F ∧ ∃ (G : List Int) (x : V) (o4 o5 : Option V), Rounds p.es ns i G ∧ InL l' x (.list (G.map .int)) ∧ (∀ q ∈ l, InL l' q.1 q.2) ∧
    σ' = [some v, some u, some (.int k), some x, o4, o5, none]) ?_ ?_ ?_
  · exact ⟨rfl, ns, x0, none, none, .zero, .mem (List.Mem.head _), sub_tail sub_refl, rfl⟩
  · rintro i R' σ' l1 hi ⟨rfl, G, x, o4, o5, rG, hx, sub1, rfl⟩
    obtain ⟨rgG, lG⟩ := few rG
    have gn := (rG.grow nd).1
    walk_at "go"
    rw [abc_S]
    refine d_takeS (by show 3 ≤ _; decide) (by show k ≤ 3; exact k3) ?_
    walk_at "go"
    refine d_forStr (fun j R2 σ2 l2 => R2 = R' ∧ ∃ (G2 : List Int) (x2 : V) (o5 : Option V), Part p.es G ((([97, 98, 99] : List Nat).take k).take j) G2 ∧ InL l2 x2 (.list (G2.map .int)) ∧ (∀ q ∈ l, InL l2 q.1 q.2) ∧
      σ2 = [some v, some u, some (.int k), some x2, some (.int (0 + (i : Int))), o5, none]) ?_ ?_ ?_
    · exact ⟨rfl, G, x, o5, ⟨fun x h => h, fun x c y h => absurd h (by simp), fun x h => .base h, gn⟩, hx, sub1, rfl⟩
    · rintro j c R2 σ2 l2 hc ⟨rfl, G2, x2, o5, pt, hx2, sub2, rfl⟩
      rw [S_tl] at hc
      have rg2 : InRg p.n G2 := fun y hy => rc_in mo rgG (pt.only y hy)
      have l2e : G2.length ≤ 4 := Nat.le_trans (few_in pt.nd rg2) ns4
      have sl := stepI_len p.es G2 c
      walk_at "go"
      refine d_stepped (c := c) (hv.weak sub2) hx2 (by omega) fun x3 => ?_
      walk_at "go"
      refine d_catL (ds := G2.map .int) (es := (stepI p.es G2 c).map .int) hx2.tail (.mem (List.Mem.head _)) (by rw [List.length_map, List.length_map]; omega) fun x4 => ?_
      rw [← List.map_append]
      walk_at "go"
      refine d_setL (ns := G2 ++ stepI p.es G2 c) (.mem (List.Mem.head _)) (by rw [List.length_append]; omega) fun a => ?_
      walk_at "go"
      refine d_sortL (by rw [List.length_append]; omega) fun x5 => ?_
      walk_at "go"
      dsimp only
      refine d_end (l' := (x5, .list ((sortI (G2 ++ stepI p.es G2 c)).map .int)) :: l2) ?_ (by walk_at "sub")
      refine ⟨rfl, _, x5, _, ?_, .mem (List.Mem.head _), fun q hq => (sub2 q hq).tail, rfl⟩
      rw [List.take_succ, hc]
      exact pt.step c
    · rintro R2 σ2 l2 ⟨rfl, G2, x2, o5, pt, hx2, sub2, rfl⟩
      rw [S_tl, List.take_length] at pt
      dsimp only
      refine d_end (l' := l2) ⟨rfl, G2, x2, _, _, .succ rG (pt.round fun e he => (po.ed e he).2.1), hx2, sub2, rfl⟩ sub_refl
  · rintro R' σ' l1 ⟨rfl, G, x, o4, o5, rG, hx, sub1, rfl⟩
    obtain ⟨rgG, lG⟩ := few rG
    have all := fun z => rG.all nd rgG z
    obtain ⟨c, hc⟩ := can_ex (machP k p) ns
    have hold : (G.any fun i => decide (i ∈ p.en)) = c := can_hold hc all
    walk_at "go"
    refine d_lcList1 (v := x) hx (fun i es => es = ((G.take i).filter fun s => decide (s ∈ p.en)).map PyData.int) rfl ?_ ?_
    · rintro i d z Dd es hd dv rfl
      rw [List.getElem?_map] at hd
      obtain ⟨s, hss, rfl⟩ := Option.map_eq_some_iff.1 hd
      obtain rfl : z = .int s := dv
      have few2 : ((G.take i).filter fun s => decide (s ∈ p.en)).length ≤ 1000 := by
        have h1 := List.length_filter_le (fun s => decide (s ∈ p.en)) (G.take i)
        rw [List.length_take] at h1
        omega
      walk_at "go"
      refine d_ixL ((hv'.weak sub1).tail) (d := .list (p.en.map .int)) rfl fun y hy => ?_
      refine d_inL (.int s) (InL.mem (List.Mem.head _)) (dep0 (by simp only [PyData.depth])) ?_
      rw [ints_any]
      walk_at "go"
      refine d_iteP (fun ho => ?_) (fun ho => ?_)
      · walk_at "go"
        refine d_item1 (d := .int s) (.int _) ?_ ?_ (by walk_at "sub")
        · rw [List.length_map]
          exact few_sz few2
        · rw [List.take_succ, hss]
          simp [List.filter_append, ho]
      · refine d_noItem1 ?_ (by walk_at "sub")
        rw [List.take_succ, hss]
        simp [List.filter_append, ho]
    · rintro z es rfl
      rw [List.length_map, List.take_length]
      walk_at "go"
      refine d_newL (ds := []) (Nat.zero_le _) .nil fun y => ?_
      walk_at "go"
      refine d_ne (d := .list ((G.filter fun s => decide (s ∈ p.en)).map .int)) (e := .list []) (.mem (by walk_at "mem")) (.mem (by walk_at "mem")) (ints_depth _) ?_
      rw [ints_empty]
      have e : (!(G.filter fun s => decide (s ∈ p.en)).isEmpty) = c := by
        rw [← hold, Bool.eq_iff_iff, List.any_eq_true]
        simp [List.isEmpty_iff, List.filter_eq_nil_iff]
      rw [e]
      refine RD.weak (l' := l) (fun q hq => ?_) (kk c hc)
      exact ((sub1 q hq).tail).tail
/-! ### machines moved -/
theorem MOk.less {m : Mch} (h : MOk m) (x : Edge) : MOk { m with es := m.es.filter fun y => decide (y ≠ x) } :=
  ⟨h.k1, h.k3, h.n1, h.n6, Nat.le_trans (List.length_filter_le _ _) h.len, h.nd.filter _, fun y hy => h.ed y (List.mem_filter.1 hy).1, h.snd, h.st, h.nnd, h.en⟩
theorem MOk.more {m : Mch} (h : MOk m) {x : Edge} (n : x ∉ m.es) (lt : m.es.length < 14) (hx : (0 ≤ x.1 ∧ x.1 < m.n) ∧ x.2.1 ∈ ([97, 98, 99] : List Nat).take m.k ∧ (0 ≤ x.2.2 ∧ x.2.2 < m.n)) : MOk { m with es := m.es ++ [x] } :=
  ⟨h.k1, h.k3, h.n1, h.n6, by
    show (m.es ++ [x]).length ≤ 14
    rw [List.length_append, List.length_singleton]
    omega, nodup_snoc h.nd n, fun y hy => by
    rcases List.mem_append.1 hy with hy | hy
    · exact h.ed y hy
    · rw [List.mem_singleton.1 hy]
      exact hx, h.snd, h.st, h.nnd, h.en⟩
theorem MOk.setEn {m : Mch} (h : MOk m) {en : List Int} (nd : en.Nodup) (r : ∀ i ∈ en, 0 ≤ i ∧ i < m.n) : MOk { m with en := en } := ⟨h.k1, h.k3, h.n1, h.n6, h.len, h.nd, h.ed, h.snd, h.st, nd, r⟩
theorem MOk.setSt {m : Mch} (h : MOk m) {st : List Int} (nd : st.Nodup) (r : ∀ i ∈ st, 0 ≤ i ∧ i < m.n) : MOk { m with st := st } := ⟨h.k1, h.k3, h.n1, h.n6, h.len, h.nd, h.ed, nd, r, h.nnd, h.en⟩
theorem addI_nd {is : List Int} {i : Int} (nd : is.Nodup) : (addI is i).Nodup := by
  unfold addI
  split
  · exact nd
  · exact nodup_snoc nd (by assumption)
theorem addI_rg {n : Nat} {is : List Int} {i : Int} (rg : ∀ x ∈ is, 0 ≤ x ∧ x < n) (hi : 0 ≤ i ∧ i < n) : ∀ x ∈ addI is i, 0 ≤ x ∧ x < n := fun x hx => by
  unfold addI at hx
  split at hx
  · exact rg x hx
  · rcases List.mem_append.1 hx with hx | hx
    · exact rg x hx
    · rw [List.mem_singleton.1 hx]
      exact hi
theorem MOk.addEn {m : Mch} (h : MOk m) {i : Int} (hi : 0 ≤ i ∧ i < m.n) : MOk { m with en := addI m.en i } := MOk.setEn h (addI_nd h.nnd) (addI_rg h.en hi)
theorem MOk.addSt {m : Mch} (h : MOk m) {i : Int} (hi : 0 ≤ i ∧ i < m.n) : MOk { m with st := addI m.st i } := MOk.setSt h (addI_nd h.snd) (addI_rg h.st hi)
theorem MOk.delEn {m : Mch} (h : MOk m) {i : Int} : MOk (if i ∈ m.en then { m with en := delI m.en i } else m) := by
  split
  · exact MOk.setEn h (h.nnd.filter _) fun x hx => h.en x (List.mem_filter.1 hx).1
  · exact h
theorem MOk.delSt {m : Mch} (h : MOk m) {i : Int} : MOk (if i ∈ m.st then { m with st := delI m.st i } else m) := by
  split
  · exact MOk.setSt h (h.snd.filter _) fun x hx => h.st x (List.mem_filter.1 hx).1
  · exact h
theorem eqv_tup0 (xs : List PyData) : PyData.eqv (.tuple xs) (.tuple []) = xs.isEmpty := by
  cases xs <;> simp [PyData.eqv, PyData.eqvAll]
theorem depth_tes (es : List Edge) : (PyData.tuple (es.map eD)).depth ≤ 60 := by
  have := depth_es es
  simp only [PyData.depth] at this ⊢
  exact this
def sp__law_moved (K : PySem.W.Frag) : Sp := fun vs H Q _ => ∃ (q x : Addr) (m : Mch) (D0 : Hp) (F : Res) (l : List (V × PyData)) (N : Addr → Prop), vs = [.ref q, .ref x, .int m.k] ∧ At K D0 (star (pen K q) (star (mach K x m) F)) l N H ∧ MOk m ∧
  ∀ m', MOk m' → m'.k = m.k → RD K D0 (star (pen K q) (star (mach K x m') F)) l (Q .non)
def t__law_moved (K : PySem.W.Frag) (W : WX) : TS := (tSeq (tPar 3 4 (tCons (tGM (He.ga K "Machine") "edges" (sp_Machine_edges K) W (tVar 1) tNil) (tCons (tFld K (tVar 1) "states") tNil)))
  (tSeq (tIfS (tAnd (tTest (tOp (gNe K) (tVar 3) (tTup tNil))) (tTest (tOp (gEq K) (tG (sp__law_draw K) W (tCons (tVar 0) (tCons (tC (.int 2)) tNil))) (tC (.int 0))))) (tSeq (tAsg (tOp (rIx K) (tVar 3) (tG (sp__law_draw K) W (tCons (tVar 0) (tCons (tCB (gLen K) (tCons (tVar 3) tNil)) tNil)))) (gName 5))
  (tDrop (tGM (He.ga K "Machine") "remove_edge" (sp_Machine_remove_edge K) W (tVar 1) (tCons (tOp (rIx K) (tVar 5) (tC (.int 0))) (tCons (tOp (rIx K) (tVar 5) (tC (.int 1))) (tCons (tOp (rIx K) (tVar 5) (tC (.int 2))) tNil)))))) (tSeq (tAsg (tTup (tCons (tG (sp__law_draw K) W (tCons (tVar 0) (tCons (tVar 4) tNil))) (tCons (tOp (rIx K) (tC (.str "abc")) (tG (sp__law_draw K) W (tCons (tVar 0) (tCons (tVar 2) tNil)))) (tCons (tG (sp__law_draw K) W (tCons (tVar 0) (tCons (tVar 4) tNil))) tNil)))) (gName 6))
  (tIfS (tAnd (tTest (tOp (gIn K true) (tVar 6) (tVar 3))) (tTest (tOp gLt (tCB (gLen K) (tCons (tVar 3) tNil)) (tC (.int 14))))) (tDrop (tGM (He.ga K "Machine") "add_edge" (sp_Machine_add_edge K) W (tVar 1) (tCons (tOp (rIx K) (tVar 6) (tC (.int 0))) (tCons (tOp (rIx K) (tVar 6) (tC (.int 1))) (tCons (tOp (rIx K) (tVar 6) (tC (.int 2))) tNil))))) tNext)))
  (tSeq (tPar 7 8 (tCons (tG (sp__law_draw K) W (tCons (tVar 0) (tCons (tVar 4) tNil))) (tCons (tG (sp__law_draw K) W (tCons (tVar 0) (tCons (tC (.int 4)) tNil))) tNil)))
  (tIfS (tTest (tOp (gEq K) (tVar 8) (tC (.int 0)))) (tDrop (tGM (He.ga K "Machine") "add_end" (sp_Machine_add_end K) W (tVar 1) (tCons (tVar 7) tNil))) (tIfS (tTest (tOp (gEq K) (tVar 8) (tC (.int 1)))) (tDrop (tGM (He.ga K "Machine") "remove_end" (sp_Machine_remove_end K) W (tVar 1) (tCons (tVar 7) tNil))) (tIfS (tTest (tOp (gEq K) (tVar 8) (tC (.int 2)))) (tDrop (tGM (He.ga K "Machine") "add_start" (sp_Machine_add_start K) W (tVar 1) (tCons (tVar 7) tNil))) (tDrop (tGM (He.ga K "Machine") "remove_start" (sp_Machine_remove_start K) W (tVar 1) (tCons (tVar 7) tNil)))))))))

def t_tail (K : PySem.W.Frag) (W : WX) : TS := (tSeq (tPar 7 8 (tCons (tG (sp__law_draw K) W (tCons (tVar 0) (tCons (tVar 4) tNil))) (tCons (tG (sp__law_draw K) W (tCons (tVar 0) (tCons (tC (.int 4)) tNil))) tNil)))
  (tIfS (tTest (tOp (gEq K) (tVar 8) (tC (.int 0)))) (tDrop (tGM (He.ga K "Machine") "add_end" (sp_Machine_add_end K) W (tVar 1) (tCons (tVar 7) tNil))) (tIfS (tTest (tOp (gEq K) (tVar 8) (tC (.int 1)))) (tDrop (tGM (He.ga K "Machine") "remove_end" (sp_Machine_remove_end K) W (tVar 1) (tCons (tVar 7) tNil))) (tIfS (tTest (tOp (gEq K) (tVar 8) (tC (.int 2)))) (tDrop (tGM (He.ga K "Machine") "add_start" (sp_Machine_add_start K) W (tVar 1) (tCons (tVar 7) tNil))) (tDrop (tGM (He.ga K "Machine") "remove_start" (sp_Machine_remove_start K) W (tVar 1) (tCons (tVar 7) tNil)))))))

theorem len__law_moved (h : sp__law_moved K vs H Q E) : vs.length = 3 := by
  obtain ⟨_, _, _, _, _, _, _, rfl, _⟩ := h
  rfl
theorem d_mv {q x : Addr} {k : Nat} {m : Mch} (mo : MOk m) (hk : m.k = k) (kk : ∀ m', MOk m' → m'.k = k → RD K D0 (star (pen K q) (star (mach K x m') R)) l (Q .non)) :
    RD K D0 (star (pen K q) (star (mach K x m) R)) l (fun H => sp__law_moved K [.ref q, .ref x, .int k] H Q E) := by
  subst hk
  exact fun N H A => ⟨q, x, m, D0, R, l, N, rfl, A, mo, kk⟩
theorem tail_ok {q x : Addr} {m : Mch} {w3 w5 w6 : Option V} (mo : MOk m) (kk : ∀ m' w7 w8, MOk m' → m'.k = m.k → RD K D0 (star (pen K q) (star (mach K x m') R)) l (fun H => D.nx [some (.ref q), some (.ref x), some (.int m.k), w3, some (.int m.n), w5, w6, w7, w8] H)) :
    RD K D0 (star (pen K q) (star (mach K x m) R)) l (fun H => t_tail K W D [some (.ref q), some (.ref x), some (.int m.k), w3, some (.int m.n), w5, w6, none, none] H) := by
  have n1 := mo.n1
  have n6 := mo.n6
  have stl : m.st.length ≤ 1000 := Nat.le_trans mo.stl (by decide)
  have enl : m.en.length ≤ 1000 := Nat.le_trans mo.enl (by decide)
  unfold t_tail
  walk_at "go"
  refine d_draw (by omega) (by omega) fun s s0 s1 => ?_
  walk_at "go"
  refine d_draw (by decide) (by decide) fun o o0 o1 => ?_
  walk_at "go"
  refine d_iteP (fun h0 => ?_) (fun h0 => ?_)
  · walk_at "go"
    refine RD.rot ?_
    refine d_kGM (fun _ _ _ => rfl) ?_
    walk_at "go"
    refine d_edOk stl enl ⟨s0, s1⟩ ?_
    refine RD.rot ?_
    walk_at "go"
    exact kk _ _ _ (MOk.addEn mo ⟨s0, s1⟩) rfl
  · walk_at "go"
    refine d_iteP (fun h1 => ?_) (fun h1 => ?_)
    · walk_at "go"
      refine RD.rot ?_
      refine d_kGM (fun _ _ _ => rfl) ?_
      walk_at "go"
      refine d_edOk stl enl ⟨s0, s1⟩ ?_
      refine RD.rot ?_
      walk_at "go"
      exact kk _ _ _ (MOk.delEn mo) (by split <;> rfl)
    · walk_at "go"
      refine d_iteP (fun h2 => ?_) (fun h2 => ?_)
      · walk_at "go"
        refine RD.rot ?_
        refine d_kGM (fun _ _ _ => rfl) ?_
        walk_at "go"
        refine d_edOk stl enl ⟨s0, s1⟩ ?_
        refine RD.rot ?_
        walk_at "go"
        exact kk _ _ _ (MOk.addSt mo ⟨s0, s1⟩) rfl
      · walk_at "go"
        refine RD.rot ?_
        refine d_kGM (fun _ _ _ => rfl) ?_
        walk_at "go"
        refine d_edOk stl enl ⟨s0, s1⟩ ?_
        refine RD.rot ?_
        walk_at "go"
        exact kk _ _ _ (MOk.delSt mo) (by split <;> rfl)
theorem els_ok {q x : Addr} {u : V} {m : Mch} (hr : InL l u (.tuple ((sortE m.es).map eD))) (mo : MOk m) (kk : ∀ m' w6, MOk m' → m'.k = m.k → m'.n = m.n → RD K D0 (star (pen K q) (star (mach K x m') R)) l (fun H => D.nx [some (.ref q), some (.ref x), some (.int m.k), some u, some (.int m.n), none, w6, none, none] H)) :
    RD K D0 (star (pen K q) (star (mach K x m) R)) l (fun H => (tSeq (tAsg (tTup (tCons (tG (sp__law_draw K) W (tCons (tVar 0) (tCons (tVar 4) tNil))) (tCons (tOp (rIx K) (tC (.str "abc")) (tG (sp__law_draw K) W (tCons (tVar 0) (tCons (tVar 2) tNil)))) (tCons (tG (sp__law_draw K) W (tCons (tVar 0) (tCons (tVar 4) tNil))) tNil)))) (gName 6))
      (tIfS (tAnd (tTest (tOp (gIn K true) (tVar 6) (tVar 3))) (tTest (tOp gLt (tCB (gLen K) (tCons (tVar 3) tNil)) (tC (.int 14))))) (tDrop (tGM (He.ga K "Machine") "add_edge" (sp_Machine_add_edge K) W (tVar 1) (tCons (tOp (rIx K) (tVar 6) (tC (.int 0))) (tCons (tOp (rIx K) (tVar 6) (tC (.int 1))) (tCons (tOp (rIx K) (tVar 6) (tC (.int 2))) tNil))))) tNext)) D
      [some (.ref q), some (.ref x), some (.int m.k), some u, some (.int m.n), none, none, none, none] H) := by
  have n1 := mo.n1
  have n6 := mo.n6
  have k1 := mo.k1
  have k3 := mo.k3
  have ln : (sortE m.es).length = m.es.length := (sortE_perm m.es).length_eq
  walk_at "go"
  refine d_draw (by omega) (by omega) fun s s0 s1 => ?_
  walk_at "go"
  refine d_draw (by omega) (by omega) fun c c0 c1 => ?_
  refine d_abc c0 c1 k3 fun hc => ?_
  walk_at "go"
  refine d_draw (by omega) (by omega) fun t t0 t1 => ?_
  walk_at "go"
  refine d_newT (ds := [.int s, .str (S [97 + c.toNat]), .int t]) (show 3 ≤ sizeLine by decide) (by walk_at "inls") fun ve => ?_
  walk_at "go"
  refine d_notInT (d := eD (s, 97 + c.toNat, t)) (.mem (List.Mem.head _)) hr.tail (eD_depth _) ?_
  rw [edges_any]
  walk_at "go"
  refine d_ite (fun hn => ?_) (fun hn => ?_)
  · have hn : (s, 97 + c.toNat, t) ∉ m.es := fun z => by
      have : (s, 97 + c.toNat, t) ∈ sortE m.es := (sortE_perm m.es).mem_iff.2 z
      simp [this] at hn
    walk_at "go"
    refine d_lenT hr.tail ?_
    rw [List.length_map, ln]
    walk_at "go"
    refine d_iteP (fun hl => ?_) (fun hl => ?_)
    · have hl : m.es.length < 14 := by omega
      walk_at "go"
      refine RD.rot ?_
      refine d_kGM (fun _ _ _ => rfl) ?_
      walk_at "go"
      refine d_ixT (ds := [.int s, .str (S [97 + c.toNat]), .int t]) (d := .int s) (.mem (by walk_at "mem")) rfl fun v1 e1 => ?_
      obtain rfl : v1 = .int s := e1
      walk_at "go"
      refine d_ixT (ds := [.int s, .str (S [97 + c.toNat]), .int t]) (d := .str (S [97 + c.toNat])) (.mem (by walk_at "mem")) rfl fun v2 e2 => ?_
      obtain rfl : v2 = .str (S [97 + c.toNat]) := e2
      walk_at "go"
      refine d_ixT (ds := [.int s, .str (S [97 + c.toNat]), .int t]) (d := .int t) (.mem (by walk_at "mem")) rfl fun v3 e3 => ?_
      obtain rfl : v3 = .int t := e3
      walk_at "go"
      refine d_addEdgeOk ⟨s0, s1⟩ ⟨t0, t1⟩ hc hn hl ?_
      refine RD.rot ?_
      walk_at "go"
      exact RD.weak (by walk_at "tails") (kk _ _ (MOk.more mo hn hl ⟨⟨s0, s1⟩, hc, ⟨t0, t1⟩⟩) rfl rfl)
    · walk_at "go"
      exact RD.weak (by walk_at "tails") (kk m _ mo rfl rfl)
  · walk_at "go"
    exact RD.weak (by walk_at "tails") (kk m _ mo rfl rfl)
theorem pure__law_moved (M : MCls K) (h : sp__law_moved K vs H Q E) : t__law_moved K W { nx := fun _ H' => Q .non H', rt := Q } (start ["pen", "machine", "k", "rows", "n", "gone", "edge", "state", "option"] vs) H := by
  obtain ⟨q, x, m, D0, F, l, N, rfl, A, mo, kk⟩ := h
  refine (?_ : RD K D0 (star (pen K q) (star (mach K x m) F)) l (fun H => t__law_moved K W _ [some (.ref q), some (.ref x), some (.int m.k), none, none, none, none, none, none] H)) N H A
  have e14 := mo.len
  have ln : (sortE m.es).length = m.es.length := (sortE_perm m.es).length_eq
  unfold t__law_moved
  walk_at "go"
  refine RD.rot ?_
  refine d_kGM (fun _ _ _ => rfl) ?_
  walk_at "go"
  refine d_edgesE fun u => ?_
  walk_at "go"
  refine openMach fun dm ed sd td nd5 => ?_
  refine d_fld (v := .int m.n) (List.Mem.head _) M.c M.n2 rfl ?_
  refine closeMach nd5 ?_
  refine RD.rot ?_
  walk_at "go"
  have fin : ∀ {m2 : Mch} {l' : List (V × PyData)} {w3 w5 w6 : Option V}, MOk m2 → m2.k = m.k → m2.n = m.n → (∀ z ∈ l, InL l' z.1 z.2) → RD K D0 (star (pen K q) (star (mach K x m2) F)) l' (fun H => t_tail K W { nx := fun _ H' => Q .non H', rt := Q } [some (.ref q), some (.ref x), some (.int m.k), w3, some (.int m.n), w5, w6, none, none] H) := fun {m2 l' w3 w5 w6} mo2 e1 e2 sub => by
    rw [← e1, ← e2]
    exact tail_ok mo2 fun m' w7 w8 mo' e' => RD.weak sub (kk m' mo' (e'.trans e1))
  refine d_newT (ds := []) (Nat.zero_le _) .nil fun u2 => ?_
  walk_at "go"
  refine d_ne (d := .tuple ((sortE m.es).map eD)) (e := .tuple []) (.mem (by walk_at "mem")) (.mem (List.Mem.head _)) (depth_tes _) ?_
  rw [eqv_tup0]
  refine RD.forget ?_
  walk_at "go"
  refine d_ite (fun hes => ?_) (fun hes => ?_)
  · have pos : 0 < m.es.length := List.length_pos_iff.2 fun z => by
      have : (sortE m.es) = [] := List.length_eq_zero_iff.1 (by rw [ln, z]; rfl)
      rw [this] at hes
      simp at hes
    walk_at "go"
    refine d_draw (by decide) (by decide) fun o o0 o1 => ?_
    walk_at "go"
    refine d_iteP (fun ho => ?_) (fun ho => ?_)
    · walk_at "go"
      refine d_lenT (ds := (sortE m.es).map eD) (.mem (List.Mem.head _)) ?_
      rw [List.length_map, ln]
      walk_at "go"
      refine d_draw (by omega) (by omega) fun j j0 j1 => ?_
      obtain ⟨j, rfl⟩ := Int.eq_ofNat_of_zero_le j0
      obtain ⟨⟨eo, ec, et⟩, hx⟩ : ∃ x, (sortE m.es)[j]? = some x := ⟨_, List.getElem?_eq_getElem (by omega)⟩
      walk_at "go"
      refine d_ixT (ds := (sortE m.es).map eD) (d := eD (eo, ec, et)) (.mem (List.Mem.head _)) (atI_nat (by rw [List.getElem?_map, hx]; rfl)) fun vg hg => ?_
      walk_at "go"
      refine RD.rot ?_
      refine d_kGM (fun _ _ _ => rfl) ?_
      walk_at "go"
      refine d_ixT (ds := [.int eo, .str (S [ec]), .int et]) (d := .int eo) (.mem (by walk_at "mem")) rfl fun v1 e1 => ?_
      obtain rfl : v1 = .int eo := e1
      walk_at "go"
      refine d_ixT (ds := [.int eo, .str (S [ec]), .int et]) (d := .str (S [ec])) (.mem (by walk_at "mem")) rfl fun v2 e2 => ?_
      obtain rfl : v2 = .str (S [ec]) := e2
      walk_at "go"
      refine d_ixT (ds := [.int eo, .str (S [ec]), .int et]) (d := .int et) (.mem (by walk_at "mem")) rfl fun v3 e3 => ?_
      obtain rfl : v3 = .int et := e3
      walk_at "go"
      refine d_removeEdgeI ((sortE_perm m.es).mem_iff.1 (List.mem_of_getElem? hx)) ?_
      refine RD.rot ?_
      refine d_next ?_
      exact fin (MOk.less mo _) rfl rfl (by walk_at "tails")
    · refine els_ok (.mem (List.Mem.head _)) mo fun m' w6 mo' e1 e2 => ?_
      exact fin mo' e1 e2 (by walk_at "tails")
  · refine els_ok (.mem (List.Mem.head _)) mo fun m' w6 mo' e1 e2 => ?_
    exact fin mo' e1 e2 (by walk_at "tails")
/-! ### the law -/
theorem stepE (es : List Edge) (G : List Int) (c : Nat) : stepI (sortE es) G c = stepI es G c := sortI_congr fun z => by
  have h := sortE_perm es
  simp only [List.mem_map, List.mem_filter]
  exact ⟨fun ⟨x, ⟨a, b⟩, e⟩ => ⟨x, ⟨h.mem_iff.1 a, b⟩, e⟩, fun ⟨x, ⟨a, b⟩, e⟩ => ⟨x, ⟨h.mem_iff.2 a, b⟩, e⟩⟩
theorem walk_snoc (es : List Edge) (G : List Int) (cs : List Nat) (c : Nat) : walkI es G (cs ++ [c]) = stepI es (walkI es G cs) c := by
  unfold walkI
  rw [List.foldl_append]
  rfl
theorem rc_more {es es' : List Edge} {ns : List Int} (h : ∀ e ∈ es, e ∈ es') {x : Int} (r : Rc es ns x) : Rc es' ns x := by
  induction r with
  | base hx => exact .base hx
  | step _ e ih => exact .step ih (h _ e)
theorem can_twin {m : Mch} {s : List Int} {c : Bool} (h : CanB (twinM m) s c) : CanB m s c := by
  have h' : c = true ↔ ∃ x, Rc (sortE m.es) s x ∧ x ∈ sortI m.en := h
  refine Iff.trans h' ⟨fun ⟨x, r, e⟩ => ⟨x, rc_more (fun e he => (sortE_perm m.es).mem_iff.1 he) r, mem_sortI.1 e⟩, fun ⟨x, r, e⟩ => ⟨x, rc_more (fun e he => (sortE_perm m.es).mem_iff.2 he) r, mem_sortI.2 e⟩⟩
theorem hold_twin (k : Nat) (p : Plan) (cs : List Nat) : holdB (twinM (machP k p)) (walkI p.es (sortI p.st) cs) = hasP p cs := by
  unfold holdB hasP
  refine congrArg (List.any (walkI p.es (sortI p.st) cs)) (funext fun i => ?_)
  have e : i ∈ (twinM (machP k p)).en ↔ i ∈ p.en := mem_sortI
  by_cases h : i ∈ p.en
  · rw [decide_eq_true h, decide_eq_true (e.2 h)]
  · rw [decide_eq_false h, decide_eq_false fun z => h (e.1 z)]
def kdO (k : Nat) (p1 p2 : Plan) (cs : List Nat) : Kd := ⟨twinM (machP k p1), twinM (machP k p2), walkI p1.es (sortI p1.st) cs, walkI p2.es (sortI p2.st) cs⟩
theorem walk_nd (es : List Edge) {ns : List Int} (h : ns.Pairwise (· < ·)) (cs : List Nat) : (walkI es ns cs).Nodup := List.nodup_iff_pairwise_ne.2 ((walkI_asc h).imp fun h => Int.ne_of_lt h)
theorem walk_rg {k : Nat} {p : Plan} (po : PlanOk k 4 7 p) (cs : List Nat) : InRg p.n (walkI p.es (sortI p.st) cs) := by
  have key : ∀ (cs : List Nat) (ns : List Int), InRg p.n ns → InRg p.n (walkI p.es ns cs) := fun cs => by
    induction cs with
    | nil => exact fun ns h => h
    | cons c cs ih =>
      intro ns h
      refine ih (stepI p.es ns c) fun x hx => ?_
      obtain ⟨y, _, he⟩ := mem_step.1 hx
      exact (po.ed _ he).2.2
  exact key cs _ fun x hx => po.st x (mem_sortI.1 hx)
theorem kdO_ok {k : Nat} {p1 p2 : Plan} (k1 : 1 ≤ k) (k3 : k ≤ 3) (o1 : PlanOk k 4 7 p1) (o2 : PlanOk k 4 7 p2) (cs : List Nat) : Kok (kdO k p1 p2 cs) where
  o1 := twin_ok (o1.mach k1 k3 (by decide) (by decide))
  o2 := twin_ok (o2.mach k1 k3 (by decide) (by decide))
  d1 := walk_nd _ (asc_sortI _) cs
  d2 := walk_nd _ (asc_sortI _) cs
  r1 := walk_rg o1 cs
  r2 := walk_rg o2 cs
theorem kdL_eqv (a b : Bool) : PyData.eqv (.tuple (kdL a b 2)) (.tuple (kdL a b 2)) = true := by
  cases a <;> cases b <;> decide +kernel
theorem kdL_dp (a b : Bool) : (PyData.tuple (kdL a b 2)).depth ≤ 60 := by
  cases a <;> cases b <;> simp [kdL, PyData.depth, PyData.depthAll]
/-- the pen, the machines of the pair, the follower -/
def RS (K : PySem.W.Frag) (q x1 x2 x : Addr) (m1 m2 : Mch) (kd : Kd) : Res := star (pen K q) (star (mach K x1 m1) (star (mach K x2 m2) (star (kindR K x kd) emp)))
theorem chosen {q x1 x2 x y : Addr} {m1 m2 : Mch} {kd : Kd} {k : Nat} {i : Int} (i0 : 0 ≤ i) (i1 : i < 2) (hy : y = x2 ∨ y = x1) (o1 : MOk m1) (o2 : MOk m2) (e1 : m1.k = k) (e2 : m2.k = k) :
    ∃ (z : Addr) (m : Mch) (F' : Res), atI [V.ref x1, .ref y] i = some (.ref z) ∧ MOk m ∧ m.k = k ∧
      (∀ {D1 : Hp} {l' : List (V × PyData)} {T' : Hp → Prop}, RD K D1 (star (pen K q) (star (mach K z m) F')) l' T' → RD K D1 (RS K q x1 x2 x m1 m2 kd) l' T') ∧
      ∀ m' {D1 : Hp} {l' : List (V × PyData)} {T' : Hp → Prop}, MOk m' → m'.k = k → (∀ m1 m2, MOk m1 → MOk m2 → m1.k = k → m2.k = k → RD K D1 (RS K q x1 x2 x m1 m2 kd) l' T') → RD K D1 (star (pen K q) (star (mach K z m') F')) l' T' := by
  have first : ∃ (m : Mch) (F' : Res), MOk m ∧ m.k = k ∧
      (∀ {D1 : Hp} {l' : List (V × PyData)} {T' : Hp → Prop}, RD K D1 (star (pen K q) (star (mach K x1 m) F')) l' T' → RD K D1 (RS K q x1 x2 x m1 m2 kd) l' T') ∧
      ∀ m' {D1 : Hp} {l' : List (V × PyData)} {T' : Hp → Prop}, MOk m' → m'.k = k → (∀ m1 m2, MOk m1 → MOk m2 → m1.k = k → m2.k = k → RD K D1 (RS K q x1 x2 x m1 m2 kd) l' T') → RD K D1 (star (pen K q) (star (mach K x1 m') F')) l' T' :=
    ⟨m1, _, o1, e1, fun h => h, fun m' {D1 l' T'} om em h => h m' m2 om o2 em e2⟩
  have h2 : i = 0 ∨ i = 1 := by omega
  rcases h2 with rfl | rfl
  · obtain ⟨m, F', h⟩ := first
    exact ⟨x1, m, F', rfl, h⟩
  · rcases hy with rfl | rfl
    · exact ⟨y, m2, star (mach K x1 m1) (star (kindR K x kd) emp), rfl, o2, e2, fun h => RD.res (fun z => star_right (fun u => star_swap u) z) h,
        fun m' {D1 l' T'} om em h => RD.res (fun z => star_right (fun u => star_swap u) z) (h m1 m' o1 om e1 em)⟩
    · obtain ⟨m, F', h⟩ := first
      exact ⟨y, m, F', rfl, h⟩
def t_law (K : PySem.W.Frag) (W : WX) : TS := (tSeq (tAsg (tG (sp__law_pen K) W (tCons (tVar 0) tNil)) (gName 1))
  (tSeq (tFor (iRng1 (tCons (tC (.int 2)) tNil)) (gName 2) (tSeq (tAsg (tOp (gAdd K) (tC (.int 1)) (tG (sp__law_draw K) W (tCons (tVar 1) (tCons (tC (.int 3)) tNil)))) (gName 3))
  (tSeq (tAsg (tLst (tCons (tG (sp__law_plan K) W (tCons (tVar 1) (tCons (tVar 3) (tCons (tC (.int 4)) (tCons (tC (.int 7)) tNil))))) (tCons (tG (sp__law_plan K) W (tCons (tVar 1) (tCons (tVar 3) (tCons (tC (.int 4)) (tCons (tC (.int 7)) tNil))))) tNil))) (gName 4))
  (tSeq (tIfS (tTest (tOp (gEq K) (tG (sp__law_draw K) W (tCons (tVar 1) (tCons (tC (.int 6)) tNil))) (tC (.int 0)))) (tAsg (tLst tNil) (gSub (tOp (rIx K) (tVar 4) (tG (sp__law_draw K) W (tCons (tVar 1) (tCons (tC (.int 2)) tNil)))) (tOp (gAdd K) (tC (.int 1)) (tG (sp__law_draw K) W (tCons (tVar 1) (tCons (tC (.int 2)) tNil)))) rSetL)) tNext)
  (tSeq (tAsg (tTup (tCons (tG (sp__law_machine_of K) W (tCons (tVar 3) (tCons (tOp (rIx K) (tVar 4) (tC (.int 0))) tNil))) (tCons (tG (sp__law_machine_of K) W (tCons (tVar 3) (tCons (tOp (rIx K) (tVar 4) (tC (.int 1))) tNil))) tNil))) (gName 5))
  (tSeq (tIfS (tTest (tOp (gEq K) (tG (sp__law_draw K) W (tCons (tVar 1) (tCons (tC (.int 5)) tNil))) (tC (.int 0)))) (tAsg (tTup (tCons (tOp (rIx K) (tVar 4) (tC (.int 0))) (tCons (tTup (tCons (tOp (rIx K) (tVar 5) (tC (.int 0))) (tCons (tOp (rIx K) (tVar 5) (tC (.int 0))) tNil))) tNil))) (gTup K 2 (gCons (gSub (tVar 4) (tC (.int 1)) rSetL) (gCons (gName 5) gNil)))) tNext)
  (tSeq (tAsg (tTup (tCons (tGN (He.ga K "KindFollower") (sp_KindFollower___init__ K) W (tCons (tVar 5) tNil)) (tCons (tC (.str "")) tNil))) (gTup K 2 (gCons (gName 6) (gCons (gName 7) gNil))))
  (tSeq (tDrop (tG (sp__law_moved K) W (tCons (tVar 1) (tCons (tOp (rIx K) (tVar 5) (tG (sp__law_draw K) W (tCons (tVar 1) (tCons (tC (.int 2)) tNil)))) (tCons (tVar 3) tNil)))))
  (tFor (iRng1 (tCons (tOp (gAdd K) (tC (.int 1)) (tG (sp__law_draw K) W (tCons (tVar 1) (tCons (tC (.int 7)) tNil)))) tNil)) (gName 8) (tSeq (tAsg (tCB (gTuple K) (tCons (tLc (gZip K (tCons (tC (.str "AB")) (tCons (tVar 4) tNil))) (gTup K 2 (gCons (gName 10) (gCons (gName 11) gNil))) (tTru K (tG (sp__law_has K) W0 (tCons (tVar 11) (tCons (tVar 7) tNil)))) (tVar 10) [10, 11]) tNil)) (gName 9))
  (tSeq (tAsg (tCB (gTuple K) (tCons (tLc (gZip K (tCons (tC (.str "AB")) (tCons (tVar 4) tNil))) (gTup K 2 (gCons (gName 10) (gCons (gName 11) gNil))) (tTru K (tG (sp__law_can K) W0 (tCons (tVar 11) (tCons (tG (sp__law_states K) W0 (tCons (tVar 11) (tCons (tVar 7) tNil))) (tCons (tVar 3) tNil))))) (tVar 10) [10, 11]) tNil)) (gName 12))
  (tSeq (tIfS (tOr (tTest (tOp (gNe K) (tGM (He.ga K "KindFollower") "is_now" (sp_KindFollower_is_now K) W (tVar 6) tNil) (tVar 9))) (tOr (tTest (tOp (gNe K) (tGM (He.ga K "KindFollower") "can_become" (sp_KindFollower_can_become K) W (tVar 6) tNil) (tVar 12))) (tTest (tOp (gNe K) (tCB (rRepr K) (tCons (tGM (He.ga K "KindFollower") "is_settled" (sp_KindFollower_is_settled K) W (tVar 6) tNil) tNil)) (tCB (rRepr K) (tCons (tOp gLe (tCB (gLen K) (tCons (tVar 12) tNil)) (tC (.int 1))) tNil)))))) (tRet (tC (.bl false))) tNext)
  (tSeq (tDrop (tG (sp__law_moved K) W (tCons (tVar 1) (tCons (tOp (rIx K) (tVar 5) (tG (sp__law_draw K) W (tCons (tVar 1) (tCons (tC (.int 2)) tNil)))) (tCons (tVar 3) tNil)))))
  (tSeq (tAsg (tOp (rIx K) (tC (.str "abc")) (tG (sp__law_draw K) W (tCons (tVar 1) (tCons (tVar 3) tNil)))) (gName 13))
  (tSeq (tIfS (tTest (tOp gNotN (tGM (He.ga K "KindFollower") "read" (sp_KindFollower_read K) W (tVar 6) (tCons (tVar 13) tNil)) (tC .non))) (tRet (tC (.bl false))) tNext)
  (tAsg (tOp (gAdd K) (tVar 7) (tVar 13)) (gName 7)))))))))))))))))
  (tRet (tC (.bl true)))))

def t_rest2 (K : PySem.W.Frag) (W : WX) : TS := (tSeq (tAsg (tTup (tCons (tGN (He.ga K "KindFollower") (sp_KindFollower___init__ K) W (tCons (tVar 5) tNil)) (tCons (tC (.str "")) tNil))) (gTup K 2 (gCons (gName 6) (gCons (gName 7) gNil))))
  (tSeq (tDrop (tG (sp__law_moved K) W (tCons (tVar 1) (tCons (tOp (rIx K) (tVar 5) (tG (sp__law_draw K) W (tCons (tVar 1) (tCons (tC (.int 2)) tNil)))) (tCons (tVar 3) tNil)))))
  (tFor (iRng1 (tCons (tOp (gAdd K) (tC (.int 1)) (tG (sp__law_draw K) W (tCons (tVar 1) (tCons (tC (.int 7)) tNil)))) tNil)) (gName 8) (tSeq (tAsg (tCB (gTuple K) (tCons (tLc (gZip K (tCons (tC (.str "AB")) (tCons (tVar 4) tNil))) (gTup K 2 (gCons (gName 10) (gCons (gName 11) gNil))) (tTru K (tG (sp__law_has K) W0 (tCons (tVar 11) (tCons (tVar 7) tNil)))) (tVar 10) [10, 11]) tNil)) (gName 9))
  (tSeq (tAsg (tCB (gTuple K) (tCons (tLc (gZip K (tCons (tC (.str "AB")) (tCons (tVar 4) tNil))) (gTup K 2 (gCons (gName 10) (gCons (gName 11) gNil))) (tTru K (tG (sp__law_can K) W0 (tCons (tVar 11) (tCons (tG (sp__law_states K) W0 (tCons (tVar 11) (tCons (tVar 7) tNil))) (tCons (tVar 3) tNil))))) (tVar 10) [10, 11]) tNil)) (gName 12))
  (tSeq (tIfS (tOr (tTest (tOp (gNe K) (tGM (He.ga K "KindFollower") "is_now" (sp_KindFollower_is_now K) W (tVar 6) tNil) (tVar 9))) (tOr (tTest (tOp (gNe K) (tGM (He.ga K "KindFollower") "can_become" (sp_KindFollower_can_become K) W (tVar 6) tNil) (tVar 12))) (tTest (tOp (gNe K) (tCB (rRepr K) (tCons (tGM (He.ga K "KindFollower") "is_settled" (sp_KindFollower_is_settled K) W (tVar 6) tNil) tNil)) (tCB (rRepr K) (tCons (tOp gLe (tCB (gLen K) (tCons (tVar 12) tNil)) (tC (.int 1))) tNil)))))) (tRet (tC (.bl false))) tNext)
  (tSeq (tDrop (tG (sp__law_moved K) W (tCons (tVar 1) (tCons (tOp (rIx K) (tVar 5) (tG (sp__law_draw K) W (tCons (tVar 1) (tCons (tC (.int 2)) tNil)))) (tCons (tVar 3) tNil)))))
  (tSeq (tAsg (tOp (rIx K) (tC (.str "abc")) (tG (sp__law_draw K) W (tCons (tVar 1) (tCons (tVar 3) tNil)))) (gName 13))
  (tSeq (tIfS (tTest (tOp gNotN (tGM (He.ga K "KindFollower") "read" (sp_KindFollower_read K) W (tVar 6) (tCons (tVar 13) tNil)) (tC .non))) (tRet (tC (.bl false))) tNext)
  (tAsg (tOp (gAdd K) (tVar 7) (tVar 13)) (gName 7)))))))))))

def t_rest (K : PySem.W.Frag) (W : WX) : TS := (tSeq (tAsg (tTup (tCons (tG (sp__law_machine_of K) W (tCons (tVar 3) (tCons (tOp (rIx K) (tVar 4) (tC (.int 0))) tNil))) (tCons (tG (sp__law_machine_of K) W (tCons (tVar 3) (tCons (tOp (rIx K) (tVar 4) (tC (.int 1))) tNil))) tNil))) (gName 5))
  (tSeq (tIfS (tTest (tOp (gEq K) (tG (sp__law_draw K) W (tCons (tVar 1) (tCons (tC (.int 5)) tNil))) (tC (.int 0)))) (tAsg (tTup (tCons (tOp (rIx K) (tVar 4) (tC (.int 0))) (tCons (tTup (tCons (tOp (rIx K) (tVar 5) (tC (.int 0))) (tCons (tOp (rIx K) (tVar 5) (tC (.int 0))) tNil))) tNil))) (gTup K 2 (gCons (gSub (tVar 4) (tC (.int 1)) rSetL) (gCons (gName 5) gNil)))) tNext)
  (tSeq (tAsg (tTup (tCons (tGN (He.ga K "KindFollower") (sp_KindFollower___init__ K) W (tCons (tVar 5) tNil)) (tCons (tC (.str "")) tNil))) (gTup K 2 (gCons (gName 6) (gCons (gName 7) gNil))))
  (tSeq (tDrop (tG (sp__law_moved K) W (tCons (tVar 1) (tCons (tOp (rIx K) (tVar 5) (tG (sp__law_draw K) W (tCons (tVar 1) (tCons (tC (.int 2)) tNil)))) (tCons (tVar 3) tNil)))))
  (tFor (iRng1 (tCons (tOp (gAdd K) (tC (.int 1)) (tG (sp__law_draw K) W (tCons (tVar 1) (tCons (tC (.int 7)) tNil)))) tNil)) (gName 8) (tSeq (tAsg (tCB (gTuple K) (tCons (tLc (gZip K (tCons (tC (.str "AB")) (tCons (tVar 4) tNil))) (gTup K 2 (gCons (gName 10) (gCons (gName 11) gNil))) (tTru K (tG (sp__law_has K) W0 (tCons (tVar 11) (tCons (tVar 7) tNil)))) (tVar 10) [10, 11]) tNil)) (gName 9))
  (tSeq (tAsg (tCB (gTuple K) (tCons (tLc (gZip K (tCons (tC (.str "AB")) (tCons (tVar 4) tNil))) (gTup K 2 (gCons (gName 10) (gCons (gName 11) gNil))) (tTru K (tG (sp__law_can K) W0 (tCons (tVar 11) (tCons (tG (sp__law_states K) W0 (tCons (tVar 11) (tCons (tVar 7) tNil))) (tCons (tVar 3) tNil))))) (tVar 10) [10, 11]) tNil)) (gName 12))
  (tSeq (tIfS (tOr (tTest (tOp (gNe K) (tGM (He.ga K "KindFollower") "is_now" (sp_KindFollower_is_now K) W (tVar 6) tNil) (tVar 9))) (tOr (tTest (tOp (gNe K) (tGM (He.ga K "KindFollower") "can_become" (sp_KindFollower_can_become K) W (tVar 6) tNil) (tVar 12))) (tTest (tOp (gNe K) (tCB (rRepr K) (tCons (tGM (He.ga K "KindFollower") "is_settled" (sp_KindFollower_is_settled K) W (tVar 6) tNil) tNil)) (tCB (rRepr K) (tCons (tOp gLe (tCB (gLen K) (tCons (tVar 12) tNil)) (tC (.int 1))) tNil)))))) (tRet (tC (.bl false))) tNext)
  (tSeq (tDrop (tG (sp__law_moved K) W (tCons (tVar 1) (tCons (tOp (rIx K) (tVar 5) (tG (sp__law_draw K) W (tCons (tVar 1) (tCons (tC (.int 2)) tNil)))) (tCons (tVar 3) tNil)))))
  (tSeq (tAsg (tOp (rIx K) (tC (.str "abc")) (tG (sp__law_draw K) W (tCons (tVar 1) (tCons (tVar 3) tNil)))) (gName 13))
  (tSeq (tIfS (tTest (tOp gNotN (tGM (He.ga K "KindFollower") "read" (sp_KindFollower_read K) W (tVar 6) (tCons (tVar 13) tNil)) (tC .non))) (tRet (tC (.bl false))) tNext)
  (tAsg (tOp (gAdd K) (tVar 7) (tVar 13)) (gName 7)))))))))))))

theorem rest2_ok {q P t x1 x2 y : Addr} {k : Nat} {p1 p2 pz : Plan} (k1 : 1 ≤ k) (k3 : k ≤ 3) (o1 : PlanOk k 4 7 p1) (o2 : PlanOk k 4 7 p2) (hp : InL l (.ref P) (.list [planD p1, planD pz])) (ht : D0 t = some (.tup [.ref x1, .ref y])) (hy : (y = x2 ∧ pz = p2) ∨ (y = x1 ∧ pz = p1)) {w0 w2 w6 w7 w8 w9 w12 w13 : Option V}
    (kk : ∀ w6 w7 w8 w9 w12 w13, RD K D0 (star (pen K q) emp) l (fun H => D.nx [w0, some (.ref q), w2, some (.int k), some (.ref P), some (.ref t), w6, w7, w8, w9, none, none, w12, w13] H)) :
    RD K D0 (star (pen K q) (star (mach K x1 (machP k p1)) (star (mach K x2 (machP k p2)) emp))) l (fun H => t_rest2 K W D [w0, some (.ref q), w2, some (.int k), some (.ref P), some (.ref t), w6, w7, w8, w9, none, none, w12, w13] H) := by
  have m1o := o1.mach k1 k3 (by decide) (by decide)
  have m2o := o2.mach k1 k3 (by decide) (by decide)
  have oz : PlanOk k 4 7 pz := by
    rcases hy with ⟨_, rfl⟩ | ⟨_, rfl⟩
    · exact o2
    · exact o1
  have mzo := oz.mach k1 k3 (by decide) (by decide)
  have vz : Vw (star (pen K q) (star (mach K x1 (machP k p1)) (star (mach K x2 (machP k p2)) emp))) (mach K y (machP k pz)) := by
    rcases hy with ⟨rfl, rfl⟩ | ⟨rfl, rfl⟩
    · exact Vw.under Vw.second
    · exact Vw.second
  have hy2 : y = x2 ∨ y = x1 := hy.elim (fun z => .inl z.1) fun z => .inr z.1
  have e1 : p1.es.length ≤ 40 := Nat.le_trans o1.len (by decide)
  have ez : pz.es.length ≤ 40 := Nat.le_trans oz.len (by decide)
  have s1 : p1.st.length ≤ 40 := Nat.le_trans m1o.stl (by decide)
  have sz : pz.st.length ≤ 40 := Nat.le_trans mzo.stl (by decide)
  have big := line_big
  unfold t_rest2
  walk_at "go"
  refine d_makeK ht Vw.second vz m1o mzo rfl fun x => ?_
  walk_at "go"
  refine d_newTV (show 2 ≤ sizeLine by decide) fun u du => ?_
  walk_at "go"
  refine d_gTup2D upd_same ?_
  refine RD.moreD (same_upd du) ?_
  walk_at "go"
  refine RD.put4 ?_
  refine (?_ : RD K D0 (RS K q x1 x2 x (machP k p1) (machP k p2) (kdO k p1 pz [])) l _)
  refine d_draw (by decide) (by decide) fun i0 i00 i01 => ?_
  obtain ⟨z, m, F', hz, om, em, opn, cls⟩ := chosen (K := K) (q := q) (x1 := x1) (x2 := x2) (x := x) (y := y) (kd := kdO k p1 pz []) (k := k) i00 i01 hy2 m1o m2o rfl rfl
  refine opn ?_
  refine d_ixTK (v := .ref z) ht hz ?_
  walk_at "go"
  refine d_mv om em fun m' om' em' => ?_
  refine cls m' om' em' fun m1 m2 om1 om2 em1 em2 => ?_
  walk_at "go"
  refine d_draw (by decide) (by decide) fun n n0 n1 => ?_
  obtain ⟨n, rfl⟩ := Int.eq_ofNat_of_zero_le n0
  walk_at "go"
  rw [show (1 : Int) + (n : Nat) = ((n + 1 : Nat) : Int) by omega]
  refine d_rng1 (by omega) (by omega) ?_
  refine d_forRange (fun i R' σ' l' => ∃ (cs : List Nat) (m1 m2 : Mch) (w8 w9 w12 w13 : Option V), R' = RS K q x1 x2 x m1 m2 (kdO k p1 pz cs) ∧ l' = l ∧ MOk m1 ∧ MOk m2 ∧ m1.k = k ∧ m2.k = k ∧ cs.length ≤ i ∧
    σ' = [w0, some (.ref q), w2, some (.int k), some (.ref P), some (.ref t), some (.ref x), some (.str (S cs)), w8, w9, none, none, w12, w13]) ?_ ?_ ?_
  · exact ⟨[], m1, m2, _, _, _, _, rfl, rfl, om1, om2, em1, em2, Nat.le_refl _, rfl⟩
  · rintro i R' σ' l' hi ⟨cs, m1, m2, w8, w9, w12, w13, rfl, rfl, om1, om2, em1, em2, hl, rfl⟩
    have ok := kdO_ok k1 k3 o1 oz cs
    obtain ⟨c1, hc1⟩ := can_ex (machP k p1) (walkI p1.es (sortI p1.st) cs)
    obtain ⟨c2, hc2⟩ := can_ex (machP k pz) (walkI pz.es (sortI pz.st) cs)
    walk_at "go"
    refine d_lcZip2F (c1 := .txt "AB") (ds := [planD p1, planD pz]) srcAB hp rfl (fun i es => es = kdL (hasP p1 cs) (hasP pz cs) i) rfl ?_ ?_
    · rintro i x0 z d q0 Dd es hx hd dq rfl
      refine d_gTup2D (q := q0) upd_same ?_
      match i, hx, hd with
      | 0, hx, hd =>
        obtain rfl : x0 = .str "A" := by simpa using hx.symm
        obtain rfl : d = planD p1 := by simpa using hd.symm
        walk_at "go"
        refine d_lawHas (p := p1) (.mem (List.Mem.head _)) e1 s1 ?_
        walk_at "go"
        refine RD.moreD (same_upd dq) ?_
        cases hh : hasP p1 cs with
        | true =>
          refine d_ite (fun _ => ?_) (fun z => absurd z (by decide))
          walk_at "go"
          exact d_item1 (d := .str "A") (.str _) (by show 0 < _; omega) rfl (by walk_at "tails")
        | false =>
          refine d_ite (fun z => absurd z (by decide)) (fun _ => ?_)
          exact d_noItem1 rfl (by walk_at "tails")
      | 1, hx, hd =>
        obtain rfl : x0 = .str "B" := by simpa using hx.symm
        obtain rfl : d = planD pz := by simpa using hd.symm
        walk_at "go"
        refine d_lawHas (p := pz) (.mem (List.Mem.head _)) ez sz ?_
        walk_at "go"
        refine RD.moreD (same_upd dq) ?_
        have e2 : kdL (hasP p1 cs) (hasP pz cs) 2 = kdL (hasP p1 cs) (hasP pz cs) 1 ++ if hasP pz cs then [.str "B"] else [] := rfl
        have e3 : (kdL (hasP p1 cs) (hasP pz cs) 1).length ≤ 1 := by
          show (if hasP p1 cs then [PyData.str "A"] else []).length ≤ 1
          split <;> simp
        cases hh : hasP pz cs with
        | true =>
          refine d_ite (fun _ => ?_) (fun z => absurd z (by decide))
          walk_at "go"
          rw [hh] at e2 e3
          exact d_item1 (d := .str "B") (.str _) (by omega) (by rw [e2]; rfl) (by walk_at "tails")
        | false =>
          refine d_ite (fun z => absurd z (by decide)) (fun _ => ?_)
          rw [hh] at e2
          exact d_noItem1 (by rw [e2, if_neg (by decide), List.append_nil]) (by walk_at "tails")
      | i + 2, hx, hd => simp at hx
    rintro v es rfl
    walk_at "go"
    refine d_tupleL (.mem (List.Mem.head _)) fun un => ?_
    refine RD.weak (l' := (un, .tuple (kdL (hasP p1 cs) (hasP pz cs) 2)) :: l') (by walk_at "sub") ?_
    walk_at "go"
    refine d_lcZip2F (c1 := .txt "AB") (ds := [planD p1, planD pz]) srcAB hp.tail rfl (fun i es => es = kdL c1 c2 i) rfl ?_ ?_
    · rintro i x0 z d q0 Dd es hx hd dq rfl
      refine d_gTup2D (q := q0) upd_same ?_
      match i, hx, hd with
      | 0, hx, hd =>
        obtain rfl : x0 = .str "A" := by simpa using hx.symm
        obtain rfl : d = planD p1 := by simpa using hd.symm
        walk_at "go"
        refine d_lawStates (p := p1) (.mem (List.Mem.head _)) e1 s1 fun xs => ?_
        walk_at "go"
        refine d_can (p := p1) (.mem (by walk_at "mem")) (.mem (List.Mem.head _)) k1 k3 o1 ok.d1 ok.r1 fun c hc => ?_
        obtain rfl : c = c1 := CanB.one hc hc1
        refine RD.forget ?_
        walk_at "go"
        refine RD.moreD (same_upd dq) ?_
        cases c with
        | true =>
          refine d_ite (fun _ => ?_) (fun z => absurd z (by decide))
          walk_at "go"
          exact d_item1 (d := .str "A") (.str _) (by show 0 < _; omega) rfl (by walk_at "tails")
        | false =>
          refine d_ite (fun z => absurd z (by decide)) (fun _ => ?_)
          exact d_noItem1 rfl (by walk_at "tails")
      | 1, hx, hd =>
        obtain rfl : x0 = .str "B" := by simpa using hx.symm
        obtain rfl : d = planD pz := by simpa using hd.symm
        walk_at "go"
        refine d_lawStates (p := pz) (.mem (List.Mem.head _)) ez sz fun xs => ?_
        walk_at "go"
        refine d_can (p := pz) (.mem (by walk_at "mem")) (.mem (List.Mem.head _)) k1 k3 oz ok.d2 ok.r2 fun c hc => ?_
        obtain rfl : c = c2 := CanB.one hc hc2
        refine RD.forget ?_
        walk_at "go"
        refine RD.moreD (same_upd dq) ?_
        have e2 : kdL c1 c 2 = kdL c1 c 1 ++ if c then [.str "B"] else [] := rfl
        have e3 : (kdL c1 c 1).length ≤ 1 := by
          show (if c1 then [PyData.str "A"] else []).length ≤ 1
          split <;> simp
        cases c with
        | true =>
          refine d_ite (fun _ => ?_) (fun z => absurd z (by decide))
          walk_at "go"
          exact d_item1 (d := .str "B") (.str _) (by omega) (by rw [e2]; rfl) (by walk_at "tails")
        | false =>
          refine d_ite (fun z => absurd z (by decide)) (fun _ => ?_)
          exact d_noItem1 (by rw [e2, if_neg (by decide), List.append_nil]) (by walk_at "tails")
      | i + 2, hx, hd => simp at hx
    rintro v es rfl
    walk_at "go"
    refine d_tupleL (.mem (List.Mem.head _)) fun uc => ?_
    refine RD.weak (l' := (uc, .tuple (kdL c1 c2 2)) :: (un, .tuple (kdL (hasP p1 cs) (hasP pz cs) 2)) :: l') (by walk_at "sub") ?_
    walk_at "go"
    refine RD.bring4 ?_
    refine d_kGMK ?_
    walk_at "go"
    refine d_isNow ok.l1 ok.l2 fun u3 => ?_
    rw [show holdB (kdO k p1 pz cs).m1 (kdO k p1 pz cs).s1 = hasP p1 cs from hold_twin k p1 cs, show holdB (kdO k p1 pz cs).m2 (kdO k p1 pz cs).s2 = hasP pz cs from hold_twin k pz cs]
    walk_at "go"
    refine d_ne (d := .tuple (kdL (hasP p1 cs) (hasP pz cs) 2)) (e := .tuple (kdL (hasP p1 cs) (hasP pz cs) 2)) (.mem (List.Mem.head _)) (.mem (by walk_at "mem")) (kdL_dp _ _) ?_
    rw [kdL_eqv]
    refine RD.forget ?_
    walk_at "go"
    refine d_kGMK ?_
    walk_at "go"
    refine d_canBecome ok fun u4 d1 d2 hd1 hd2 => ?_
    obtain rfl : d1 = c1 := CanB.one (can_twin hd1) hc1
    obtain rfl : d2 = c2 := CanB.one (can_twin hd2) hc2
    walk_at "go"
    refine d_ne (d := .tuple (kdL d1 d2 2)) (e := .tuple (kdL d1 d2 2)) (.mem (List.Mem.head _)) (.mem (by walk_at "mem")) (kdL_dp _ _) ?_
    rw [kdL_eqv]
    refine RD.forget ?_
    walk_at "go"
    refine d_kGMK ?_
    walk_at "go"
    refine d_settledK ok fun f1 f2 hf1 hf2 => ?_
    obtain rfl : f1 = d1 := CanB.one (can_twin hf1) hc1
    obtain rfl : f2 = d2 := CanB.one (can_twin hf2) hc2
    walk_at "go"
    refine d_reprF (d := .bool (decide (((kdL f1 f2 2).length : Int) ≤ 1))) (.bl _) (Fine.bool _) (by decide) (by decide) ?_
    walk_at "go"
    refine d_lenT (ds := kdL f1 f2 2) (.mem (List.Mem.head _)) ?_
    walk_at "go"
    refine d_reprF (d := .bool (decide (((kdL f1 f2 2).length : Int) ≤ 1))) (.bl _) (Fine.bool _) (by decide) (by decide) ?_
    walk_at "go"
    refine d_iteN (by simp) ?_
    walk_at "go"
    refine RD.put4 ?_
    refine (?_ : RD K D0 (RS K q x1 x2 x m1 m2 (kdO k p1 pz cs)) _ _)
    refine d_draw (by decide) (by decide) fun j j0 j1 => ?_
    obtain ⟨z, m, F', hz, om, em, opn, cls⟩ := chosen (K := K) (q := q) (x1 := x1) (x2 := x2) (x := x) (y := y) (kd := kdO k p1 pz cs) (k := k) j0 j1 hy2 om1 om2 em1 em2
    refine opn ?_
    refine d_ixTK (v := .ref z) ht hz ?_
    walk_at "go"
    refine d_mv om em fun m' om' em' => ?_
    refine cls m' om' em' fun m3 m4 om3 om4 em3 em4 => ?_
    walk_at "go"
    refine d_draw (by omega) (by omega) fun b b0 b1 => ?_
    refine d_abc b0 b1 k3 fun hb => ?_
    walk_at "go"
    refine RD.bring4 ?_
    refine d_kGMK ?_
    walk_at "go"
    have le1 : (kdO k p1 pz cs).m1.es.length ≤ 40 := Nat.le_trans ok.o1.len (by decide)
    have le2 : (kdO k p1 pz cs).m2.es.length ≤ 40 := Nat.le_trans ok.o2.len (by decide)
    refine d_readK hb le1 le2 ?_
    refine RD.put4 ?_
    walk_at "go"
    refine d_iteN (by simp) ?_
    walk_at "go"
    have h8 : i < n + 1 := hi
    refine d_cat (a := cs) (b := [97 + b.toNat]) (by show cs.length + 1 ≤ _; omega) ?_
    walk_at "go"
    dsimp only
    refine d_end (l' := l') ⟨cs ++ [97 + b.toNat], m3, m4, _, _, _, _, ?_, rfl, om3, om4, em3, em4, by rw [List.length_append, List.length_singleton]; omega, rfl⟩ (by walk_at "tails")
    have e5 : kdO k p1 pz (cs ++ [97 + b.toNat]) = { kdO k p1 pz cs with s1 := stepI (kdO k p1 pz cs).m1.es (kdO k p1 pz cs).s1 (97 + b.toNat), s2 := stepI (kdO k p1 pz cs).m2.es (kdO k p1 pz cs).s2 (97 + b.toNat) } := by
      show Kd.mk _ _ _ _ = Kd.mk _ _ _ _
      rw [walk_snoc, walk_snoc]
      congr 1
      · exact (stepE _ _ _).symm
      · exact (stepE _ _ _).symm
    rw [e5]
    rfl
  · rintro R' σ' l' ⟨cs, m1, m2, w8, w9, w12, w13, rfl, rfl, om1, om2, em1, em2, hl, rfl⟩
    refine RD.rot (RD.drop (RD.rot (RD.drop (RD.rot (RD.drop ?_)))))
    exact kk _ _ _ _ _ _
theorem setEmpty {r a4 : Addr} {k : Nat} {p : Plan} {j : Int} {Qs : Hp → Prop} (j0 : 0 ≤ j) (j1 : j < 2) (po : PlanOk k 4 7 p) (kk : ∀ p', PlanOk k 4 7 p' → RD K D0 (star (planR K r p') R) l Qs) :
    RD K D0 (star (planR K r p) (star (own K a4 []) R)) l (fun H => rSetL (.ref r) (.int (1 + j)) (.ref a4) H Qs) := by
  refine openPlan fun a1 a2 a3 => ?_
  have h2 : j = 0 ∨ j = 1 := by omega
  rcases h2 with rfl | rfl
  · refine d_setX (j := 1) (xs := planX p a1 a2 a3) (List.Mem.head _) rfl ?_
    rw [show putO [(r, HO.lst (planX p a1 a2 a3))] r (.lst ((planX p a1 a2 a3).set 1 (.ref a4))) = [(r, .lst (planX ⟨p.n, [], p.en, p.es⟩ a4 a2 a3))] by simp [putO, planX]]
    refine RD.bring4 (RD.drop ?_)
    refine closePlan (p := ⟨p.n, [], p.en, p.es⟩) (kk _ ⟨po.n1, po.ns, List.nodup_nil, fun i h => absurd h List.not_mem_nil, po.nnd, po.en, po.nd, po.len, po.ed⟩)
  · refine d_setX (j := 2) (xs := planX p a1 a2 a3) (List.Mem.head _) rfl ?_
    rw [show putO [(r, HO.lst (planX p a1 a2 a3))] r (.lst ((planX p a1 a2 a3).set 2 (.ref a4))) = [(r, .lst (planX ⟨p.n, p.st, [], p.es⟩ a1 a4 a3))] by simp [putO, planX]]
    refine RD.bring3 (RD.drop ?_)
    refine RD.bring4 (RD.put3 ?_)
    refine closePlan (p := ⟨p.n, p.st, [], p.es⟩) (kk _ ⟨po.n1, po.ns, po.snd, po.st, List.nodup_nil, fun i h => absurd h List.not_mem_nil, po.nd, po.len, po.ed⟩)
theorem rest_ok {q P r1 r2 : Addr} {k : Nat} {p1 p2 : Plan} (k1 : 1 ≤ k) (k3 : k ≤ 3) (o1 : PlanOk k 4 7 p1) (o2 : PlanOk k 4 7 p2) {w0 w2 w5 w6 w7 w8 w9 w12 w13 : Option V}
    (kk : ∀ w5 w6 w7 w8 w9 w12 w13, RD K D0 (star (pen K q) emp) [] (fun H => D.nx [w0, some (.ref q), w2, some (.int k), some (.ref P), w5, w6, w7, w8, w9, none, none, w12, w13] H)) :
    RD K D0 (star (objs [(P, .lst [.ref r1, .ref r2])]) (star (planR K r2 p2) (star (pen K q) (star (planR K r1 p1) emp)))) l (fun H => t_rest K W D [w0, some (.ref q), w2, some (.int k), some (.ref P), w5, w6, w7, w8, w9, none, none, w12, w13] H) := by
  unfold t_rest
  refine RD.rot (freezePlan ?_)
  refine RD.bring3 (freezePlan ?_)
  walk_at "go"
  refine d_ixX (i := 0) (v := .ref r1) (List.Mem.head _) rfl ?_
  walk_at "go"
  refine d_machineOf (p := p1) (.mem (List.Mem.head _)) k1 k3 o1 (by decide) (by decide) fun x1 => ?_
  refine RD.rot ?_
  walk_at "go"
  refine d_ixX (i := 1) (v := .ref r2) (List.Mem.head _) rfl ?_
  walk_at "go"
  refine d_machineOf (p := p2) (.mem (List.Mem.tail _ (List.Mem.head _))) k1 k3 o2 (by decide) (by decide) fun x2 => ?_
  walk_at "go"
  refine d_newTV (show 2 ≤ sizeLine by decide) fun t dt => ?_
  refine RD.bring4 ?_
  walk_at "go"
  refine d_draw (by decide) (by decide) fun o o0 o1' => ?_
  refine RD.bring3 ?_
  walk_at "go"
  refine d_iteP (fun ho => ?_) (fun ho => ?_)
  · walk_at "go"
    refine d_ixX (i := 0) (v := .ref r1) (List.Mem.head _) rfl ?_
    walk_at "go"
    refine d_ixTK (v := .ref x1) upd_same rfl ?_
    walk_at "go"
    refine d_ixTK (v := .ref x1) upd_same rfl ?_
    walk_at "go"
    refine d_newTV (show 2 ≤ sizeLine by decide) fun t2 dt2 => ?_
    walk_at "go"
    refine d_newTV (show 2 ≤ sizeLine by decide) fun t3 dt3 => ?_
    walk_at "go"
    refine d_gTup2D upd_same ?_
    refine RD.moreD (same_upd dt3) ?_
    walk_at "go"
    refine d_gSub ?_
    walk_at "go"
    refine d_setX (i := 1) (j := 1) (List.Mem.head _) rfl ?_
    rw [show putO [(P, HO.lst [.ref r1, .ref r2])] P (.lst ([V.ref r1, .ref r2].set 1 (.ref r1))) = [(P, .lst [.ref r1, .ref r1])] by simp [putO]]
    refine RD.freezeX (ds := [planD p1, planD p1]) (.cons (.mem (List.Mem.head _)) (.cons (.mem (List.Mem.head _)) .nil)) ?_
    walk_at "g1"
    walk_at "g1"
    walk_at "g1"
    refine RD.weak (l' := [(.ref P, .list [planD p1, planD p1])]) (by walk_at "sub") ?_
    refine RD.bring3 (RD.rot ?_)
    · refine rest2_ok (y := x1) (pz := p1) k1 k3 o1 o2 (.mem (List.Mem.head _)) upd_same (.inr ⟨rfl, rfl⟩) fun _ _ _ _ _ _ => ?_
      refine RD.moreD (same_upd dt2) (RD.moreD (same_upd dt) ?_)
      exact RD.weak sub_nil (kk _ _ _ _ _ _ _)
  · refine RD.freezeX (ds := [planD p1, planD p2]) (.cons (.mem (List.Mem.head _)) (.cons (.mem (List.Mem.tail _ (List.Mem.head _))) .nil)) ?_
    refine d_next ?_
    refine RD.weak (l' := [(.ref P, .list [planD p1, planD p2])]) (by walk_at "sub") ?_
    refine RD.bring3 (RD.rot ?_)
    refine rest2_ok (y := x2) (pz := p2) k1 k3 o1 o2 (.mem (List.Mem.head _)) upd_same (.inl ⟨rfl, rfl⟩) fun _ _ _ _ _ _ => ?_
    refine RD.moreD (same_upd dt) ?_
    exact RD.weak sub_nil (kk _ _ _ _ _ _ _)
theorem pure_law (h : spLaw K vs H Q E) : t_law K W { nx := fun _ H' => Q .non H', rt := Q } (start ["script", "pen", "turn", "k", "plans", "pair", "tool", "log", "step", "now", "kind", "plan", "can", "sign"] vs) H := by
  obtain ⟨a, ns, rfl, hS, hl, kk⟩ := h
  refine law_start (Q := Q) (a := a) (i := 1) rfl hS hl fun q => ?_
  walk_at "go"
  refine d_rng1 (j := 2) (by decide) (by decide) ?_
  refine d_forRange (fun _ R' σ' l' => R' = star (pen K q) emp ∧ l' = [] ∧ ∃ v2 v3 v4 v5 v6 v7 v8 v9 v12 v13 : Option V, σ' = [some (.ref a), some (.ref q), v2, v3, v4, v5, v6, v7, v8, v9, none, none, v12, v13]) ?_ ?_ ?_
  · exact ⟨rfl, rfl, none, none, none, none, none, none, none, none, none, none, rfl⟩
  · rintro i R' σ' l' hi ⟨rfl, rfl, v2, v3, v4, v5, v6, v7, v8, v9, v12, v13, rfl⟩
    walk_at "go"
    refine d_draw (by decide) (by decide) fun k0 k00 k01 => ?_
    obtain ⟨k, rfl⟩ := Int.eq_ofNat_of_zero_le k00
    walk_at "go"
    rw [show (1 : Int) + (k : Nat) = ((k + 1 : Nat) : Int) by omega]
    have k1 : 1 ≤ k + 1 := by omega
    have k3 : k + 1 ≤ 3 := by omega
    generalize k + 1 = k at k1 k3
    refine d_plan (k := k) (s := 4) (e := 7) k1 k3 (by decide) (by decide) (by decide) fun r1 p1 o1 => ?_
    refine RD.rot ?_
    walk_at "go"
    refine d_plan (k := k) (s := 4) (e := 7) k1 k3 (by decide) (by decide) (by decide) fun r2 p2 o2 => ?_
    walk_at "go"
    refine d_newX (show 2 ≤ sizeLine by decide) fun P => ?_
    walk_at "go"
    refine RD.bring3 ?_
    refine d_draw (by decide) (by decide) fun o o0 o1' => ?_
    refine RD.put3 ?_
    have fin : ∀ {D1 : Hp} {x2 x4 x5 x6 x7 x8 x9 x12 x13 : Option V}, RD K D1 (star (pen K q) emp) [] (fun H => Cont K D1 (fun R' σ' l' => R' = star (pen K q) emp ∧ l' = [] ∧ ∃ v2 v3 v4 v5 v6 v7 v8 v9 v12 v13 : Option V, σ' = [some (.ref a), some (.ref q), v2, v3, v4, v5, v6, v7, v8, v9, none, none, v12, v13]) [some (.ref a), some (.ref q), x2, some (.int (k : Nat)), x4, x5, x6, x7, x8, x9, none, none, x12, x13] H) := fun {_ _ _ _ _ _ _ _ _ _} =>
      d_end (l' := []) ⟨rfl, rfl, _, _, _, _, _, _, _, _, _, _, rfl⟩ sub_nil
    walk_at "go"
    refine d_iteP (fun h0 => ?_) (fun h0 => ?_)
    · walk_at "go"
      refine d_newO (ds := []) (Nat.zero_le _) .nil fun a4 => ?_
      refine d_gSub ?_
      walk_at "go"
      refine RD.bring4 ?_
      refine d_draw (by decide) (by decide) fun ii ii0 ii1 => ?_
      refine RD.put4 ?_
      refine RD.rot ?_
      have h2 : ii = 0 ∨ ii = 1 := by omega
      rcases h2 with rfl | rfl
      · refine d_ixX (i := 0) (v := .ref r1) (List.Mem.head _) rfl ?_
        walk_at "go"
        refine RD.bring4 ?_
        refine d_draw (by decide) (by decide) fun j j0 j1 => ?_
        refine RD.put4 ?_
        walk_at "go"
        refine RD.rot (RD.bring5 ?_)
        refine setEmpty j0 j1 o1 fun p' o' => ?_
        refine RD.put4 ?_
        refine rest_ok k1 k3 o' o2 fun _ _ _ _ _ _ _ => ?_
        exact fin
      · refine d_ixX (i := 1) (v := .ref r2) (List.Mem.head _) rfl ?_
        walk_at "go"
        refine RD.bring4 ?_
        refine d_draw (by decide) (by decide) fun j j0 j1 => ?_
        refine RD.put4 ?_
        walk_at "go"
        refine RD.rot (RD.bring3 ?_)
        refine setEmpty j0 j1 o2 fun p' o' => ?_
        refine RD.rot ?_
        refine rest_ok k1 k3 o1 o' fun _ _ _ _ _ _ _ => ?_
        exact fin
    · refine d_next ?_
      refine rest_ok k1 k3 o1 o2 fun _ _ _ _ _ _ _ => ?_
      exact fin
  · rintro R' σ' l' ⟨rfl, rfl, v2, v3, v4, v5, v6, v7, v8, v9, v12, v13, rfl⟩
    walk_at "go"
    exact fun N H A => kk H
end
end L65

/-! D65: each def of the text keeps its promise; the head. -/
namespace D65
open PySem PySem.Spec L2 GL
open PyProof.Rows hiding St
open L65
def top (i : Nat) : Stmt := PySem.Challenge.pw_gaprules_k65_kinds_followed.main.body.getD i (.Pass ⟨0, 0, 0, 0⟩)
abbrev s__law_pen : Stmt := (top 28)
abbrev N__law_pen : List Str := ["script"]
theorem sc__law_pen : FnScope N__law_pen ["script"] (defScope s__law_pen) := ⟨rfl, rfl, rfl, by decide +kernel, rfl, by decide +kernel, by decide +kernel⟩
abbrev s_Machine_edges : Stmt := (inClass (top 20) 7)
abbrev N_Machine_edges : List Str := ["self"]
theorem sc_Machine_edges : FnScope N_Machine_edges ["self"] (defScope s_Machine_edges) := ⟨rfl, rfl, rfl, by decide +kernel, rfl, by decide +kernel, by decide +kernel⟩
abbrev s_Machine_remove_edge : Stmt := (inClass (top 20) 2)
abbrev N_Machine_remove_edge : List Str := ["self", "origin", "sign", "target", "edge"]
theorem sc_Machine_remove_edge : FnScope N_Machine_remove_edge ["self", "origin", "sign", "target"] (defScope s_Machine_remove_edge) := ⟨rfl, rfl, rfl, by decide +kernel, rfl, by decide +kernel, by decide +kernel⟩
abbrev s__law_fresh : Stmt := (top 29)
abbrev N__law_fresh : List Str := ["pen", "at", "cell", "p", "state", "found", "turn"]
theorem sc__law_fresh : FnScope N__law_fresh ["pen"] (defScope s__law_fresh) := ⟨rfl, rfl, rfl, by decide +kernel, rfl, by decide +kernel, by decide +kernel⟩
abbrev s__law_draw : Stmt := (top 30)
abbrev N__law_draw : List Str := ["pen", "many", "digit"]
theorem sc__law_draw : FnScope N__law_draw ["pen", "many"] (defScope s__law_draw) := ⟨rfl, rfl, rfl, by decide +kernel, rfl, by decide +kernel, by decide +kernel⟩
abbrev s_is_between : Stmt := (top 14)
abbrev N_is_between : List Str := ["value", "low", "high"]
theorem sc_is_between : FnScope N_is_between ["value", "low", "high"] (defScope s_is_between) := ⟨rfl, rfl, rfl, by decide +kernel, rfl, by decide +kernel, by decide +kernel⟩
abbrev s_Machine__require_state : Stmt := (inClass (top 20) 19)
abbrev N_Machine__require_state : List Str := ["self", "state"]
theorem sc_Machine__require_state : FnScope N_Machine__require_state ["self", "state"] (defScope s_Machine__require_state) := ⟨rfl, rfl, rfl, by decide +kernel, rfl, by decide +kernel, by decide +kernel⟩
abbrev s_put_in : Stmt := (top 21)
abbrev N_put_in : List Str := ["states", "state", "missing"]
theorem sc_put_in : FnScope N_put_in ["states", "state"] (defScope s_put_in) := ⟨rfl, rfl, rfl, by decide +kernel, rfl, by decide +kernel, by decide +kernel⟩
abbrev s_Machine_add_end : Stmt := (inClass (top 20) 4)
abbrev N_Machine_add_end : List Str := ["self", "state"]
theorem sc_Machine_add_end : FnScope N_Machine_add_end ["self", "state"] (defScope s_Machine_add_end) := ⟨rfl, rfl, rfl, by decide +kernel, rfl, by decide +kernel, by decide +kernel⟩
abbrev s_is_log : Stmt := (top 10)
abbrev N_is_log : List Str := ["value", "signs", "letter"]
theorem sc_is_log : FnScope N_is_log ["value", "signs"] (defScope s_is_log) := ⟨rfl, rfl, rfl, by decide +kernel, rfl, by decide +kernel, by decide +kernel⟩
abbrev s_is_sign : Stmt := (top 12)
abbrev N_is_sign : List Str := ["value", "signs"]
theorem sc_is_sign : FnScope N_is_sign ["value", "signs"] (defScope s_is_sign) := ⟨rfl, rfl, rfl, by decide +kernel, rfl, by decide +kernel, by decide +kernel⟩
abbrev s_require_sign : Stmt := (top 11)
abbrev N_require_sign : List Str := ["value", "signs"]
theorem sc_require_sign : FnScope N_require_sign ["value", "signs"] (defScope s_require_sign) := ⟨rfl, rfl, rfl, by decide +kernel, rfl, by decide +kernel, by decide +kernel⟩
abbrev s_Machine_add_edge : Stmt := (inClass (top 20) 1)
abbrev N_Machine_add_edge : List Str := ["self", "origin", "sign", "target", "edge"]
theorem sc_Machine_add_edge : FnScope N_Machine_add_edge ["self", "origin", "sign", "target"] (defScope s_Machine_add_edge) := ⟨rfl, rfl, rfl, by decide +kernel, rfl, by decide +kernel, by decide +kernel⟩
abbrev s_take_out : Stmt := (top 22)
abbrev N_take_out : List Str := ["states", "state", "there"]
theorem sc_take_out : FnScope N_take_out ["states", "state"] (defScope s_take_out) := ⟨rfl, rfl, rfl, by decide +kernel, rfl, by decide +kernel, by decide +kernel⟩
abbrev s_Machine_remove_end : Stmt := (inClass (top 20) 6)
abbrev N_Machine_remove_end : List Str := ["self", "state"]
theorem sc_Machine_remove_end : FnScope N_Machine_remove_end ["self", "state"] (defScope s_Machine_remove_end) := ⟨rfl, rfl, rfl, by decide +kernel, rfl, by decide +kernel, by decide +kernel⟩
abbrev s_Machine_add_start : Stmt := (inClass (top 20) 3)
abbrev N_Machine_add_start : List Str := ["self", "state"]
theorem sc_Machine_add_start : FnScope N_Machine_add_start ["self", "state"] (defScope s_Machine_add_start) := ⟨rfl, rfl, rfl, by decide +kernel, rfl, by decide +kernel, by decide +kernel⟩
abbrev s_Machine_remove_start : Stmt := (inClass (top 20) 5)
abbrev N_Machine_remove_start : List Str := ["self", "state"]
theorem sc_Machine_remove_start : FnScope N_Machine_remove_start ["self", "state"] (defScope s_Machine_remove_start) := ⟨rfl, rfl, rfl, by decide +kernel, rfl, by decide +kernel, by decide +kernel⟩
abbrev s__law_moved : Stmt := (top 37)
abbrev N__law_moved : List Str := ["pen", "machine", "k", "rows", "n", "gone", "edge", "state", "option"]
theorem sc__law_moved : FnScope N__law_moved ["pen", "machine", "k"] (defScope s__law_moved) := ⟨rfl, rfl, rfl, by decide +kernel, rfl, by decide +kernel, by decide +kernel⟩
abbrev s__law_plan : Stmt := (top 31)
abbrev N__law_plan : List Str := ["pen", "signs", "states", "edges", "many", "starts", "state", "ends", "found", "step", "edge"]
theorem sc__law_plan : FnScope N__law_plan ["pen", "signs", "states", "edges"] (defScope s__law_plan) := ⟨rfl, rfl, rfl, by decide +kernel, rfl, by decide +kernel, by decide +kernel⟩
abbrev s_Machine___init__ : Stmt := (inClass (top 20) 0)
abbrev N_Machine___init__ : List Str := ["self", "signs", "states"]
theorem sc_Machine___init__ : FnScope N_Machine___init__ ["self", "signs", "states"] (defScope s_Machine___init__) := ⟨rfl, rfl, rfl, by decide +kernel, rfl, by decide +kernel, by decide +kernel⟩
abbrev s__law_machine_of : Stmt := (top 32)
abbrev N__law_machine_of : List Str := ["signs", "plan", "found", "state", "origin", "sign", "target"]
theorem sc__law_machine_of : FnScope N__law_machine_of ["signs", "plan"] (defScope s__law_machine_of) := ⟨rfl, rfl, rfl, by decide +kernel, rfl, by decide +kernel, by decide +kernel⟩
abbrev s_require_pair : Stmt := (top 23)
abbrev N_require_pair : List Str := ["pair", "one", "two"]
theorem sc_require_pair : FnScope N_require_pair ["pair"] (defScope s_require_pair) := ⟨rfl, rfl, rfl, by decide +kernel, rfl, by decide +kernel, by decide +kernel⟩
abbrev s_Machine_starts : Stmt := (inClass (top 20) 8)
abbrev N_Machine_starts : List Str := ["self"]
theorem sc_Machine_starts : FnScope N_Machine_starts ["self"] (defScope s_Machine_starts) := ⟨rfl, rfl, rfl, by decide +kernel, rfl, by decide +kernel, by decide +kernel⟩
abbrev s_Machine_ends : Stmt := (inClass (top 20) 9)
abbrev N_Machine_ends : List Str := ["self"]
theorem sc_Machine_ends : FnScope N_Machine_ends ["self"] (defScope s_Machine_ends) := ⟨rfl, rfl, rfl, by decide +kernel, rfl, by decide +kernel, by decide +kernel⟩
abbrev s_Machine_twin : Stmt := (inClass (top 20) 10)
abbrev N_Machine_twin : List Str := ["self", "other", "origin", "sign", "target", "state"]
theorem sc_Machine_twin : FnScope N_Machine_twin ["self"] (defScope s_Machine_twin) := ⟨rfl, rfl, rfl, by decide +kernel, rfl, by decide +kernel, by decide +kernel⟩
abbrev s_twins_of : Stmt := (top 24)
abbrev N_twins_of : List Str := ["pair", "one", "two"]
theorem sc_twins_of : FnScope N_twins_of ["pair"] (defScope s_twins_of) := ⟨rfl, rfl, rfl, by decide +kernel, rfl, by decide +kernel, by decide +kernel⟩
abbrev s_KindFollower___init__ : Stmt := (inClass (top 26) 0)
abbrev N_KindFollower___init__ : List Str := ["self", "pair", "machine"]
theorem sc_KindFollower___init__ : FnScope N_KindFollower___init__ ["self", "pair"] (defScope s_KindFollower___init__) := ⟨rfl, rfl, rfl, by decide +kernel, rfl, by decide +kernel, by decide +kernel⟩
abbrev s_Machine__behind : Stmt := (inClass (top 20) 18)
abbrev N_Machine__behind : List Str := ["self", "states", "sign", "origin", "letter", "target"]
theorem sc_Machine__behind : FnScope N_Machine__behind ["self", "states", "sign"] (defScope s_Machine__behind) := ⟨rfl, rfl, rfl, by decide +kernel, rfl, by decide +kernel, by decide +kernel⟩
abbrev s_Machine_states_behind : Stmt := (inClass (top 20) 12)
abbrev N_Machine_states_behind : List Str := ["self", "states", "log", "sign"]
theorem sc_Machine_states_behind : FnScope N_Machine_states_behind ["self", "states", "log"] (defScope s_Machine_states_behind) := ⟨rfl, rfl, rfl, by decide +kernel, rfl, by decide +kernel, by decide +kernel⟩
abbrev s_KindFollower_read : Stmt := (inClass (top 26) 1)
abbrev N_KindFollower_read : List Str := ["self", "sign", "machine", "states"]
theorem sc_KindFollower_read : FnScope N_KindFollower_read ["self", "sign"] (defScope s_KindFollower_read) := ⟨rfl, rfl, rfl, by decide +kernel, rfl, by decide +kernel, by decide +kernel⟩
abbrev s_Machine_holds_end : Stmt := (inClass (top 20) 14)
abbrev N_Machine_holds_end : List Str := ["self", "states", "state"]
theorem sc_Machine_holds_end : FnScope N_Machine_holds_end ["self", "states"] (defScope s_Machine_holds_end) := ⟨rfl, rfl, rfl, by decide +kernel, rfl, by decide +kernel, by decide +kernel⟩
abbrev s_KindFollower_is_now : Stmt := (inClass (top 26) 2)
abbrev N_KindFollower_is_now : List Str := ["self", "kind", "machine", "states"]
theorem sc_KindFollower_is_now : FnScope N_KindFollower_is_now ["self"] (defScope s_KindFollower_is_now) := ⟨rfl, rfl, rfl, by decide +kernel, rfl, by decide +kernel, by decide +kernel⟩
abbrev s_Machine_states_beyond : Stmt := (inClass (top 20) 13)
abbrev N_Machine_states_beyond : List Str := ["self", "states", "found", "at", "origin", "_", "target"]
theorem sc_Machine_states_beyond : FnScope N_Machine_states_beyond ["self", "states"] (defScope s_Machine_states_beyond) := ⟨rfl, rfl, rfl, by decide +kernel, rfl, by decide +kernel, by decide +kernel⟩
abbrev s_KindFollower_can_become : Stmt := (inClass (top 26) 3)
abbrev N_KindFollower_can_become : List Str := ["self", "kind", "machine", "states"]
theorem sc_KindFollower_can_become : FnScope N_KindFollower_can_become ["self"] (defScope s_KindFollower_can_become) := ⟨rfl, rfl, rfl, by decide +kernel, rfl, by decide +kernel, by decide +kernel⟩
abbrev s__law_stepped : Stmt := (top 33)
abbrev N__law_stepped : List Str := ["plan", "states", "sign", "origin", "letter", "target"]
theorem sc__law_stepped : FnScope N__law_stepped ["plan", "states", "sign"] (defScope s__law_stepped) := ⟨rfl, rfl, rfl, by decide +kernel, rfl, by decide +kernel, by decide +kernel⟩
abbrev s__law_states : Stmt := (top 34)
abbrev N__law_states : List Str := ["plan", "log", "states", "sign"]
theorem sc__law_states : FnScope N__law_states ["plan", "log"] (defScope s__law_states) := ⟨rfl, rfl, rfl, by decide +kernel, rfl, by decide +kernel, by decide +kernel⟩
abbrev s__law_has : Stmt := (top 35)
abbrev N__law_has : List Str := ["plan", "log", "state"]
theorem sc__law_has : FnScope N__law_has ["plan", "log"] (defScope s__law_has) := ⟨rfl, rfl, rfl, by decide +kernel, rfl, by decide +kernel, by decide +kernel⟩
abbrev s__law_can : Stmt := (top 36)
abbrev N__law_can : List Str := ["plan", "states", "k", "found", "step", "sign", "state"]
theorem sc__law_can : FnScope N__law_can ["plan", "states", "k"] (defScope s__law_can) := ⟨rfl, rfl, rfl, by decide +kernel, rfl, by decide +kernel, by decide +kernel⟩
abbrev s_KindFollower_is_settled : Stmt := (inClass (top 26) 4)
abbrev N_KindFollower_is_settled : List Str := ["self"]
theorem sc_KindFollower_is_settled : FnScope N_KindFollower_is_settled ["self"] (defScope s_KindFollower_is_settled) := ⟨rfl, rfl, rfl, by decide +kernel, rfl, by decide +kernel, by decide +kernel⟩
abbrev s_law : Stmt := (top 38)
abbrev N_law : List Str := ["script", "pen", "turn", "k", "plans", "pair", "tool", "log", "step", "now", "kind", "plan", "can", "sign"]
theorem sc_law : FnScope N_law ["script"] (defScope s_law) := ⟨rfl, rfl, rfl, by decide +kernel, rfl, by decide +kernel, by decide +kernel⟩
abbrev s_EdgeExists___init__ : Stmt := (inClass (top 6) 0)
theorem sc_EdgeExists___init__ : FnScope ["self", "edge"] ["self", "edge"] (defScope s_EdgeExists___init__) := ⟨rfl, rfl, rfl, by decide +kernel, rfl, by decide +kernel, by decide +kernel⟩
abbrev s_LimitExceeded___init__ : Stmt := (inClass (top 7) 0)
theorem sc_LimitExceeded___init__ : FnScope ["self", "limit"] ["self", "limit"] (defScope s_LimitExceeded___init__) := ⟨rfl, rfl, rfl, by decide +kernel, rfl, by decide +kernel, by decide +kernel⟩
abbrev s_NotALog___init__ : Stmt := (inClass (top 2) 0)
theorem sc_NotALog___init__ : FnScope ["self", "value"] ["self", "value"] (defScope s_NotALog___init__) := ⟨rfl, rfl, rfl, by decide +kernel, rfl, by decide +kernel, by decide +kernel⟩
abbrev s_UnknownEdge___init__ : Stmt := (inClass (top 5) 0)
theorem sc_UnknownEdge___init__ : FnScope ["self", "edge"] ["self", "edge"] (defScope s_UnknownEdge___init__) := ⟨rfl, rfl, rfl, by decide +kernel, rfl, by decide +kernel, by decide +kernel⟩
abbrev s_UnknownState___init__ : Stmt := (inClass (top 4) 0)
theorem sc_UnknownState___init__ : FnScope ["self", "state"] ["self", "state"] (defScope s_UnknownState___init__) := ⟨rfl, rfl, rfl, by decide +kernel, rfl, by decide +kernel, by decide +kernel⟩
section
variable {P : Program} {w : World} {K : PySem.W.Frag} {mg : Str → Option Value} {base : Heap}
theorem oki_EdgeExists {fd : FuncData} (F : FunD K "__init__" "EdgeExists.__init__" (defArgs s_EdgeExists___init__) (defBody s_EdgeExists___init__) (defScope s_EdgeExists___init__) [] [] (He.ma K (He.ga K "EdgeExists") "__init__") fd) (T : ExB "RuntimeError" "RuntimeError.__new__" bmRE K (He.ga K "EdgeExists") (He.ma K (He.ga K "EdgeExists") "__init__") "edge") : FnOk P w K mg base CX0 1 (He.ma K (He.ga K "EdgeExists") "__init__") fd ["self", "edge"] (spInit (He.ga K "EdgeExists") "edge") :=
  F.ok sc_EdgeExists___init__ (fun vs H Q E h => len_init h) (fun cdv A outer s H vs Q E hr h => ⟨tOstB K (He.ga K "EdgeExists") "edge" (tVar 0) (tVar 1), PSs.nox (pss_one (ps_ostB PySem.F.store_RuntimeError T (pv 0) (pv 1))), pure_initB h⟩)
theorem oki_LimitExceeded {fd : FuncData} (F : FunD K "__init__" "LimitExceeded.__init__" (defArgs s_LimitExceeded___init__) (defBody s_LimitExceeded___init__) (defScope s_LimitExceeded___init__) [] [] (He.ma K (He.ga K "LimitExceeded") "__init__") fd) (T : ExB "OverflowError" "OverflowError.__new__" bmOE K (He.ga K "LimitExceeded") (He.ma K (He.ga K "LimitExceeded") "__init__") "limit") : FnOk P w K mg base CX0 1 (He.ma K (He.ga K "LimitExceeded") "__init__") fd ["self", "limit"] (spInit (He.ga K "LimitExceeded") "limit") :=
  F.ok sc_LimitExceeded___init__ (fun vs H Q E h => len_init h) (fun cdv A outer s H vs Q E hr h => ⟨tOstB K (He.ga K "LimitExceeded") "limit" (tVar 0) (tVar 1), PSs.nox (pss_one (ps_ostB PySem.F.store_OverflowError T (pv 0) (pv 1))), pure_initB h⟩)
theorem oki_NotALog {fd : FuncData} (F : FunD K "__init__" "NotALog.__init__" (defArgs s_NotALog___init__) (defBody s_NotALog___init__) (defScope s_NotALog___init__) [] [] (He.ma K (He.ga K "NotALog") "__init__") fd) (T : ExB "ValueError" "ValueError.__new__" [.type "ValueError", .type "Exception", .type "BaseException", .type "object"] K (He.ga K "NotALog") (He.ma K (He.ga K "NotALog") "__init__") "value") : FnOk P w K mg base CX0 1 (He.ma K (He.ga K "NotALog") "__init__") fd ["self", "value"] (spInit (He.ga K "NotALog") "value") :=
  F.ok sc_NotALog___init__ (fun vs H Q E h => len_init h) (fun cdv A outer s H vs Q E hr h => ⟨tOstB K (He.ga K "NotALog") "value" (tVar 0) (tVar 1), PSs.nox (pss_one (ps_ostB PySem.F.store_ValueError T (pv 0) (pv 1))), pure_initB h⟩)
theorem oki_UnknownEdge {fd : FuncData} (F : FunD K "__init__" "UnknownEdge.__init__" (defArgs s_UnknownEdge___init__) (defBody s_UnknownEdge___init__) (defScope s_UnknownEdge___init__) [] [] (He.ma K (He.ga K "UnknownEdge") "__init__") fd) (T : ExB "LookupError" "LookupError.__new__" bmLE K (He.ga K "UnknownEdge") (He.ma K (He.ga K "UnknownEdge") "__init__") "edge") : FnOk P w K mg base CX0 1 (He.ma K (He.ga K "UnknownEdge") "__init__") fd ["self", "edge"] (spInit (He.ga K "UnknownEdge") "edge") :=
  F.ok sc_UnknownEdge___init__ (fun vs H Q E h => len_init h) (fun cdv A outer s H vs Q E hr h => ⟨tOstB K (He.ga K "UnknownEdge") "edge" (tVar 0) (tVar 1), PSs.nox (pss_one (ps_ostB PySem.F.store_LookupError T (pv 0) (pv 1))), pure_initB h⟩)
theorem oki_UnknownState {fd : FuncData} (F : FunD K "__init__" "UnknownState.__init__" (defArgs s_UnknownState___init__) (defBody s_UnknownState___init__) (defScope s_UnknownState___init__) [] [] (He.ma K (He.ga K "UnknownState") "__init__") fd) (T : ExB "LookupError" "LookupError.__new__" bmLE K (He.ga K "UnknownState") (He.ma K (He.ga K "UnknownState") "__init__") "state") : FnOk P w K mg base CX0 1 (He.ma K (He.ga K "UnknownState") "__init__") fd ["self", "state"] (spInit (He.ga K "UnknownState") "state") :=
  F.ok sc_UnknownState___init__ (fun vs H Q E h => len_init h) (fun cdv A outer s H vs Q E hr h => ⟨tOstB K (He.ga K "UnknownState") "state" (tVar 0) (tVar 1), PSs.nox (pss_one (ps_ostB PySem.F.store_LookupError T (pv 0) (pv 1))), pure_initB h⟩)
theorem ok__law_pen {f : Addr} {fd : FuncData} (F : FunD K "_law_pen" "_law_pen" (defArgs s__law_pen) (defBody s__law_pen) (defScope s__law_pen) [] [] f fd)
    (b_list : mg "list" = none) : Gn P w K mg base 1 f 1 (sp__law_pen K) :=
  gn_ok F sc__law_pen (fun _ _ _ _ _ _ us hl => match us, hl with | [_], _ => rfl) (fun vs H Q E h => len__law_pen h) (fun cdv A outer s H vs Q E hg hr h => ⟨t__law_pen K (fun cls d _ H => E cls d H), (pss_one (ps_ret (pe_lst (pa_cons (pe_callTy call_glist (by rfl) b_list (by decide +kernel) (pa_cons (pe_slice sl_g (pv 0) po_none (po_some pe_int)) pa_nil)) (pa_cons pe_int (pa_cons pe_int pa_nil)))))), pure__law_pen h⟩)
theorem ok_Machine_edges {f : Addr} {fd : FuncData} (F : FunD K "edges" "Machine.edges" (defArgs s_Machine_edges) (defBody s_Machine_edges) (defScope s_Machine_edges) [] [] f fd)
    (MC : MCls K)
    (b_sorted : mg "sorted" = none)
    (b_tuple : mg "tuple" = none) : Gn P w K mg base 1 f 1 (sp_Machine_edges K) :=
  gn_ok F sc_Machine_edges (fun _ _ _ _ _ _ us hl => match us, hl with | [_], _ => rfl) (fun vs H Q E h => len_Machine_edges h) (fun cdv A outer s H vs Q E hg hr h => ⟨t_Machine_edges K (fun cls d _ H => E cls d H), (pss_one (ps_ret (pe_callTy call_gtuple (by rfl) b_tuple (by decide +kernel) (pa_cons (pe_callB (call_gsortedT rfl hr.units) (by rfl) b_sorted (by decide +kernel) (pa_cons (pe_fld (pv 0) rfl) pa_nil)) pa_nil)))), pure_Machine_edges MC h⟩)
theorem ok_Machine_remove_edge {f : Addr} {fd : FuncData} {fdi_UnknownEdge : FuncData} (F : FunD K "remove_edge" "Machine.remove_edge" (defArgs s_Machine_remove_edge) (defBody s_Machine_remove_edge) (defScope s_Machine_remove_edge) [] [] f fd)
    (MC : MCls K)
    (B_UnknownEdge : Binds K fdi_UnknownEdge ["self", "edge"] [])
    (I_UnknownEdge : FnOk P w K mg base CX0 1 (He.ma K (He.ga K "UnknownEdge") "__init__") fdi_UnknownEdge ["self", "edge"] (spInit (He.ga K "UnknownEdge") "edge"))
    (T_UnknownEdge : ExB "LookupError" "LookupError.__new__" bmLE K (He.ga K "UnknownEdge") (He.ma K (He.ga K "UnknownEdge") "__init__") "edge")
    (m_UnknownEdge : mg "UnknownEdge" = some (.ref (He.ga K "UnknownEdge"))) : Gn P w K mg base 3 f 4 (sp_Machine_remove_edge K) :=
  gn_ok F sc_Machine_remove_edge (fun _ _ _ _ _ _ us hl => match us, hl with | [_, _, _, _], _ => rfl) (fun vs H Q E h => len_Machine_remove_edge h) (fun cdv A outer s H vs Q E hg hr h => ⟨t_Machine_remove_edge K (fun cls d _ H => E cls d H), (pss_cons (ps_set (i := 4) sc_Machine_remove_edge.nd rfl (by first | exact Or.inl rfl | exact Or.inr rfl) (pe_tup (pa_cons (pv 1) (pa_cons (pv 2) (pa_cons (pv 3) pa_nil)))))
  (pss_cons (ps_if (pt_cmp (pc_dnotin (Nat.lt_trans (Nat.add_lt_add_left (show 1 < 64 by decide) _) hr.units) (pv 4) (pe_fld (pv 0) rfl))) (pss_one (g_raiseB PySem.F.excBase_LookupError T_UnknownEdge I_UnknownEdge (hr.mono (by decide)) B_UnknownEdge rfl (L2.takes_of rfl rfl rfl rfl) rfl m_UnknownEdge (pa_cons (pv 4) pa_nil))) pss_nil)
  (pss_one (ps_ddelT (Nat.lt_trans (Nat.add_lt_add_left (show 1 < 64 by decide) _) hr.units) (pe_fld (pv 0) rfl) (pv 4))))), pure_Machine_remove_edge MC h⟩)
theorem ok__law_fresh {f : Addr} {fd : FuncData} (F : FunD K "_law_fresh" "_law_fresh" (defArgs s__law_fresh) (defBody s__law_fresh) (defScope s__law_fresh) [] [] f fd)
    (b_len : mg "len" = none)
    (b_range : mg "range" = none) : Gn P w K mg base 1 f 1 (sp__law_fresh K) :=
  gn_ok F sc__law_fresh (fun _ _ _ _ _ _ us hl => match us, hl with | [_], _ => rfl) (fun vs H Q E h => len__law_fresh h) (fun cdv A outer s H vs Q E hg hr h => ⟨t__law_fresh K (fun cls d _ H => E cls d H), (pss_cons (ps_set (i := 1) sc__law_fresh.nd rfl (by first | exact Or.inl rfl | exact Or.inr rfl) (pe_ix ix_seq (pv 0) pe_int (fun _ _ => rfl)))
  (pss_cons (ps_asg (pe_op op_gadd (pv 1) pe_int) (pg_sub (pv 0) pe_int set_list))
  (pss_cons (ps_set (i := 2) sc__law_fresh.nd rfl (by first | exact Or.inl rfl | exact Or.inr rfl) pe_int)
  (pss_cons (ps_if (pt_cmpR (op_gne hr.units) (pe_ix ix_seq (pv 0) pe_int (fun _ _ => rfl)) (pe_lst pa_nil) (nomark _)) (pss_one (ps_set (i := 2) sc__law_fresh.nd rfl (by first | exact Or.inl rfl | exact Or.inr rfl) (pe_ix ix_seq (pe_ix ix_seq (pv 0) pe_int (fun _ _ => rfl)) (pe_op op_mod (pv 1) (pe_callB call_len (by rfl) b_len PySem.boot_len (pa_cons (pe_ix ix_seq (pv 0) pe_int (fun _ _ => rfl)) pa_nil))) (fun _ _ => rfl)))) pss_nil)
  (pss_cons (ps_if (PW.pt (pw_and (pt_cmpR op_lt (pv 1) (pe_callB call_len (by rfl) b_len PySem.boot_len (pa_cons (pe_ix ix_seq (pv 0) pe_int (fun _ _ => rfl)) pa_nil)) (nomark _)) (pw_and1 (pt_cmpR op_ge (pv 2) (pe_op op_pow pe_int pe_int) (nomark _))))) (pss_one (ps_ret (pe_op op_sub (pv 2) (pe_op op_pow pe_int pe_int)))) pss_nil)
  (pss_cons (ps_set (i := 3) sc__law_fresh.nd rfl (by first | exact Or.inl rfl | exact Or.inr rfl) pe_int)
  (pss_cons (ps_set (i := 4) sc__law_fresh.nd rfl (by first | exact Or.inl rfl | exact Or.inr rfl) (pe_op op_mod (pe_op op_gadd (pe_op op_gadd (pe_op op_gmul (pv 2) pe_int) (pe_op op_gmul pe_int (pv 1))) pe_int) (pv 3)))
  (pss_cons (ps_set (i := 5) sc__law_fresh.nd rfl (by first | exact Or.inl rfl | exact Or.inr rfl) (pv 4))
  (pss_cons (ps_for (L2.passes_of rfl) rfl (pi_range1 rfl b_range (pa_cons pe_int pa_nil)) (pg_name (i := 6) sc__law_fresh.nd rfl (by first | exact Or.inl rfl | exact Or.inr rfl)) (pss_cons (ps_set (i := 4) sc__law_fresh.nd rfl (by first | exact Or.inl rfl | exact Or.inr rfl) (pe_op op_mod (pe_op op_gadd (pe_op op_gadd (pe_op op_gmul (pv 4) (pv 4)) (pe_op op_gmul (pe_op op_gmul pe_int (pe_op op_gadd (pv 6) pe_int)) (pe_op op_gadd (pv 1) pe_int))) (pv 2)) (pv 3)))
  (pss_one (ps_set (i := 5) sc__law_fresh.nd rfl (by first | exact Or.inl rfl | exact Or.inr rfl) (pe_op op_gadd (pe_op op_gmul (pv 5) (pv 3)) (pv 4))))))
  (pss_one (ps_ret (pv 5)))))))))))), pure__law_fresh h⟩)
theorem ok__law_draw {f : Addr} {fd : FuncData} (F : FunD K "_law_draw" "_law_draw" (defArgs s__law_draw) (defBody s__law_draw) (defScope s__law_draw) [] [] f fd)
    (G__law_fresh : Gn P w K mg base 1 (He.ga K "_law_fresh") 1 (sp__law_fresh K))
    (k__law_fresh : PySem.W.keepIn K (.ref (He.ga K "_law_fresh")) = true)
    (m__law_fresh : mg "_law_fresh" = some (.ref (He.ga K "_law_fresh"))) : Gn P w K mg base 2 f 2 (sp__law_draw K) :=
  gn_ok F sc__law_draw (fun _ _ _ _ _ _ us hl => match us, hl with | [_, _], _ => rfl) (fun vs H Q E h => len__law_draw h) (fun cdv A outer s H vs Q E hg hr h => ⟨t__law_draw K (fun cls d _ H => E cls d H), (pss_cons (ps_if (pt_cmpR op_lt (pe_ix ix_seq (pv 0) pe_int (fun _ _ => rfl)) (pv 1) (nomark _)) (pss_one (ps_asg (g_call G__law_fresh hg (hr.mono (by decide)) (L2.takes_of rfl rfl rfl rfl) rfl m__law_fresh k__law_fresh (pa_cons (pv 0) pa_nil)) (pg_sub (pv 0) pe_int set_list))) pss_nil)
  (pss_cons (ps_set (i := 2) sc__law_draw.nd rfl (by first | exact Or.inl rfl | exact Or.inr rfl) (pe_op op_mod (pe_ix ix_seq (pv 0) pe_int (fun _ _ => rfl)) (pv 1)))
  (pss_cons (ps_asg (pe_op op_fdiv (pe_ix ix_seq (pv 0) pe_int (fun _ _ => rfl)) (pv 1)) (pg_sub (pv 0) pe_int set_list))
  (pss_one (ps_ret (pv 2)))))), pure__law_draw h⟩)
theorem ok_is_between {f : Addr} {fd : FuncData} (F : FunD K "is_between" "is_between" (defArgs s_is_between) (defBody s_is_between) (defScope s_is_between) [] [] f fd)
    (b_bool : mg "bool" = none)
    (b_int : mg "int" = none)
    (b_isinstance : mg "isinstance" = none) : Gn P w K mg base 1 f 3 (sp_is_between K) :=
  gn_ok F sc_is_between (fun _ _ _ _ _ _ us hl => match us, hl with | [_, _, _], _ => rfl) (fun vs H Q E h => len_is_between h) (fun cdv A outer s H vs Q E hg hr h => ⟨t_is_between K (fun cls d _ H => E cls d H), (pss_one (ps_ret (pe_and (pe_callB call_isi (by rfl) b_isinstance PyProof.Rows.boot_isinstance (pa_cons (pv 0) (pa_cons (pe_bltn (u := .type "int") (by rfl) b_int (by decide +kernel) rfl) pa_nil))) (pe_and (pe_not (pe_callB call_isi (by rfl) b_isinstance PyProof.Rows.boot_isinstance (pa_cons (pv 0) (pa_cons (pe_bltn (u := .type "bool") (by rfl) b_bool (by decide +kernel) rfl) pa_nil)))) (pe_one (pe_chain op_le op_le (pv 1) (pv 0) (pv 2))))))), pure_is_between h⟩)
theorem ok_Machine__require_state {f : Addr} {fd : FuncData} {fdi_UnknownState : FuncData} (F : FunD K "_require_state" "Machine._require_state" (defArgs s_Machine__require_state) (defBody s_Machine__require_state) (defScope s_Machine__require_state) [] [] f fd)
    (MC : MCls K)
    (B_UnknownState : Binds K fdi_UnknownState ["self", "state"] [])
    (G_is_between : Gn P w K mg base 1 (He.ga K "is_between") 3 (sp_is_between K))
    (I_UnknownState : FnOk P w K mg base CX0 1 (He.ma K (He.ga K "UnknownState") "__init__") fdi_UnknownState ["self", "state"] (spInit (He.ga K "UnknownState") "state"))
    (T_UnknownState : ExB "LookupError" "LookupError.__new__" bmLE K (He.ga K "UnknownState") (He.ma K (He.ga K "UnknownState") "__init__") "state")
    (k_is_between : PySem.W.keepIn K (.ref (He.ga K "is_between")) = true)
    (m_UnknownState : mg "UnknownState" = some (.ref (He.ga K "UnknownState")))
    (m_is_between : mg "is_between" = some (.ref (He.ga K "is_between"))) : Gn P w K mg base 3 f 2 (sp_Machine__require_state K) :=
  gn_ok F sc_Machine__require_state (fun _ _ _ _ _ _ us hl => match us, hl with | [_, _], _ => rfl) (fun vs H Q E h => len_Machine__require_state h) (fun cdv A outer s H vs Q E hg hr h => ⟨t_Machine__require_state K (fun cls d _ H => E cls d H), (pss_one (ps_if (pt_not (pt_truth (g_call G_is_between hg (hr.mono (by decide)) (L2.takes_of rfl rfl rfl rfl) rfl m_is_between k_is_between (pa_cons (pv 1) (pa_cons pe_int (pa_cons (pe_op op_sub (pe_fld (pv 0) rfl) pe_int) pa_nil)))) (by intro _; rfl))) (pss_one (g_raiseB PySem.F.excBase_LookupError T_UnknownState I_UnknownState (hr.mono (by decide)) B_UnknownState rfl (L2.takes_of rfl rfl rfl rfl) rfl m_UnknownState (pa_cons (pv 1) pa_nil))) pss_nil)), pure_Machine__require_state MC h⟩)
theorem ok_put_in {f : Addr} {fd : FuncData} (F : FunD K "put_in" "put_in" (defArgs s_put_in) (defBody s_put_in) (defScope s_put_in) [] [] f fd) : Gn P w K mg base 1 f 2 (sp_put_in K) :=
  gn_ok F sc_put_in (fun _ _ _ _ _ _ us hl => match us, hl with | [_, _], _ => rfl) (fun vs H Q E h => len_put_in h) (fun cdv A outer s H vs Q E hg hr h => ⟨t_put_in K (fun cls d _ H => E cls d H), (pss_cons (ps_set (i := 2) sc_put_in.nd rfl (by first | exact Or.inl rfl | exact Or.inr rfl) (pe_cmp (pc_dnotin (Nat.lt_trans (Nat.add_lt_add_left (show 1 < 64 by decide) _) hr.units) (pv 1) (pv 0))))
  (pss_cons (ps_dput (Nat.lt_trans (Nat.add_lt_add_left (show 1 < 64 by decide) _) hr.units) (pv 0) (pv 1) pe_bl rfl)
  (pss_one (ps_ret (pv 2))))), pure_put_in h⟩)
theorem ok_Machine_add_end {f : Addr} {fd : FuncData} (F : FunD K "add_end" "Machine.add_end" (defArgs s_Machine_add_end) (defBody s_Machine_add_end) (defScope s_Machine_add_end) [] [] f fd)
    (MC : MCls K)
    (C_Machine : Cls K (He.ga K "Machine"))
    (G_Machine__require_state : Gn P w K mg base 3 (He.ma K (He.ga K "Machine") "_require_state") 2 (sp_Machine__require_state K))
    (G_put_in : Gn P w K mg base 1 (He.ga K "put_in") 2 (sp_put_in K))
    (M_Machine__require_state : Meth K (He.ga K "Machine") "_require_state" (He.ma K (He.ga K "Machine") "_require_state"))
    (k_put_in : PySem.W.keepIn K (.ref (He.ga K "put_in")) = true)
    (m_put_in : mg "put_in" = some (.ref (He.ga K "put_in"))) : Gn P w K mg base 4 f 2 (sp_Machine_add_end K) :=
  gn_ok F sc_Machine_add_end (fun _ _ _ _ _ _ us hl => match us, hl with | [_, _], _ => rfl) (fun vs H Q E h => len_Machine_add_end h) (fun cdv A outer s H vs Q E hg hr h => ⟨t_Machine_add_end K (fun cls d _ H => E cls d H), (pss_cons (ps_expr (g_meth (pv 0) C_Machine M_Machine__require_state G_Machine__require_state hg (hr.mono (by decide)) (L2.takes_of rfl rfl rfl rfl) (pa_cons (pv 1) pa_nil)))
  (pss_one (ps_ret (g_call G_put_in hg (hr.mono (by decide)) (L2.takes_of rfl rfl rfl rfl) rfl m_put_in k_put_in (pa_cons (pe_fld (pv 0) rfl) (pa_cons (pv 1) pa_nil)))))), pure_Machine_add_end MC h⟩)
theorem ok_is_log {f : Addr} {fd : FuncData} (F : FunD K "is_log" "is_log" (defArgs s_is_log) (defBody s_is_log) (defScope s_is_log) [] [] f fd)
    (b_all : mg "all" = none)
    (b_isinstance : mg "isinstance" = none)
    (b_str : mg "str" = none)
    (m_SIGNS : ∃ t, mg "SIGNS" = some (.str "abc" t)) : Gn P w K mg base 1 f 2 (sp_is_log K) :=
  gn_ok F sc_is_log (fun _ _ _ _ _ _ us hl => match us, hl with | [_, _], _ => rfl) (fun vs H Q E h => len_is_log h) (fun cdv A outer s H vs Q E hg hr h => ⟨t_is_log K (fun cls d _ H => E cls d H), (pss_one (ps_ret (pe_and (pe_callB call_isi (by rfl) b_isinstance PyProof.Rows.boot_isinstance (pa_cons (pv 0) (pa_cons (pe_bltn (u := .type "str") (by rfl) b_str (by decide +kernel) rfl) pa_nil))) (pe_one (pe_callB (cr_all rfl) (by rfl) b_all (by decide +kernel) (pa_cons (pe_lc (own := [("letter", 2)]) (g := (gName 2)) rfl sc_is_log.nd (pi_g (pv 0)) (blkOk_by (own := [("letter", 2)]) (N := N_is_log) (sc := defScope s_is_log) (by decide +kernel)) (fun _ _ _ _ _ => (pg_name (i := 2) sc_is_log.nd rfl (by first | exact Or.inl rfl | exact Or.inr rfl))) (fun _ _ _ _ _ => pts_nil) (fun _ _ _ _ _ => (pe_cmpR (op_gin hr.units) (pv 2) (pe_slice sl_g (pe_glob rfl m_SIGNS.choose_spec ⟨_, rfl⟩) po_none (po_some (pv 1))) rfl))) pa_nil)))))), pure_is_log h⟩)
theorem ok_is_sign {f : Addr} {fd : FuncData} (F : FunD K "is_sign" "is_sign" (defArgs s_is_sign) (defBody s_is_sign) (defScope s_is_sign) [] [] f fd)
    (G_is_log : Gn P w K mg base 1 (He.ga K "is_log") 2 (sp_is_log K))
    (b_len : mg "len" = none)
    (k_is_log : PySem.W.keepIn K (.ref (He.ga K "is_log")) = true)
    (m_is_log : mg "is_log" = some (.ref (He.ga K "is_log"))) : Gn P w K mg base 2 f 2 (sp_is_sign K) :=
  gn_ok F sc_is_sign (fun _ _ _ _ _ _ us hl => match us, hl with | [_, _], _ => rfl) (fun vs H Q E h => len_is_sign h) (fun cdv A outer s H vs Q E hg hr h => ⟨t_is_sign K (fun cls d _ H => E cls d H), (pss_one (ps_ret (pe_and (g_call G_is_log hg (hr.mono (by decide)) (L2.takes_of rfl rfl rfl rfl) rfl m_is_log k_is_log (pa_cons (pv 0) (pa_cons (pv 1) pa_nil))) (pe_one (pe_cmpR (op_geq hr.units) (pe_callB call_len (by rfl) b_len PySem.boot_len (pa_cons (pv 0) pa_nil)) pe_int (nomark _)))))), pure_is_sign h⟩)
theorem ok_require_sign {f : Addr} {fd : FuncData} {fdi_NotALog : FuncData} (F : FunD K "require_sign" "require_sign" (defArgs s_require_sign) (defBody s_require_sign) (defScope s_require_sign) [] [] f fd)
    (B_NotALog : Binds K fdi_NotALog ["self", "value"] [])
    (G_is_sign : Gn P w K mg base 2 (He.ga K "is_sign") 2 (sp_is_sign K))
    (I_NotALog : FnOk P w K mg base CX0 1 (He.ma K (He.ga K "NotALog") "__init__") fdi_NotALog ["self", "value"] (spInit (He.ga K "NotALog") "value"))
    (T_NotALog : ExB "ValueError" "ValueError.__new__" [.type "ValueError", .type "Exception", .type "BaseException", .type "object"] K (He.ga K "NotALog") (He.ma K (He.ga K "NotALog") "__init__") "value")
    (k_is_sign : PySem.W.keepIn K (.ref (He.ga K "is_sign")) = true)
    (m_NotALog : mg "NotALog" = some (.ref (He.ga K "NotALog")))
    (m_is_sign : mg "is_sign" = some (.ref (He.ga K "is_sign"))) : Gn P w K mg base 3 f 2 (sp_require_sign K) :=
  gn_ok F sc_require_sign (fun _ _ _ _ _ _ us hl => match us, hl with | [_, _], _ => rfl) (fun vs H Q E h => len_require_sign h) (fun cdv A outer s H vs Q E hg hr h => ⟨t_require_sign K (fun cls d _ H => E cls d H), (pss_cons (ps_if (pt_not (pt_truth (g_call G_is_sign hg (hr.mono (by decide)) (L2.takes_of rfl rfl rfl rfl) rfl m_is_sign k_is_sign (pa_cons (pv 0) (pa_cons (pv 1) pa_nil))) (by intro _; rfl))) (pss_one (g_raiseB PySem.F.excBase_ValueError T_NotALog I_NotALog (hr.mono (by decide)) B_NotALog rfl (L2.takes_of rfl rfl rfl rfl) rfl m_NotALog (pa_cons (pv 0) pa_nil))) pss_nil)
  (pss_one (ps_ret (pv 0)))), pure_require_sign h⟩)
theorem ok_Machine_add_edge {f : Addr} {fd : FuncData} {fdi_EdgeExists : FuncData} {fdi_LimitExceeded : FuncData} (F : FunD K "add_edge" "Machine.add_edge" (defArgs s_Machine_add_edge) (defBody s_Machine_add_edge) (defScope s_Machine_add_edge) [] [] f fd)
    (MC : MCls K)
    (B_EdgeExists : Binds K fdi_EdgeExists ["self", "edge"] [])
    (B_LimitExceeded : Binds K fdi_LimitExceeded ["self", "limit"] [])
    (C_Machine : Cls K (He.ga K "Machine"))
    (G_Machine__require_state : Gn P w K mg base 3 (He.ma K (He.ga K "Machine") "_require_state") 2 (sp_Machine__require_state K))
    (G_require_sign : Gn P w K mg base 3 (He.ga K "require_sign") 2 (sp_require_sign K))
    (I_EdgeExists : FnOk P w K mg base CX0 1 (He.ma K (He.ga K "EdgeExists") "__init__") fdi_EdgeExists ["self", "edge"] (spInit (He.ga K "EdgeExists") "edge"))
    (I_LimitExceeded : FnOk P w K mg base CX0 1 (He.ma K (He.ga K "LimitExceeded") "__init__") fdi_LimitExceeded ["self", "limit"] (spInit (He.ga K "LimitExceeded") "limit"))
    (M_Machine__require_state : Meth K (He.ga K "Machine") "_require_state" (He.ma K (He.ga K "Machine") "_require_state"))
    (T_EdgeExists : ExB "RuntimeError" "RuntimeError.__new__" bmRE K (He.ga K "EdgeExists") (He.ma K (He.ga K "EdgeExists") "__init__") "edge")
    (T_LimitExceeded : ExB "OverflowError" "OverflowError.__new__" bmOE K (He.ga K "LimitExceeded") (He.ma K (He.ga K "LimitExceeded") "__init__") "limit")
    (b_len : mg "len" = none)
    (k_require_sign : PySem.W.keepIn K (.ref (He.ga K "require_sign")) = true)
    (m_EdgeExists : mg "EdgeExists" = some (.ref (He.ga K "EdgeExists")))
    (m_LimitExceeded : mg "LimitExceeded" = some (.ref (He.ga K "LimitExceeded")))
    (m_MOST_EDGES : ∃ t, mg "MOST_EDGES" = some (.int 14 t))
    (m_require_sign : mg "require_sign" = some (.ref (He.ga K "require_sign"))) : Gn P w K mg base 4 f 4 (sp_Machine_add_edge K) :=
  gn_ok F sc_Machine_add_edge (fun _ _ _ _ _ _ us hl => match us, hl with | [_, _, _, _], _ => rfl) (fun vs H Q E h => len_Machine_add_edge h) (fun cdv A outer s H vs Q E hg hr h => ⟨t_Machine_add_edge K (fun cls d _ H => E cls d H), (pss_cons (ps_expr (g_meth (pv 0) C_Machine M_Machine__require_state G_Machine__require_state hg (hr.mono (by decide)) (L2.takes_of rfl rfl rfl rfl) (pa_cons (pv 1) pa_nil)))
  (pss_cons (ps_expr (g_meth (pv 0) C_Machine M_Machine__require_state G_Machine__require_state hg (hr.mono (by decide)) (L2.takes_of rfl rfl rfl rfl) (pa_cons (pv 3) pa_nil)))
  (pss_cons (ps_expr (g_call G_require_sign hg (hr.mono (by decide)) (L2.takes_of rfl rfl rfl rfl) rfl m_require_sign k_require_sign (pa_cons (pv 2) (pa_cons (pe_fld (pv 0) rfl) pa_nil))))
  (pss_cons (ps_set (i := 4) sc_Machine_add_edge.nd rfl (by first | exact Or.inl rfl | exact Or.inr rfl) (pe_tup (pa_cons (pv 1) (pa_cons (pv 2) (pa_cons (pv 3) pa_nil)))))
  (pss_cons (ps_if (pt_cmp (pc_din (Nat.lt_trans (Nat.add_lt_add_left (show 1 < 64 by decide) _) hr.units) (pv 4) (pe_fld (pv 0) rfl))) (pss_one (g_raiseB PySem.F.excBase_RuntimeError T_EdgeExists I_EdgeExists (hr.mono (by decide)) B_EdgeExists rfl (L2.takes_of rfl rfl rfl rfl) rfl m_EdgeExists (pa_cons (pv 4) pa_nil))) pss_nil)
  (pss_cons (ps_if (pt_cmpR op_ge (pe_callB call_glenD (by rfl) b_len PySem.boot_len (pa_cons (pe_fld (pv 0) rfl) pa_nil)) (pe_glob rfl m_MOST_EDGES.choose_spec ⟨_, rfl⟩) (nomark _)) (pss_one (g_raiseB PySem.F.excBase_OverflowError T_LimitExceeded I_LimitExceeded (hr.mono (by decide)) B_LimitExceeded rfl (L2.takes_of rfl rfl rfl rfl) rfl m_LimitExceeded (pa_cons (pe_glob rfl m_MOST_EDGES.choose_spec ⟨_, rfl⟩) pa_nil))) pss_nil)
  (pss_one (ps_dput (Nat.lt_trans (Nat.add_lt_add_left (show 1 < 64 by decide) _) hr.units) (pe_fld (pv 0) rfl) (pv 4) pe_bl rfl)))))))), pure_Machine_add_edge MC h⟩)
theorem ok_take_out {f : Addr} {fd : FuncData} (F : FunD K "take_out" "take_out" (defArgs s_take_out) (defBody s_take_out) (defScope s_take_out) [] [] f fd) : Gn P w K mg base 1 f 2 (sp_take_out K) :=
  gn_ok F sc_take_out (fun _ _ _ _ _ _ us hl => match us, hl with | [_, _], _ => rfl) (fun vs H Q E h => len_take_out h) (fun cdv A outer s H vs Q E hg hr h => ⟨t_take_out K (fun cls d _ H => E cls d H), (pss_cons (ps_set (i := 2) sc_take_out.nd rfl (by first | exact Or.inl rfl | exact Or.inr rfl) (pe_cmp (pc_din (Nat.lt_trans (Nat.add_lt_add_left (show 1 < 64 by decide) _) hr.units) (pv 1) (pv 0))))
  (pss_cons (ps_if (pt_truth (pv 2) (by intro _; rfl)) (pss_one (ps_ddel (pv 0) (pv 1))) pss_nil)
  (pss_one (ps_ret (pv 2))))), pure_take_out h⟩)
theorem ok_Machine_remove_end {f : Addr} {fd : FuncData} (F : FunD K "remove_end" "Machine.remove_end" (defArgs s_Machine_remove_end) (defBody s_Machine_remove_end) (defScope s_Machine_remove_end) [] [] f fd)
    (MC : MCls K)
    (C_Machine : Cls K (He.ga K "Machine"))
    (G_Machine__require_state : Gn P w K mg base 3 (He.ma K (He.ga K "Machine") "_require_state") 2 (sp_Machine__require_state K))
    (G_take_out : Gn P w K mg base 1 (He.ga K "take_out") 2 (sp_take_out K))
    (M_Machine__require_state : Meth K (He.ga K "Machine") "_require_state" (He.ma K (He.ga K "Machine") "_require_state"))
    (k_take_out : PySem.W.keepIn K (.ref (He.ga K "take_out")) = true)
    (m_take_out : mg "take_out" = some (.ref (He.ga K "take_out"))) : Gn P w K mg base 4 f 2 (sp_Machine_remove_end K) :=
  gn_ok F sc_Machine_remove_end (fun _ _ _ _ _ _ us hl => match us, hl with | [_, _], _ => rfl) (fun vs H Q E h => len_Machine_remove_end h) (fun cdv A outer s H vs Q E hg hr h => ⟨t_Machine_remove_end K (fun cls d _ H => E cls d H), (pss_cons (ps_expr (g_meth (pv 0) C_Machine M_Machine__require_state G_Machine__require_state hg (hr.mono (by decide)) (L2.takes_of rfl rfl rfl rfl) (pa_cons (pv 1) pa_nil)))
  (pss_one (ps_ret (g_call G_take_out hg (hr.mono (by decide)) (L2.takes_of rfl rfl rfl rfl) rfl m_take_out k_take_out (pa_cons (pe_fld (pv 0) rfl) (pa_cons (pv 1) pa_nil)))))), pure_Machine_remove_end MC h⟩)
theorem ok_Machine_add_start {f : Addr} {fd : FuncData} (F : FunD K "add_start" "Machine.add_start" (defArgs s_Machine_add_start) (defBody s_Machine_add_start) (defScope s_Machine_add_start) [] [] f fd)
    (MC : MCls K)
    (C_Machine : Cls K (He.ga K "Machine"))
    (G_Machine__require_state : Gn P w K mg base 3 (He.ma K (He.ga K "Machine") "_require_state") 2 (sp_Machine__require_state K))
    (G_put_in : Gn P w K mg base 1 (He.ga K "put_in") 2 (sp_put_in K))
    (M_Machine__require_state : Meth K (He.ga K "Machine") "_require_state" (He.ma K (He.ga K "Machine") "_require_state"))
    (k_put_in : PySem.W.keepIn K (.ref (He.ga K "put_in")) = true)
    (m_put_in : mg "put_in" = some (.ref (He.ga K "put_in"))) : Gn P w K mg base 4 f 2 (sp_Machine_add_start K) :=
  gn_ok F sc_Machine_add_start (fun _ _ _ _ _ _ us hl => match us, hl with | [_, _], _ => rfl) (fun vs H Q E h => len_Machine_add_start h) (fun cdv A outer s H vs Q E hg hr h => ⟨t_Machine_add_start K (fun cls d _ H => E cls d H), (pss_cons (ps_expr (g_meth (pv 0) C_Machine M_Machine__require_state G_Machine__require_state hg (hr.mono (by decide)) (L2.takes_of rfl rfl rfl rfl) (pa_cons (pv 1) pa_nil)))
  (pss_one (ps_ret (g_call G_put_in hg (hr.mono (by decide)) (L2.takes_of rfl rfl rfl rfl) rfl m_put_in k_put_in (pa_cons (pe_fld (pv 0) rfl) (pa_cons (pv 1) pa_nil)))))), pure_Machine_add_start MC h⟩)
theorem ok_Machine_remove_start {f : Addr} {fd : FuncData} (F : FunD K "remove_start" "Machine.remove_start" (defArgs s_Machine_remove_start) (defBody s_Machine_remove_start) (defScope s_Machine_remove_start) [] [] f fd)
    (MC : MCls K)
    (C_Machine : Cls K (He.ga K "Machine"))
    (G_Machine__require_state : Gn P w K mg base 3 (He.ma K (He.ga K "Machine") "_require_state") 2 (sp_Machine__require_state K))
    (G_take_out : Gn P w K mg base 1 (He.ga K "take_out") 2 (sp_take_out K))
    (M_Machine__require_state : Meth K (He.ga K "Machine") "_require_state" (He.ma K (He.ga K "Machine") "_require_state"))
    (k_take_out : PySem.W.keepIn K (.ref (He.ga K "take_out")) = true)
    (m_take_out : mg "take_out" = some (.ref (He.ga K "take_out"))) : Gn P w K mg base 4 f 2 (sp_Machine_remove_start K) :=
  gn_ok F sc_Machine_remove_start (fun _ _ _ _ _ _ us hl => match us, hl with | [_, _], _ => rfl) (fun vs H Q E h => len_Machine_remove_start h) (fun cdv A outer s H vs Q E hg hr h => ⟨t_Machine_remove_start K (fun cls d _ H => E cls d H), (pss_cons (ps_expr (g_meth (pv 0) C_Machine M_Machine__require_state G_Machine__require_state hg (hr.mono (by decide)) (L2.takes_of rfl rfl rfl rfl) (pa_cons (pv 1) pa_nil)))
  (pss_one (ps_ret (g_call G_take_out hg (hr.mono (by decide)) (L2.takes_of rfl rfl rfl rfl) rfl m_take_out k_take_out (pa_cons (pe_fld (pv 0) rfl) (pa_cons (pv 1) pa_nil)))))), pure_Machine_remove_start MC h⟩)
theorem ok__law_moved {f : Addr} {fd : FuncData} (F : FunD K "_law_moved" "_law_moved" (defArgs s__law_moved) (defBody s__law_moved) (defScope s__law_moved) [] [] f fd)
    (MC : MCls K)
    (C_Machine : Cls K (He.ga K "Machine"))
    (G_Machine_add_edge : Gn P w K mg base 4 (He.ma K (He.ga K "Machine") "add_edge") 4 (sp_Machine_add_edge K))
    (G_Machine_add_end : Gn P w K mg base 4 (He.ma K (He.ga K "Machine") "add_end") 2 (sp_Machine_add_end K))
    (G_Machine_add_start : Gn P w K mg base 4 (He.ma K (He.ga K "Machine") "add_start") 2 (sp_Machine_add_start K))
    (G_Machine_edges : Gn P w K mg base 1 (He.ma K (He.ga K "Machine") "edges") 1 (sp_Machine_edges K))
    (G_Machine_remove_edge : Gn P w K mg base 3 (He.ma K (He.ga K "Machine") "remove_edge") 4 (sp_Machine_remove_edge K))
    (G_Machine_remove_end : Gn P w K mg base 4 (He.ma K (He.ga K "Machine") "remove_end") 2 (sp_Machine_remove_end K))
    (G_Machine_remove_start : Gn P w K mg base 4 (He.ma K (He.ga K "Machine") "remove_start") 2 (sp_Machine_remove_start K))
    (G__law_draw : Gn P w K mg base 2 (He.ga K "_law_draw") 2 (sp__law_draw K))
    (M_Machine_add_edge : Meth K (He.ga K "Machine") "add_edge" (He.ma K (He.ga K "Machine") "add_edge"))
    (M_Machine_add_end : Meth K (He.ga K "Machine") "add_end" (He.ma K (He.ga K "Machine") "add_end"))
    (M_Machine_add_start : Meth K (He.ga K "Machine") "add_start" (He.ma K (He.ga K "Machine") "add_start"))
    (M_Machine_edges : Meth K (He.ga K "Machine") "edges" (He.ma K (He.ga K "Machine") "edges"))
    (M_Machine_remove_edge : Meth K (He.ga K "Machine") "remove_edge" (He.ma K (He.ga K "Machine") "remove_edge"))
    (M_Machine_remove_end : Meth K (He.ga K "Machine") "remove_end" (He.ma K (He.ga K "Machine") "remove_end"))
    (M_Machine_remove_start : Meth K (He.ga K "Machine") "remove_start" (He.ma K (He.ga K "Machine") "remove_start"))
    (b_len : mg "len" = none)
    (k__law_draw : PySem.W.keepIn K (.ref (He.ga K "_law_draw")) = true)
    (m__law_draw : mg "_law_draw" = some (.ref (He.ga K "_law_draw"))) : Gn P w K mg base 5 f 3 (sp__law_moved K) :=
  gn_ok F sc__law_moved (fun _ _ _ _ _ _ us hl => match us, hl with | [_, _, _], _ => rfl) (fun vs H Q E h => len__law_moved h) (fun cdv A outer s H vs Q E hg hr h => ⟨t__law_moved K (fun cls d _ H => E cls d H), (pss_cons (ps_par (i := 3) (j := 4) (by rfl) sc__law_moved.nd rfl rfl (by decide) rfl rfl (pa_cons (g_meth0 (pv 1) C_Machine M_Machine_edges G_Machine_edges hg (hr.mono (by decide)) (L2.takes_of rfl rfl rfl rfl)) (pa_cons (pe_fld (pv 1) rfl) pa_nil)) (by rfl))
  (pss_cons (ps_if (PW.pt (pw_and (pt_cmpR (op_gne hr.units) (pv 3) (pe_tup pa_nil) (nomark _)) (pw_and1 (pt_cmpR (op_geq hr.units) (g_call G__law_draw hg (hr.mono (by decide)) (L2.takes_of rfl rfl rfl rfl) rfl m__law_draw k__law_draw (pa_cons (pv 0) (pa_cons pe_int pa_nil))) pe_int (nomark _))))) (pss_cons (ps_set (i := 5) sc__law_moved.nd rfl (by first | exact Or.inl rfl | exact Or.inr rfl) (pe_ix ix_seq (pv 3) (g_call G__law_draw hg (hr.mono (by decide)) (L2.takes_of rfl rfl rfl rfl) rfl m__law_draw k__law_draw (pa_cons (pv 0) (pa_cons (pe_callB call_len (by rfl) b_len PySem.boot_len (pa_cons (pv 3) pa_nil)) pa_nil))) (fun _ _ => rfl)))
  (pss_one (ps_expr (g_meth (pv 1) C_Machine M_Machine_remove_edge G_Machine_remove_edge hg (hr.mono (by decide)) (L2.takes_of rfl rfl rfl rfl) (pa_cons (pe_ix ix_seq (pv 5) pe_int (fun _ _ => rfl)) (pa_cons (pe_ix ix_seq (pv 5) pe_int (fun _ _ => rfl)) (pa_cons (pe_ix ix_seq (pv 5) pe_int (fun _ _ => rfl)) pa_nil))))))) (pss_cons (ps_set (i := 6) sc__law_moved.nd rfl (by first | exact Or.inl rfl | exact Or.inr rfl) (pe_tup (pa_cons (g_call G__law_draw hg (hr.mono (by decide)) (L2.takes_of rfl rfl rfl rfl) rfl m__law_draw k__law_draw (pa_cons (pv 0) (pa_cons (pv 4) pa_nil))) (pa_cons (pe_ix ix_seq pe_str (g_call G__law_draw hg (hr.mono (by decide)) (L2.takes_of rfl rfl rfl rfl) rfl m__law_draw k__law_draw (pa_cons (pv 0) (pa_cons (pv 2) pa_nil))) (fun _ _ => rfl)) (pa_cons (g_call G__law_draw hg (hr.mono (by decide)) (L2.takes_of rfl rfl rfl rfl) rfl m__law_draw k__law_draw (pa_cons (pv 0) (pa_cons (pv 4) pa_nil))) pa_nil)))))
  (pss_one (ps_if (PW.pt (pw_and (pt_cmpR (op_gnotin hr.units) (pv 6) (pv 3) rfl) (pw_and1 (pt_cmpR op_lt (pe_callB call_len (by rfl) b_len PySem.boot_len (pa_cons (pv 3) pa_nil)) pe_int (nomark _))))) (pss_one (ps_expr (g_meth (pv 1) C_Machine M_Machine_add_edge G_Machine_add_edge hg (hr.mono (by decide)) (L2.takes_of rfl rfl rfl rfl) (pa_cons (pe_ix ix_seq (pv 6) pe_int (fun _ _ => rfl)) (pa_cons (pe_ix ix_seq (pv 6) pe_int (fun _ _ => rfl)) (pa_cons (pe_ix ix_seq (pv 6) pe_int (fun _ _ => rfl)) pa_nil)))))) pss_nil))))
  (pss_cons (ps_par (i := 7) (j := 8) (by rfl) sc__law_moved.nd rfl rfl (by decide) rfl rfl (pa_cons (g_call G__law_draw hg (hr.mono (by decide)) (L2.takes_of rfl rfl rfl rfl) rfl m__law_draw k__law_draw (pa_cons (pv 0) (pa_cons (pv 4) pa_nil))) (pa_cons (g_call G__law_draw hg (hr.mono (by decide)) (L2.takes_of rfl rfl rfl rfl) rfl m__law_draw k__law_draw (pa_cons (pv 0) (pa_cons pe_int pa_nil))) pa_nil)) (by rfl))
  (pss_one (ps_if (pt_cmpR (op_geq hr.units) (pv 8) pe_int (nomark _)) (pss_one (ps_expr (g_meth (pv 1) C_Machine M_Machine_add_end G_Machine_add_end hg (hr.mono (by decide)) (L2.takes_of rfl rfl rfl rfl) (pa_cons (pv 7) pa_nil)))) (pss_one (ps_if (pt_cmpR (op_geq hr.units) (pv 8) pe_int (nomark _)) (pss_one (ps_expr (g_meth (pv 1) C_Machine M_Machine_remove_end G_Machine_remove_end hg (hr.mono (by decide)) (L2.takes_of rfl rfl rfl rfl) (pa_cons (pv 7) pa_nil)))) (pss_one (ps_if (pt_cmpR (op_geq hr.units) (pv 8) pe_int (nomark _)) (pss_one (ps_expr (g_meth (pv 1) C_Machine M_Machine_add_start G_Machine_add_start hg (hr.mono (by decide)) (L2.takes_of rfl rfl rfl rfl) (pa_cons (pv 7) pa_nil)))) (pss_one (ps_expr (g_meth (pv 1) C_Machine M_Machine_remove_start G_Machine_remove_start hg (hr.mono (by decide)) (L2.takes_of rfl rfl rfl rfl) (pa_cons (pv 7) pa_nil))))))))))))), pure__law_moved MC h⟩)
theorem ok__law_plan {f : Addr} {fd : FuncData} (F : FunD K "_law_plan" "_law_plan" (defArgs s__law_plan) (defBody s__law_plan) (defScope s__law_plan) [] [] f fd)
    (G__law_draw : Gn P w K mg base 2 (He.ga K "_law_draw") 2 (sp__law_draw K))
    (b_range : mg "range" = none)
    (k__law_draw : PySem.W.keepIn K (.ref (He.ga K "_law_draw")) = true)
    (m__law_draw : mg "_law_draw" = some (.ref (He.ga K "_law_draw"))) : Gn P w K mg base 3 f 4 (sp__law_plan K) :=
  gn_ok F sc__law_plan (fun _ _ _ _ _ _ us hl => match us, hl with | [_, _, _, _], _ => rfl) (fun vs H Q E h => len__law_plan h) (fun cdv A outer s H vs Q E hg hr h => ⟨t__law_plan K (fun cls d _ H => E cls d H), (pss_cons (ps_set (i := 4) sc__law_plan.nd rfl (by first | exact Or.inl rfl | exact Or.inr rfl) (pe_op op_gadd pe_int (g_call G__law_draw hg (hr.mono (by decide)) (L2.takes_of rfl rfl rfl rfl) rfl m__law_draw k__law_draw (pa_cons (pv 0) (pa_cons (pv 2) pa_nil)))))
  (pss_cons (ps_setLc (i := 5) (own := [("state", 6)]) (g := (gName 6)) rfl sc__law_plan.nd rfl rfl (sw_true rfl rfl rfl (by decide +kernel)) (pi_range1 rfl b_range (pa_cons (pv 4) pa_nil)) (blkOk_by (own := [("state", 6)]) (N := N__law_plan) (sc := defScope s__law_plan) (by decide +kernel)) (fun _ _ _ _ _ => (pg_name (i := 6) sc__law_plan.nd rfl (by first | exact Or.inl rfl | exact Or.inr rfl))) (fun _ _ _ _ _ => (pts_one (PW.pt (pw_or (pt_cmpR (op_geq hr.units) (pv 6) pe_int (nomark _)) (pw_or1 (pt_cmpR (op_geq hr.units) (g_call G__law_draw hg (hr.mono (by decide)) takes0 rfl m__law_draw k__law_draw (pa_cons (pv 0) (pa_cons pe_int pa_nil))) pe_int (nomark _))))))) (fun _ _ _ _ _ => (pv 6)))
  (pss_cons (ps_setLc (i := 7) (own := [("state", 6)]) (g := (gName 6)) rfl sc__law_plan.nd rfl rfl (sw_true rfl rfl rfl (by decide +kernel)) (pi_range1 rfl b_range (pa_cons (pv 4) pa_nil)) (blkOk_by (own := [("state", 6)]) (N := N__law_plan) (sc := defScope s__law_plan) (by decide +kernel)) (fun _ _ _ _ _ => (pg_name (i := 6) sc__law_plan.nd rfl (by first | exact Or.inl rfl | exact Or.inr rfl))) (fun _ _ _ _ _ => (pts_one (pt_cmpR (op_geq hr.units) (g_call G__law_draw hg (hr.mono (by decide)) takes0 rfl m__law_draw k__law_draw (pa_cons (pv 0) (pa_cons pe_int pa_nil))) pe_int (nomark _)))) (fun _ _ _ _ _ => (pv 6)))
  (pss_cons (ps_set (i := 8) sc__law_plan.nd rfl (by first | exact Or.inl rfl | exact Or.inr rfl) (pe_lst pa_nil))
  (pss_cons (ps_for (L2.passes_of rfl) rfl (pi_range1 rfl b_range (pa_cons (g_call G__law_draw hg (hr.mono (by decide)) (L2.takes_of rfl rfl rfl rfl) rfl m__law_draw k__law_draw (pa_cons (pv 0) (pa_cons (pe_op op_gadd (pv 3) pe_int) pa_nil))) pa_nil)) (pg_name (i := 9) sc__law_plan.nd rfl (by first | exact Or.inl rfl | exact Or.inr rfl)) (pss_cons (ps_set (i := 10) sc__law_plan.nd rfl (by first | exact Or.inl rfl | exact Or.inr rfl) (pe_tup (pa_cons (g_call G__law_draw hg (hr.mono (by decide)) (L2.takes_of rfl rfl rfl rfl) rfl m__law_draw k__law_draw (pa_cons (pv 0) (pa_cons (pv 4) pa_nil))) (pa_cons (pe_ix ix_seq pe_str (g_call G__law_draw hg (hr.mono (by decide)) (L2.takes_of rfl rfl rfl rfl) rfl m__law_draw k__law_draw (pa_cons (pv 0) (pa_cons (pv 1) pa_nil))) (fun _ _ => rfl)) (pa_cons (g_call G__law_draw hg (hr.mono (by decide)) (L2.takes_of rfl rfl rfl rfl) rfl m__law_draw k__law_draw (pa_cons (pv 0) (pa_cons (pv 4) pa_nil))) pa_nil)))))
  (pss_one (ps_if (pt_cmpR (op_gnotin hr.units) (pv 10) (pv 8) rfl) (pss_one (ps_expr (pe_bm PySem.F.plainAttrs_list PySem.F.slot_list_append PySem.F.type_list_append mt_append (pv 8) (pa_cons (pv 10) pa_nil)))) pss_nil))))
  (pss_one (ps_ret (pe_lst (pa_cons (pv 4) (pa_cons (pv 5) (pa_cons (pv 7) (pa_cons (pv 8) pa_nil)))))))))))), pure__law_plan h⟩)
theorem ok_Machine___init__ {f : Addr} {fd : FuncData} {fdi_LimitExceeded : FuncData} (F : FunD K "__init__" "Machine.__init__" (defArgs s_Machine___init__) (defBody s_Machine___init__) (defScope s_Machine___init__) [] [] f fd)
    (MC : MCls K)
    (B_LimitExceeded : Binds K fdi_LimitExceeded ["self", "limit"] [])
    (G_is_between : Gn P w K mg base 1 (He.ga K "is_between") 3 (sp_is_between K))
    (I_LimitExceeded : FnOk P w K mg base CX0 1 (He.ma K (He.ga K "LimitExceeded") "__init__") fdi_LimitExceeded ["self", "limit"] (spInit (He.ga K "LimitExceeded") "limit"))
    (T_LimitExceeded : ExB "OverflowError" "OverflowError.__new__" bmOE K (He.ga K "LimitExceeded") (He.ma K (He.ga K "LimitExceeded") "__init__") "limit")
    (k_is_between : PySem.W.keepIn K (.ref (He.ga K "is_between")) = true)
    (m_LimitExceeded : mg "LimitExceeded" = some (.ref (He.ga K "LimitExceeded")))
    (m_MOST_SIGNS : ∃ t, mg "MOST_SIGNS" = some (.int 3 t))
    (m_MOST_STATES : ∃ t, mg "MOST_STATES" = some (.int 6 t))
    (m_is_between : mg "is_between" = some (.ref (He.ga K "is_between"))) : Gn P w K mg base 3 f 3 (sp_Machine___init__ K) :=
  gn_ok F sc_Machine___init__ (fun _ _ _ _ _ _ us hl => match us, hl with | [_, _, _], _ => rfl) (fun vs H Q E h => len_Machine___init__ h) (fun cdv A outer s H vs Q E hg hr h => ⟨t_Machine___init__ K (fun cls d _ H => E cls d H), (pss_cons (ps_if (pt_not (pt_truth (g_call G_is_between hg (hr.mono (by decide)) (L2.takes_of rfl rfl rfl rfl) rfl m_is_between k_is_between (pa_cons (pv 1) (pa_cons pe_int (pa_cons (pe_glob rfl m_MOST_SIGNS.choose_spec ⟨_, rfl⟩) pa_nil)))) (by intro _; rfl))) (pss_one (g_raiseB PySem.F.excBase_OverflowError T_LimitExceeded I_LimitExceeded (hr.mono (by decide)) B_LimitExceeded rfl (L2.takes_of rfl rfl rfl rfl) rfl m_LimitExceeded (pa_cons (pe_glob rfl m_MOST_SIGNS.choose_spec ⟨_, rfl⟩) pa_nil))) pss_nil)
  (pss_cons (ps_if (pt_not (pt_truth (g_call G_is_between hg (hr.mono (by decide)) (L2.takes_of rfl rfl rfl rfl) rfl m_is_between k_is_between (pa_cons (pv 2) (pa_cons pe_int (pa_cons (pe_glob rfl m_MOST_STATES.choose_spec ⟨_, rfl⟩) pa_nil)))) (by intro _; rfl))) (pss_one (g_raiseB PySem.F.excBase_OverflowError T_LimitExceeded I_LimitExceeded (hr.mono (by decide)) B_LimitExceeded rfl (L2.takes_of rfl rfl rfl rfl) rfl m_LimitExceeded (pa_cons (pe_glob rfl m_MOST_STATES.choose_spec ⟨_, rfl⟩) pa_nil))) pss_nil)
  (pss_cons (ps_fld (pv 0) (pv 1) rfl)
  (pss_cons (ps_fld (pv 0) (pv 2) rfl)
  (pss_cons (ps_fld (pv 0) pe_dnewT rfl)
  (pss_cons (ps_fld (pv 0) pe_dnewK rfl)
  (pss_one (ps_fld (pv 0) pe_dnewK rfl)))))))), pure_Machine___init__ MC h⟩)
theorem ok__law_machine_of {f : Addr} {fd : FuncData} (F : FunD K "_law_machine_of" "_law_machine_of" (defArgs s__law_machine_of) (defBody s__law_machine_of) (defScope s__law_machine_of) [] [] f fd)
    (C_Machine : Cls K (He.ga K "Machine"))
    (G_Machine___init__ : Gn P w K mg base 3 (He.ma K (He.ga K "Machine") "__init__") 3 (sp_Machine___init__ K))
    (G_Machine_add_edge : Gn P w K mg base 4 (He.ma K (He.ga K "Machine") "add_edge") 4 (sp_Machine_add_edge K))
    (G_Machine_add_end : Gn P w K mg base 4 (He.ma K (He.ga K "Machine") "add_end") 2 (sp_Machine_add_end K))
    (G_Machine_add_start : Gn P w K mg base 4 (He.ma K (He.ga K "Machine") "add_start") 2 (sp_Machine_add_start K))
    (M_Machine : Mk K (He.ga K "Machine") (He.ma K (He.ga K "Machine") "__init__"))
    (M_Machine_add_edge : Meth K (He.ga K "Machine") "add_edge" (He.ma K (He.ga K "Machine") "add_edge"))
    (M_Machine_add_end : Meth K (He.ga K "Machine") "add_end" (He.ma K (He.ga K "Machine") "add_end"))
    (M_Machine_add_start : Meth K (He.ga K "Machine") "add_start" (He.ma K (He.ga K "Machine") "add_start"))
    (m_Machine : mg "Machine" = some (.ref (He.ga K "Machine"))) : Gn P w K mg base 5 f 2 (sp__law_machine_of K) :=
  gn_ok F sc__law_machine_of (fun _ _ _ _ _ _ us hl => match us, hl with | [_, _], _ => rfl) (fun vs H Q E h => len__law_machine_of h) (fun cdv A outer s H vs Q E hg hr h => ⟨t__law_machine_of K (fun cls d _ H => E cls d H), (pss_cons (ps_set (i := 2) sc__law_machine_of.nd rfl (by first | exact Or.inl rfl | exact Or.inr rfl) (g_make M_Machine G_Machine___init__ hg (hr.mono (by decide)) (L2.takes_of rfl rfl rfl rfl) rfl m_Machine (pa_cons (pv 0) (pa_cons (pe_ix ix_seq (pv 1) pe_int (fun _ _ => rfl)) pa_nil))))
  (pss_cons (ps_for (L2.passes_of rfl) rfl (pi_g (pe_ix ix_seq (pv 1) pe_int (fun _ _ => rfl))) (pg_name (i := 3) sc__law_machine_of.nd rfl (by first | exact Or.inl rfl | exact Or.inr rfl)) (pss_one (ps_expr (g_meth (pv 2) C_Machine M_Machine_add_start G_Machine_add_start hg (hr.mono (by decide)) (L2.takes_of rfl rfl rfl rfl) (pa_cons (pv 3) pa_nil)))))
  (pss_cons (ps_for (L2.passes_of rfl) rfl (pi_g (pe_ix ix_seq (pv 1) pe_int (fun _ _ => rfl))) (pg_name (i := 3) sc__law_machine_of.nd rfl (by first | exact Or.inl rfl | exact Or.inr rfl)) (pss_one (ps_expr (g_meth (pv 2) C_Machine M_Machine_add_end G_Machine_add_end hg (hr.mono (by decide)) (L2.takes_of rfl rfl rfl rfl) (pa_cons (pv 3) pa_nil)))))
  (pss_cons (ps_for (L2.passes_of rfl) rfl (pi_g (pe_ix ix_seq (pv 1) pe_int (fun _ _ => rfl))) (pg_tup rfl (pgs_cons (pg_name (i := 4) sc__law_machine_of.nd rfl (by first | exact Or.inl rfl | exact Or.inr rfl)) (pgs_cons (pg_name (i := 5) sc__law_machine_of.nd rfl (by first | exact Or.inl rfl | exact Or.inr rfl)) (pgs_cons (pg_name (i := 6) sc__law_machine_of.nd rfl (by first | exact Or.inl rfl | exact Or.inr rfl)) pgs_nil)))) (pss_one (ps_expr (g_meth (pv 2) C_Machine M_Machine_add_edge G_Machine_add_edge hg (hr.mono (by decide)) (L2.takes_of rfl rfl rfl rfl) (pa_cons (pv 4) (pa_cons (pv 5) (pa_cons (pv 6) pa_nil)))))))
  (pss_one (ps_ret (pv 2))))))), pure__law_machine_of h⟩)
theorem ok_require_pair {f : Addr} {fd : FuncData} (F : FunD K "require_pair" "require_pair" (defArgs s_require_pair) (defBody s_require_pair) (defScope s_require_pair) [] [] f fd)
    (MC : MCls K)
    (T_Unpaired : Ex0 "ValueError.__new__" [.type "ValueError", .type "Exception", .type "BaseException", .type "object"] K (He.ga K "Unpaired"))
    (m_Unpaired : mg "Unpaired" = some (.ref (He.ga K "Unpaired"))) : Gn P w K mg base 3 f 1 (sp_require_pair K) :=
  gn_ok F sc_require_pair (fun _ _ _ _ _ _ us hl => match us, hl with | [_], _ => rfl) (fun vs H Q E h => len_require_pair h) (fun cdv A outer s H vs Q E hg hr h => ⟨t_require_pair K (fun cls d _ H => E cls d H), (pss_cons (ps_asg (pv 0) (pg_tup rfl (pgs_cons (pg_name (i := 1) sc_require_pair.nd rfl (by first | exact Or.inl rfl | exact Or.inr rfl)) (pgs_cons (pg_name (i := 2) sc_require_pair.nd rfl (by first | exact Or.inl rfl | exact Or.inr rfl)) pgs_nil))))
  (pss_one (ps_if (pt_cmpR (op_gne hr.units) (pe_fld (pv 1) rfl) (pe_fld (pv 2) rfl) (nomark _)) (pss_one (g_raise0 PySem.F.excBase_ValueError T_Unpaired.q rfl (L2.takes_of rfl rfl rfl rfl) rfl m_Unpaired T_Unpaired.kp (raises_own T_Unpaired.sub T_Unpaired.ty))) pss_nil))), pure_require_pair MC h⟩)
theorem ok_Machine_starts {f : Addr} {fd : FuncData} (F : FunD K "starts" "Machine.starts" (defArgs s_Machine_starts) (defBody s_Machine_starts) (defScope s_Machine_starts) [] [] f fd)
    (MC : MCls K)
    (b_sorted : mg "sorted" = none)
    (b_tuple : mg "tuple" = none) : Gn P w K mg base 1 f 1 (sp_Machine_starts K) :=
  gn_ok F sc_Machine_starts (fun _ _ _ _ _ _ us hl => match us, hl with | [_], _ => rfl) (fun vs H Q E h => len_Machine_starts h) (fun cdv A outer s H vs Q E hg hr h => ⟨t_Machine_starts K (fun cls d _ H => E cls d H), (pss_one (ps_ret (pe_callTy call_gtuple (by rfl) b_tuple (by decide +kernel) (pa_cons (pe_callB (call_gsortedK rfl hr.units) (by rfl) b_sorted (by decide +kernel) (pa_cons (pe_fld (pv 0) rfl) pa_nil)) pa_nil)))), pure_Machine_starts MC h⟩)
theorem ok_Machine_ends {f : Addr} {fd : FuncData} (F : FunD K "ends" "Machine.ends" (defArgs s_Machine_ends) (defBody s_Machine_ends) (defScope s_Machine_ends) [] [] f fd)
    (MC : MCls K)
    (b_sorted : mg "sorted" = none)
    (b_tuple : mg "tuple" = none) : Gn P w K mg base 1 f 1 (sp_Machine_ends K) :=
  gn_ok F sc_Machine_ends (fun _ _ _ _ _ _ us hl => match us, hl with | [_], _ => rfl) (fun vs H Q E h => len_Machine_ends h) (fun cdv A outer s H vs Q E hg hr h => ⟨t_Machine_ends K (fun cls d _ H => E cls d H), (pss_one (ps_ret (pe_callTy call_gtuple (by rfl) b_tuple (by decide +kernel) (pa_cons (pe_callB (call_gsortedK rfl hr.units) (by rfl) b_sorted (by decide +kernel) (pa_cons (pe_fld (pv 0) rfl) pa_nil)) pa_nil)))), pure_Machine_ends MC h⟩)
theorem ok_Machine_twin {f : Addr} {fd : FuncData} (F : FunD K "twin" "Machine.twin" (defArgs s_Machine_twin) (defBody s_Machine_twin) (defScope s_Machine_twin) [] [] f fd)
    (MC : MCls K)
    (C_Machine : Cls K (He.ga K "Machine"))
    (G_Machine___init__ : Gn P w K mg base 3 (He.ma K (He.ga K "Machine") "__init__") 3 (sp_Machine___init__ K))
    (G_Machine_add_edge : Gn P w K mg base 4 (He.ma K (He.ga K "Machine") "add_edge") 4 (sp_Machine_add_edge K))
    (G_Machine_add_end : Gn P w K mg base 4 (He.ma K (He.ga K "Machine") "add_end") 2 (sp_Machine_add_end K))
    (G_Machine_add_start : Gn P w K mg base 4 (He.ma K (He.ga K "Machine") "add_start") 2 (sp_Machine_add_start K))
    (G_Machine_edges : Gn P w K mg base 1 (He.ma K (He.ga K "Machine") "edges") 1 (sp_Machine_edges K))
    (G_Machine_ends : Gn P w K mg base 1 (He.ma K (He.ga K "Machine") "ends") 1 (sp_Machine_ends K))
    (G_Machine_starts : Gn P w K mg base 1 (He.ma K (He.ga K "Machine") "starts") 1 (sp_Machine_starts K))
    (M_Machine : Mk K (He.ga K "Machine") (He.ma K (He.ga K "Machine") "__init__"))
    (M_Machine_add_edge : Meth K (He.ga K "Machine") "add_edge" (He.ma K (He.ga K "Machine") "add_edge"))
    (M_Machine_add_end : Meth K (He.ga K "Machine") "add_end" (He.ma K (He.ga K "Machine") "add_end"))
    (M_Machine_add_start : Meth K (He.ga K "Machine") "add_start" (He.ma K (He.ga K "Machine") "add_start"))
    (M_Machine_edges : Meth K (He.ga K "Machine") "edges" (He.ma K (He.ga K "Machine") "edges"))
    (M_Machine_ends : Meth K (He.ga K "Machine") "ends" (He.ma K (He.ga K "Machine") "ends"))
    (M_Machine_starts : Meth K (He.ga K "Machine") "starts" (He.ma K (He.ga K "Machine") "starts"))
    (m_Machine : mg "Machine" = some (.ref (He.ga K "Machine"))) : Gn P w K mg base 5 f 1 (sp_Machine_twin K) :=
  gn_ok F sc_Machine_twin (fun _ _ _ _ _ _ us hl => match us, hl with | [_], _ => rfl) (fun vs H Q E h => len_Machine_twin h) (fun cdv A outer s H vs Q E hg hr h => ⟨t_Machine_twin K (fun cls d _ H => E cls d H), (pss_cons (ps_set (i := 1) sc_Machine_twin.nd rfl (by first | exact Or.inl rfl | exact Or.inr rfl) (g_make M_Machine G_Machine___init__ hg (hr.mono (by decide)) (L2.takes_of rfl rfl rfl rfl) rfl m_Machine (pa_cons (pe_fld (pv 0) rfl) (pa_cons (pe_fld (pv 0) rfl) pa_nil))))
  (pss_cons (ps_for (L2.passes_of rfl) rfl (pi_g (g_meth0 (pv 0) C_Machine M_Machine_edges G_Machine_edges hg (hr.mono (by decide)) (L2.takes_of rfl rfl rfl rfl))) (pg_tup rfl (pgs_cons (pg_name (i := 2) sc_Machine_twin.nd rfl (by first | exact Or.inl rfl | exact Or.inr rfl)) (pgs_cons (pg_name (i := 3) sc_Machine_twin.nd rfl (by first | exact Or.inl rfl | exact Or.inr rfl)) (pgs_cons (pg_name (i := 4) sc_Machine_twin.nd rfl (by first | exact Or.inl rfl | exact Or.inr rfl)) pgs_nil)))) (pss_one (ps_expr (g_meth (pv 1) C_Machine M_Machine_add_edge G_Machine_add_edge hg (hr.mono (by decide)) (L2.takes_of rfl rfl rfl rfl) (pa_cons (pv 2) (pa_cons (pv 3) (pa_cons (pv 4) pa_nil)))))))
  (pss_cons (ps_for (L2.passes_of rfl) rfl (pi_g (g_meth0 (pv 0) C_Machine M_Machine_starts G_Machine_starts hg (hr.mono (by decide)) (L2.takes_of rfl rfl rfl rfl))) (pg_name (i := 5) sc_Machine_twin.nd rfl (by first | exact Or.inl rfl | exact Or.inr rfl)) (pss_one (ps_expr (g_meth (pv 1) C_Machine M_Machine_add_start G_Machine_add_start hg (hr.mono (by decide)) (L2.takes_of rfl rfl rfl rfl) (pa_cons (pv 5) pa_nil)))))
  (pss_cons (ps_for (L2.passes_of rfl) rfl (pi_g (g_meth0 (pv 0) C_Machine M_Machine_ends G_Machine_ends hg (hr.mono (by decide)) (L2.takes_of rfl rfl rfl rfl))) (pg_name (i := 5) sc_Machine_twin.nd rfl (by first | exact Or.inl rfl | exact Or.inr rfl)) (pss_one (ps_expr (g_meth (pv 1) C_Machine M_Machine_add_end G_Machine_add_end hg (hr.mono (by decide)) (L2.takes_of rfl rfl rfl rfl) (pa_cons (pv 5) pa_nil)))))
  (pss_one (ps_ret (pv 1))))))), pure_Machine_twin MC h⟩)
theorem ok_twins_of {f : Addr} {fd : FuncData} (F : FunD K "twins_of" "twins_of" (defArgs s_twins_of) (defBody s_twins_of) (defScope s_twins_of) [] [] f fd)
    (C_Machine : Cls K (He.ga K "Machine"))
    (G_Machine_twin : Gn P w K mg base 5 (He.ma K (He.ga K "Machine") "twin") 1 (sp_Machine_twin K))
    (M_Machine_twin : Meth K (He.ga K "Machine") "twin" (He.ma K (He.ga K "Machine") "twin")) : Gn P w K mg base 6 f 1 (sp_twins_of K) :=
  gn_ok F sc_twins_of (fun _ _ _ _ _ _ us hl => match us, hl with | [_], _ => rfl) (fun vs H Q E h => len_twins_of h) (fun cdv A outer s H vs Q E hg hr h => ⟨t_twins_of K (fun cls d _ H => E cls d H), (pss_cons (ps_asg (pv 0) (pg_tup rfl (pgs_cons (pg_name (i := 1) sc_twins_of.nd rfl (by first | exact Or.inl rfl | exact Or.inr rfl)) (pgs_cons (pg_name (i := 2) sc_twins_of.nd rfl (by first | exact Or.inl rfl | exact Or.inr rfl)) pgs_nil))))
  (pss_one (ps_ret (pe_tup (pa_cons (g_meth0 (pv 1) C_Machine M_Machine_twin G_Machine_twin hg (hr.mono (by decide)) (L2.takes_of rfl rfl rfl rfl)) (pa_cons (g_meth0 (pv 2) C_Machine M_Machine_twin G_Machine_twin hg (hr.mono (by decide)) (L2.takes_of rfl rfl rfl rfl)) pa_nil)))))), pure_twins_of h⟩)
theorem ok_KindFollower___init__ {f : Addr} {fd : FuncData} (F : FunD K "__init__" "KindFollower.__init__" (defArgs s_KindFollower___init__) (defBody s_KindFollower___init__) (defScope s_KindFollower___init__) [] [] f fd)
    (KC : KCls K)
    (MC : MCls K)
    (C_Machine : Cls K (He.ga K "Machine"))
    (G_Machine_starts : Gn P w K mg base 1 (He.ma K (He.ga K "Machine") "starts") 1 (sp_Machine_starts K))
    (G_require_pair : Gn P w K mg base 3 (He.ga K "require_pair") 1 (sp_require_pair K))
    (G_twins_of : Gn P w K mg base 6 (He.ga K "twins_of") 1 (sp_twins_of K))
    (M_Machine_starts : Meth K (He.ga K "Machine") "starts" (He.ma K (He.ga K "Machine") "starts"))
    (k_require_pair : PySem.W.keepIn K (.ref (He.ga K "require_pair")) = true)
    (k_twins_of : PySem.W.keepIn K (.ref (He.ga K "twins_of")) = true)
    (m_require_pair : mg "require_pair" = some (.ref (He.ga K "require_pair")))
    (m_twins_of : mg "twins_of" = some (.ref (He.ga K "twins_of"))) : Gn P w K mg base 7 f 2 (sp_KindFollower___init__ K) :=
  gn_ok F sc_KindFollower___init__ (fun _ _ _ _ _ _ us hl => match us, hl with | [_, _], _ => rfl) (fun vs H Q E h => len_KindFollower___init__ h) (fun cdv A outer s H vs Q E hg hr h => ⟨t_KindFollower___init__ K (fun cls d _ H => E cls d H), (pss_cons (ps_expr (g_call G_require_pair hg (hr.mono (by decide)) (L2.takes_of rfl rfl rfl rfl) rfl m_require_pair k_require_pair (pa_cons (pv 1) pa_nil)))
  (pss_cons (ps_fld (pv 0) (g_call G_twins_of hg (hr.mono (by decide)) (L2.takes_of rfl rfl rfl rfl) rfl m_twins_of k_twins_of (pa_cons (pv 1) pa_nil)) rfl)
  (pss_one (ps_fld (pv 0) (pe_lc (own := [("machine", 2)]) (g := (gName 2)) rfl sc_KindFollower___init__.nd (pi_g (pv 1)) (blkOk_by (own := [("machine", 2)]) (N := N_KindFollower___init__) (sc := defScope s_KindFollower___init__) (by decide +kernel)) (fun _ _ _ _ _ => (pg_name (i := 2) sc_KindFollower___init__.nd rfl (by first | exact Or.inl rfl | exact Or.inr rfl))) (fun _ _ _ _ _ => pts_nil) (fun _ _ _ _ _ => (g_meth0 (pv 2) C_Machine M_Machine_starts G_Machine_starts hg (hr.mono (by decide)) takes0))) rfl)))), pure_KindFollower___init__ KC MC h⟩)
theorem ok_Machine__behind {f : Addr} {fd : FuncData} (F : FunD K "_behind" "Machine._behind" (defArgs s_Machine__behind) (defBody s_Machine__behind) (defScope s_Machine__behind) [] [] f fd)
    (MC : MCls K)
    (b_sorted : mg "sorted" = none)
    (b_tuple : mg "tuple" = none) : Gn P w K mg base 1 f 3 (sp_Machine__behind K) :=
  gn_ok F sc_Machine__behind (fun _ _ _ _ _ _ us hl => match us, hl with | [_, _, _], _ => rfl) (fun vs H Q E h => len_Machine__behind h) (fun cdv A outer s H vs Q E hg hr h => ⟨t_Machine__behind K P w (fun cls d _ H => E cls d H), (pss_one (ps_ret (pe_callTy call_gtuple (by rfl) b_tuple (by decide +kernel) (pa_cons (pe_callB (cr_sortL rfl) (by rfl) b_sorted (by decide +kernel) (pa_cons (pe_lock (pe_set (own := [("origin", 3), ("letter", 4), ("target", 5)]) (g := (gTup K 3 (gCons (gName 3) (gCons (gName 4) (gCons (gName 5) gNil))))) si_ok hr.units rfl sc_Machine__behind.nd (pi_keys (pe_fld (pv 0) rfl)) (blkOk_by (own := [("origin", 3), ("letter", 4), ("target", 5)]) (N := N_Machine__behind) (sc := defScope s_Machine__behind) (by decide +kernel)) (fun _ _ _ _ _ => (pg_tup rfl (pgs_cons (pg_name (i := 3) sc_Machine__behind.nd rfl (by first | exact Or.inl rfl | exact Or.inr rfl)) (pgs_cons (pg_name (i := 4) sc_Machine__behind.nd rfl (by first | exact Or.inl rfl | exact Or.inr rfl)) (pgs_cons (pg_name (i := 5) sc_Machine__behind.nd rfl (by first | exact Or.inl rfl | exact Or.inr rfl)) pgs_nil))))) (fun _ _ _ _ _ => (pts_one (PW.pt (pw_and (pt_cmpR (op_geq hr.units) (pv 4) (pv 2) (nomark _)) (pw_and1 (pt_cmpR (op_gin hr.units) (pv 3) (pv 1) rfl)))))) (fun _ _ _ _ _ => (pv 5)))) pa_nil)) pa_nil)))), pure_Machine__behind MC h⟩)
theorem ok_Machine_states_behind {f : Addr} {fd : FuncData} (F : FunD K "states_behind" "Machine.states_behind" (defArgs s_Machine_states_behind) (defBody s_Machine_states_behind) (defScope s_Machine_states_behind) [] [] f fd)
    (MC : MCls K)
    (C_Machine : Cls K (He.ga K "Machine"))
    (G_Machine__behind : Gn P w K mg base 1 (He.ma K (He.ga K "Machine") "_behind") 3 (sp_Machine__behind K))
    (M_Machine__behind : Meth K (He.ga K "Machine") "_behind" (He.ma K (He.ga K "Machine") "_behind")) : Gn P w K mg base 2 f 3 (sp_Machine_states_behind K) :=
  gn_ok F sc_Machine_states_behind (fun _ _ _ _ _ _ us hl => match us, hl with | [_, _, _], _ => rfl) (fun vs H Q E h => len_Machine_states_behind h) (fun cdv A outer s H vs Q E hg hr h => ⟨t_Machine_states_behind K (fun cls d _ H => E cls d H), (pss_cons (ps_for (L2.passes_of rfl) rfl (pi_g (pv 2)) (pg_name (i := 3) sc_Machine_states_behind.nd rfl (by first | exact Or.inl rfl | exact Or.inr rfl)) (pss_one (ps_set (i := 1) sc_Machine_states_behind.nd rfl (by first | exact Or.inl rfl | exact Or.inr rfl) (g_meth (pv 0) C_Machine M_Machine__behind G_Machine__behind hg (hr.mono (by decide)) (L2.takes_of rfl rfl rfl rfl) (pa_cons (pv 1) (pa_cons (pv 3) pa_nil))))))
  (pss_one (ps_ret (pv 1)))), pure_Machine_states_behind MC h⟩)
theorem ok_KindFollower_read {f : Addr} {fd : FuncData} (F : FunD K "read" "KindFollower.read" (defArgs s_KindFollower_read) (defBody s_KindFollower_read) (defScope s_KindFollower_read) [] [] f fd)
    (KC : KCls K)
    (MC : MCls K)
    (C_Machine : Cls K (He.ga K "Machine"))
    (G_Machine_states_behind : Gn P w K mg base 2 (He.ma K (He.ga K "Machine") "states_behind") 3 (sp_Machine_states_behind K))
    (G_require_sign : Gn P w K mg base 3 (He.ga K "require_sign") 2 (sp_require_sign K))
    (M_Machine_states_behind : Meth K (He.ga K "Machine") "states_behind" (He.ma K (He.ga K "Machine") "states_behind"))
    (b_zip : mg "zip" = none)
    (k_require_sign : PySem.W.keepIn K (.ref (He.ga K "require_sign")) = true)
    (m_require_sign : mg "require_sign" = some (.ref (He.ga K "require_sign"))) : Gn P w K mg base 4 f 2 (sp_KindFollower_read K) :=
  gn_ok F sc_KindFollower_read (fun _ _ _ _ _ _ us hl => match us, hl with | [_, _], _ => rfl) (fun vs H Q E h => len_KindFollower_read h) (fun cdv A outer s H vs Q E hg hr h => ⟨t_KindFollower_read K (fun cls d _ H => E cls d H), (pss_cons (ps_expr (g_call G_require_sign hg (hr.mono (by decide)) (L2.takes_of rfl rfl rfl rfl) rfl m_require_sign k_require_sign (pa_cons (pv 1) (pa_cons (pe_fld (pe_ix ix_seq (pe_fld (pv 0) rfl) pe_int (fun _ _ => rfl)) rfl) pa_nil))))
  (pss_one (ps_fld (pv 0) (pe_lc (own := [("machine", 2), ("states", 3)]) (g := (gTup K 2 (gCons (gName 2) (gCons (gName 3) gNil)))) rfl sc_KindFollower_read.nd (pi_gzip (by rfl) b_zip (pa_cons (pe_fld (pv 0) rfl) (pa_cons (pe_fld (pv 0) rfl) pa_nil))) (blkOk_by (own := [("machine", 2), ("states", 3)]) (N := N_KindFollower_read) (sc := defScope s_KindFollower_read) (by decide +kernel)) (fun _ _ _ _ _ => (pg_tup rfl (pgs_cons (pg_name (i := 2) sc_KindFollower_read.nd rfl (by first | exact Or.inl rfl | exact Or.inr rfl)) (pgs_cons (pg_name (i := 3) sc_KindFollower_read.nd rfl (by first | exact Or.inl rfl | exact Or.inr rfl)) pgs_nil)))) (fun _ _ _ _ _ => pts_nil) (fun _ _ _ _ _ => (g_meth (pv 2) C_Machine M_Machine_states_behind G_Machine_states_behind hg (hr.mono (by decide)) takes0 (pa_cons (pv 3) (pa_cons (pv 1) pa_nil))))) rfl))), pure_KindFollower_read KC MC h⟩)
theorem ok_Machine_holds_end {f : Addr} {fd : FuncData} (F : FunD K "holds_end" "Machine.holds_end" (defArgs s_Machine_holds_end) (defBody s_Machine_holds_end) (defScope s_Machine_holds_end) [] [] f fd)
    (MC : MCls K)
    (b_any : mg "any" = none) : Gn P w K mg base 1 f 2 (sp_Machine_holds_end K) :=
  gn_ok F sc_Machine_holds_end (fun _ _ _ _ _ _ us hl => match us, hl with | [_, _], _ => rfl) (fun vs H Q E h => len_Machine_holds_end h) (fun cdv A outer s H vs Q E hg hr h => ⟨t_Machine_holds_end K (fun cls d _ H => E cls d H), (pss_one (ps_ret (pe_callB (cr_any rfl) (by rfl) b_any (by decide +kernel) (pa_cons (pe_lc (own := [("state", 2)]) (g := (gName 2)) rfl sc_Machine_holds_end.nd (pi_g (pv 1)) (blkOk_by (own := [("state", 2)]) (N := N_Machine_holds_end) (sc := defScope s_Machine_holds_end) (by decide +kernel)) (fun _ _ _ _ _ => (pg_name (i := 2) sc_Machine_holds_end.nd rfl (by first | exact Or.inl rfl | exact Or.inr rfl))) (fun _ _ _ _ _ => pts_nil) (fun _ _ _ _ _ => (pe_cmp (pc_din (Nat.lt_trans (Nat.add_lt_add_left (show 1 < 64 by decide) _) hr.units) (pv 2) (pe_fld (pv 0) rfl))))) pa_nil)))), pure_Machine_holds_end MC h⟩)
theorem ok_KindFollower_is_now {f : Addr} {fd : FuncData} (F : FunD K "is_now" "KindFollower.is_now" (defArgs s_KindFollower_is_now) (defBody s_KindFollower_is_now) (defScope s_KindFollower_is_now) [] [] f fd)
    (KC : KCls K)
    (C_Machine : Cls K (He.ga K "Machine"))
    (G_Machine_holds_end : Gn P w K mg base 1 (He.ma K (He.ga K "Machine") "holds_end") 2 (sp_Machine_holds_end K))
    (M_Machine_holds_end : Meth K (He.ga K "Machine") "holds_end" (He.ma K (He.ga K "Machine") "holds_end"))
    (b_tuple : mg "tuple" = none)
    (b_zip : mg "zip" = none)
    (m_KINDS : ∃ t, mg "KINDS" = some (.str "AB" t)) : Gn P w K mg base 2 f 1 (sp_KindFollower_is_now K) :=
  gn_ok F sc_KindFollower_is_now (fun _ _ _ _ _ _ us hl => match us, hl with | [_], _ => rfl) (fun vs H Q E h => len_KindFollower_is_now h) (fun cdv A outer s H vs Q E hg hr h => ⟨t_KindFollower_is_now K (fun cls d _ H => E cls d H), (pss_one (ps_ret (pe_callTy call_gtuple (by rfl) b_tuple (by decide +kernel) (pa_cons (pe_lc (own := [("kind", 1), ("machine", 2), ("states", 3)]) (g := (gTup K 3 (gCons (gName 1) (gCons (gName 2) (gCons (gName 3) gNil))))) rfl sc_KindFollower_is_now.nd (pi_gzip3 (by rfl) b_zip (pa_cons (pe_glob rfl m_KINDS.choose_spec ⟨_, rfl⟩) (pa_cons (pe_fld (pv 0) rfl) (pa_cons (pe_fld (pv 0) rfl) pa_nil)))) (blkOk_by (own := [("kind", 1), ("machine", 2), ("states", 3)]) (N := N_KindFollower_is_now) (sc := defScope s_KindFollower_is_now) (by decide +kernel)) (fun _ _ _ _ _ => (pg_tup rfl (pgs_cons (pg_name (i := 1) sc_KindFollower_is_now.nd rfl (by first | exact Or.inl rfl | exact Or.inr rfl)) (pgs_cons (pg_name (i := 2) sc_KindFollower_is_now.nd rfl (by first | exact Or.inl rfl | exact Or.inr rfl)) (pgs_cons (pg_name (i := 3) sc_KindFollower_is_now.nd rfl (by first | exact Or.inl rfl | exact Or.inr rfl)) pgs_nil))))) (fun _ _ _ _ _ => (pts_one (pt_truth (g_meth (pv 2) C_Machine M_Machine_holds_end G_Machine_holds_end hg (hr.mono (by decide)) takes0 (pa_cons (pv 3) pa_nil)) (by intro _; rfl)))) (fun _ _ _ _ _ => (pv 1))) pa_nil)))), pure_KindFollower_is_now KC h⟩)
theorem ok_Machine_states_beyond {f : Addr} {fd : FuncData} (F : FunD K "states_beyond" "Machine.states_beyond" (defArgs s_Machine_states_beyond) (defBody s_Machine_states_beyond) (defScope s_Machine_states_beyond) [] [] f fd)
    (MC : MCls K)
    (C_Machine : Cls K (He.ga K "Machine"))
    (G_Machine_edges : Gn P w K mg base 1 (He.ma K (He.ga K "Machine") "edges") 1 (sp_Machine_edges K))
    (M_Machine_edges : Meth K (He.ga K "Machine") "edges" (He.ma K (He.ga K "Machine") "edges"))
    (b_len : mg "len" = none)
    (b_list : mg "list" = none)
    (b_sorted : mg "sorted" = none)
    (b_tuple : mg "tuple" = none) : Gn P w K mg base 2 f 2 (sp_Machine_states_beyond K) :=
  gn_ok F sc_Machine_states_beyond (fun _ _ _ _ _ _ us hl => match us, hl with | [_, _], _ => rfl) (fun vs H Q E h => len_Machine_states_beyond h) (fun cdv A outer s H vs Q E hg hr h => ⟨t_Machine_states_beyond K (fun cls d _ H => E cls d H), (pss_cons (ps_set (i := 2) sc_Machine_states_beyond.nd rfl (by first | exact Or.inl rfl | exact Or.inr rfl) (pe_callTy call_glist (by rfl) b_list (by decide +kernel) (pa_cons (pv 1) pa_nil)))
  (pss_cons (ps_set (i := 3) sc_Machine_states_beyond.nd rfl (by first | exact Or.inl rfl | exact Or.inr rfl) pe_int)
  (pss_cons (ps_while (L2.passes_of rfl) (pt_cmpR op_lt (pv 3) (pe_callB call_len (by rfl) b_len PySem.boot_len (pa_cons (pv 2) pa_nil)) (nomark _)) (pss_cons (ps_for (L2.passes_of rfl) rfl (pi_g (g_meth0 (pv 0) C_Machine M_Machine_edges G_Machine_edges hg (hr.mono (by decide)) (L2.takes_of rfl rfl rfl rfl))) (pg_tup rfl (pgs_cons (pg_name (i := 4) sc_Machine_states_beyond.nd rfl (by first | exact Or.inl rfl | exact Or.inr rfl)) (pgs_cons (pg_name (i := 5) sc_Machine_states_beyond.nd rfl (by first | exact Or.inl rfl | exact Or.inr rfl)) (pgs_cons (pg_name (i := 6) sc_Machine_states_beyond.nd rfl (by first | exact Or.inl rfl | exact Or.inr rfl)) pgs_nil)))) (pss_one (ps_if (PW.pt (pw_and (pt_cmpR (op_geq hr.units) (pv 4) (pe_ix ix_seq (pv 2) (pv 3) (fun _ _ => rfl)) (nomark _)) (pw_and1 (pt_cmpR (op_gnotin hr.units) (pv 6) (pv 2) rfl)))) (pss_one (ps_expr (pe_bm PySem.F.plainAttrs_list PySem.F.slot_list_append PySem.F.type_list_append mt_append (pv 2) (pa_cons (pv 6) pa_nil)))) pss_nil)))
  (pss_one (ps_aug (i := 3) sc_Machine_states_beyond.nd rfl (by first | exact Or.inl rfl | exact Or.inr rfl) pe_int ip_add))))
  (pss_one (ps_ret (pe_callTy call_gtuple (by rfl) b_tuple (by decide +kernel) (pa_cons (pe_callB (call_gsorted hr.units) (by rfl) b_sorted (by decide +kernel) (pa_cons (pv 2) pa_nil)) pa_nil))))))), pure_Machine_states_beyond MC h⟩)
theorem ok_KindFollower_can_become {f : Addr} {fd : FuncData} (F : FunD K "can_become" "KindFollower.can_become" (defArgs s_KindFollower_can_become) (defBody s_KindFollower_can_become) (defScope s_KindFollower_can_become) [] [] f fd)
    (KC : KCls K)
    (C_Machine : Cls K (He.ga K "Machine"))
    (G_Machine_holds_end : Gn P w K mg base 1 (He.ma K (He.ga K "Machine") "holds_end") 2 (sp_Machine_holds_end K))
    (G_Machine_states_beyond : Gn P w K mg base 2 (He.ma K (He.ga K "Machine") "states_beyond") 2 (sp_Machine_states_beyond K))
    (M_Machine_holds_end : Meth K (He.ga K "Machine") "holds_end" (He.ma K (He.ga K "Machine") "holds_end"))
    (M_Machine_states_beyond : Meth K (He.ga K "Machine") "states_beyond" (He.ma K (He.ga K "Machine") "states_beyond"))
    (b_tuple : mg "tuple" = none)
    (b_zip : mg "zip" = none)
    (m_KINDS : ∃ t, mg "KINDS" = some (.str "AB" t)) : Gn P w K mg base 3 f 1 (sp_KindFollower_can_become K) :=
  gn_ok F sc_KindFollower_can_become (fun _ _ _ _ _ _ us hl => match us, hl with | [_], _ => rfl) (fun vs H Q E h => len_KindFollower_can_become h) (fun cdv A outer s H vs Q E hg hr h => ⟨t_KindFollower_can_become K (fun cls d _ H => E cls d H), (pss_one (ps_ret (pe_callTy call_gtuple (by rfl) b_tuple (by decide +kernel) (pa_cons (pe_lc (own := [("kind", 1), ("machine", 2), ("states", 3)]) (g := (gTup K 3 (gCons (gName 1) (gCons (gName 2) (gCons (gName 3) gNil))))) rfl sc_KindFollower_can_become.nd (pi_gzip3 (by rfl) b_zip (pa_cons (pe_glob rfl m_KINDS.choose_spec ⟨_, rfl⟩) (pa_cons (pe_fld (pv 0) rfl) (pa_cons (pe_fld (pv 0) rfl) pa_nil)))) (blkOk_by (own := [("kind", 1), ("machine", 2), ("states", 3)]) (N := N_KindFollower_can_become) (sc := defScope s_KindFollower_can_become) (by decide +kernel)) (fun _ _ _ _ _ => (pg_tup rfl (pgs_cons (pg_name (i := 1) sc_KindFollower_can_become.nd rfl (by first | exact Or.inl rfl | exact Or.inr rfl)) (pgs_cons (pg_name (i := 2) sc_KindFollower_can_become.nd rfl (by first | exact Or.inl rfl | exact Or.inr rfl)) (pgs_cons (pg_name (i := 3) sc_KindFollower_can_become.nd rfl (by first | exact Or.inl rfl | exact Or.inr rfl)) pgs_nil))))) (fun _ _ _ _ _ => (pts_one (pt_truth (g_meth (pv 2) C_Machine M_Machine_holds_end G_Machine_holds_end hg (hr.mono (by decide)) takes0 (pa_cons (g_meth (pv 2) C_Machine M_Machine_states_beyond G_Machine_states_beyond hg (hr.mono (by decide)) takes0 (pa_cons (pv 3) pa_nil)) pa_nil)) (by intro _; rfl)))) (fun _ _ _ _ _ => (pv 1))) pa_nil)))), pure_KindFollower_can_become KC h⟩)
theorem ok__law_stepped {f : Addr} {fd : FuncData} (F : FunD K "_law_stepped" "_law_stepped" (defArgs s__law_stepped) (defBody s__law_stepped) (defScope s__law_stepped) [] [] f fd)
    (b_set : mg "set" = none)
    (b_sorted : mg "sorted" = none) : Gn P w K mg base 1 f 3 (sp__law_stepped K) :=
  gn_ok F sc__law_stepped (fun _ _ _ _ _ _ us hl => match us, hl with | [_, _, _], _ => rfl) (fun vs H Q E h => len__law_stepped h) (fun cdv A outer s H vs Q E hg hr h => ⟨t__law_stepped K P w (fun cls d _ H => E cls d H), (pss_one (ps_ret (pe_callB (cr_sortL rfl) (by rfl) b_sorted (by decide +kernel) (pa_cons (pe_callTy (cr_setL rfl) (by rfl) b_set (by decide +kernel) (pa_cons (pe_lc (own := [("origin", 3), ("letter", 4), ("target", 5)]) (g := (gTup K 3 (gCons (gName 3) (gCons (gName 4) (gCons (gName 5) gNil))))) rfl sc__law_stepped.nd (pi_g (pe_ix ix_seq (pv 0) pe_int (fun _ _ => rfl))) (blkOk_by (own := [("origin", 3), ("letter", 4), ("target", 5)]) (N := N__law_stepped) (sc := defScope s__law_stepped) (by decide +kernel)) (fun _ _ _ _ _ => (pg_tup rfl (pgs_cons (pg_name (i := 3) sc__law_stepped.nd rfl (by first | exact Or.inl rfl | exact Or.inr rfl)) (pgs_cons (pg_name (i := 4) sc__law_stepped.nd rfl (by first | exact Or.inl rfl | exact Or.inr rfl)) (pgs_cons (pg_name (i := 5) sc__law_stepped.nd rfl (by first | exact Or.inl rfl | exact Or.inr rfl)) pgs_nil))))) (fun _ _ _ _ _ => (pts_one (PW.pt (pw_and (pt_cmpR (op_geq hr.units) (pv 4) (pv 2) (nomark _)) (pw_and1 (pt_cmpR (op_gin hr.units) (pv 3) (pv 1) rfl)))))) (fun _ _ _ _ _ => (pv 5))) pa_nil)) pa_nil)))), pure__law_stepped h⟩)
theorem ok__law_states {f : Addr} {fd : FuncData} (F : FunD K "_law_states" "_law_states" (defArgs s__law_states) (defBody s__law_states) (defScope s__law_states) [] [] f fd)
    (G__law_stepped : Gn P w K mg base 1 (He.ga K "_law_stepped") 3 (sp__law_stepped K))
    (b_set : mg "set" = none)
    (b_sorted : mg "sorted" = none)
    (k__law_stepped : PySem.W.keepIn K (.ref (He.ga K "_law_stepped")) = true)
    (m__law_stepped : mg "_law_stepped" = some (.ref (He.ga K "_law_stepped"))) : Gn P w K mg base 2 f 2 (sp__law_states K) :=
  gn_ok F sc__law_states (fun _ _ _ _ _ _ us hl => match us, hl with | [_, _], _ => rfl) (fun vs H Q E h => len__law_states h) (fun cdv A outer s H vs Q E hg hr h => ⟨t__law_states K P w (fun cls d _ H => E cls d H), (pss_cons (ps_set (i := 2) sc__law_states.nd rfl (by first | exact Or.inl rfl | exact Or.inr rfl) (pe_callB (cr_sortL rfl) (by rfl) b_sorted (by decide +kernel) (pa_cons (pe_callTy (cr_setL rfl) (by rfl) b_set (by decide +kernel) (pa_cons (pe_ix ix_seq (pv 0) pe_int (fun _ _ => rfl)) pa_nil)) pa_nil)))
  (pss_cons (ps_for (L2.passes_of rfl) rfl (pi_g (pv 1)) (pg_name (i := 3) sc__law_states.nd rfl (by first | exact Or.inl rfl | exact Or.inr rfl)) (pss_one (ps_set (i := 2) sc__law_states.nd rfl (by first | exact Or.inl rfl | exact Or.inr rfl) (g_call G__law_stepped hg (hr.mono (by decide)) (L2.takes_of rfl rfl rfl rfl) rfl m__law_stepped k__law_stepped (pa_cons (pv 0) (pa_cons (pv 2) (pa_cons (pv 3) pa_nil)))))))
  (pss_one (ps_ret (pv 2))))), pure__law_states h⟩)
theorem ok__law_has {f : Addr} {fd : FuncData} (F : FunD K "_law_has" "_law_has" (defArgs s__law_has) (defBody s__law_has) (defScope s__law_has) [] [] f fd)
    (G__law_states : Gn P w K mg base 2 (He.ga K "_law_states") 2 (sp__law_states K))
    (k__law_states : PySem.W.keepIn K (.ref (He.ga K "_law_states")) = true)
    (m__law_states : mg "_law_states" = some (.ref (He.ga K "_law_states"))) : Gn P w K mg base 3 f 2 (sp__law_has K) :=
  gn_ok F sc__law_has (fun _ _ _ _ _ _ us hl => match us, hl with | [_, _], _ => rfl) (fun vs H Q E h => len__law_has h) (fun cdv A outer s H vs Q E hg hr h => ⟨t__law_has K (fun cls d _ H => E cls d H), (pss_one (ps_ret (pe_cmpR (op_gne hr.units) (pe_lc (own := [("state", 2)]) (g := (gName 2)) rfl sc__law_has.nd (pi_g (g_call G__law_states hg (hr.mono (by decide)) (L2.takes_of rfl rfl rfl rfl) rfl m__law_states k__law_states (pa_cons (pv 0) (pa_cons (pv 1) pa_nil)))) (blkOk_by (own := [("state", 2)]) (N := N__law_has) (sc := defScope s__law_has) (by decide +kernel)) (fun _ _ _ _ _ => (pg_name (i := 2) sc__law_has.nd rfl (by first | exact Or.inl rfl | exact Or.inr rfl))) (fun _ _ _ _ _ => (pts_one (pt_cmpR (op_gin hr.units) (pv 2) (pe_ix ix_seq (pv 0) pe_int (fun _ _ => rfl)) rfl))) (fun _ _ _ _ _ => (pv 2))) (pe_lst pa_nil) (nomark _)))), pure__law_has h⟩)
theorem ok__law_can {f : Addr} {fd : FuncData} (F : FunD K "_law_can" "_law_can" (defArgs s__law_can) (defBody s__law_can) (defScope s__law_can) [] [] f fd)
    (G__law_stepped : Gn P w K mg base 1 (He.ga K "_law_stepped") 3 (sp__law_stepped K))
    (b_list : mg "list" = none)
    (b_range : mg "range" = none)
    (b_set : mg "set" = none)
    (b_sorted : mg "sorted" = none)
    (k__law_stepped : PySem.W.keepIn K (.ref (He.ga K "_law_stepped")) = true)
    (m__law_stepped : mg "_law_stepped" = some (.ref (He.ga K "_law_stepped"))) : Gn P w K mg base 2 f 3 (sp__law_can K) :=
  gn_ok F sc__law_can (fun _ _ _ _ _ _ us hl => match us, hl with | [_, _, _], _ => rfl) (fun vs H Q E h => len__law_can h) (fun cdv A outer s H vs Q E hg hr h => ⟨t__law_can K P w (fun cls d _ H => E cls d H), (pss_cons (ps_set (i := 3) sc__law_can.nd rfl (by first | exact Or.inl rfl | exact Or.inr rfl) (pe_callTy (call_glistA rfl) (by rfl) b_list (by decide +kernel) (pa_cons (pv 1) pa_nil)))
  (pss_cons (ps_for (L2.passes_of rfl) rfl (pi_range1 rfl b_range (pa_cons (pe_ix ix_seq (pv 0) pe_int (fun _ _ => rfl)) pa_nil)) (pg_name (i := 4) sc__law_can.nd rfl (by first | exact Or.inl rfl | exact Or.inr rfl)) (pss_one (ps_for (L2.passes_of rfl) rfl (pi_g (pe_slice sl_g pe_str po_none (po_some (pv 2)))) (pg_name (i := 5) sc__law_can.nd rfl (by first | exact Or.inl rfl | exact Or.inr rfl)) (pss_one (ps_set (i := 3) sc__law_can.nd rfl (by first | exact Or.inl rfl | exact Or.inr rfl) (pe_callB (cr_sortL rfl) (by rfl) b_sorted (by decide +kernel) (pa_cons (pe_callTy (cr_setL rfl) (by rfl) b_set (by decide +kernel) (pa_cons (pe_op op_gadd (pv 3) (g_call G__law_stepped hg (hr.mono (by decide)) (L2.takes_of rfl rfl rfl rfl) rfl m__law_stepped k__law_stepped (pa_cons (pv 0) (pa_cons (pv 3) (pa_cons (pv 5) pa_nil))))) pa_nil)) pa_nil)))))))
  (pss_one (ps_ret (pe_cmpR (op_gne hr.units) (pe_lc (own := [("state", 6)]) (g := (gName 6)) rfl sc__law_can.nd (pi_g (pv 3)) (blkOk_by (own := [("state", 6)]) (N := N__law_can) (sc := defScope s__law_can) (by decide +kernel)) (fun _ _ _ _ _ => (pg_name (i := 6) sc__law_can.nd rfl (by first | exact Or.inl rfl | exact Or.inr rfl))) (fun _ _ _ _ _ => (pts_one (pt_cmpR (op_gin hr.units) (pv 6) (pe_ix ix_seq (pv 0) pe_int (fun _ _ => rfl)) rfl))) (fun _ _ _ _ _ => (pv 6))) (pe_lst pa_nil) (nomark _)))))), pure__law_can h⟩)
theorem ok_KindFollower_is_settled {f : Addr} {fd : FuncData} (F : FunD K "is_settled" "KindFollower.is_settled" (defArgs s_KindFollower_is_settled) (defBody s_KindFollower_is_settled) (defScope s_KindFollower_is_settled) [] [] f fd)
    (C_KindFollower : Cls K (He.ga K "KindFollower"))
    (G_KindFollower_can_become : Gn P w K mg base 3 (He.ma K (He.ga K "KindFollower") "can_become") 1 (sp_KindFollower_can_become K))
    (M_KindFollower_can_become : Meth K (He.ga K "KindFollower") "can_become" (He.ma K (He.ga K "KindFollower") "can_become"))
    (b_len : mg "len" = none) : Gn P w K mg base 4 f 1 (sp_KindFollower_is_settled K) :=
  gn_ok F sc_KindFollower_is_settled (fun _ _ _ _ _ _ us hl => match us, hl with | [_], _ => rfl) (fun vs H Q E h => len_KindFollower_is_settled h) (fun cdv A outer s H vs Q E hg hr h => ⟨t_KindFollower_is_settled K (fun cls d _ H => E cls d H), (pss_one (ps_ret (pe_cmpR op_le (pe_callB call_len (by rfl) b_len PySem.boot_len (pa_cons (g_meth0 (pv 0) C_KindFollower M_KindFollower_can_become G_KindFollower_can_become hg (hr.mono (by decide)) (L2.takes_of rfl rfl rfl rfl)) pa_nil)) pe_int (nomark _)))), pure_KindFollower_is_settled h⟩)
theorem ok_law {f : Addr} {fd : FuncData} (F : FunD K "law" "law" (defArgs s_law) (defBody s_law) (defScope s_law) [] [] f fd)
    (C_KindFollower : Cls K (He.ga K "KindFollower"))
    (G_KindFollower___init__ : Gn P w K mg base 7 (He.ma K (He.ga K "KindFollower") "__init__") 2 (sp_KindFollower___init__ K))
    (G_KindFollower_can_become : Gn P w K mg base 3 (He.ma K (He.ga K "KindFollower") "can_become") 1 (sp_KindFollower_can_become K))
    (G_KindFollower_is_now : Gn P w K mg base 2 (He.ma K (He.ga K "KindFollower") "is_now") 1 (sp_KindFollower_is_now K))
    (G_KindFollower_is_settled : Gn P w K mg base 4 (He.ma K (He.ga K "KindFollower") "is_settled") 1 (sp_KindFollower_is_settled K))
    (G_KindFollower_read : Gn P w K mg base 4 (He.ma K (He.ga K "KindFollower") "read") 2 (sp_KindFollower_read K))
    (G__law_can : Gn P w K mg base 2 (He.ga K "_law_can") 3 (sp__law_can K))
    (G__law_draw : Gn P w K mg base 2 (He.ga K "_law_draw") 2 (sp__law_draw K))
    (G__law_has : Gn P w K mg base 3 (He.ga K "_law_has") 2 (sp__law_has K))
    (G__law_machine_of : Gn P w K mg base 5 (He.ga K "_law_machine_of") 2 (sp__law_machine_of K))
    (G__law_moved : Gn P w K mg base 5 (He.ga K "_law_moved") 3 (sp__law_moved K))
    (G__law_pen : Gn P w K mg base 1 (He.ga K "_law_pen") 1 (sp__law_pen K))
    (G__law_plan : Gn P w K mg base 3 (He.ga K "_law_plan") 4 (sp__law_plan K))
    (G__law_states : Gn P w K mg base 2 (He.ga K "_law_states") 2 (sp__law_states K))
    (M_KindFollower : Mk K (He.ga K "KindFollower") (He.ma K (He.ga K "KindFollower") "__init__"))
    (M_KindFollower_can_become : Meth K (He.ga K "KindFollower") "can_become" (He.ma K (He.ga K "KindFollower") "can_become"))
    (M_KindFollower_is_now : Meth K (He.ga K "KindFollower") "is_now" (He.ma K (He.ga K "KindFollower") "is_now"))
    (M_KindFollower_is_settled : Meth K (He.ga K "KindFollower") "is_settled" (He.ma K (He.ga K "KindFollower") "is_settled"))
    (M_KindFollower_read : Meth K (He.ga K "KindFollower") "read" (He.ma K (He.ga K "KindFollower") "read"))
    (b_len : mg "len" = none)
    (b_range : mg "range" = none)
    (b_repr : mg "repr" = none)
    (b_tuple : mg "tuple" = none)
    (b_zip : mg "zip" = none)
    (k__law_can : PySem.W.keepIn K (.ref (He.ga K "_law_can")) = true)
    (k__law_draw : PySem.W.keepIn K (.ref (He.ga K "_law_draw")) = true)
    (k__law_has : PySem.W.keepIn K (.ref (He.ga K "_law_has")) = true)
    (k__law_machine_of : PySem.W.keepIn K (.ref (He.ga K "_law_machine_of")) = true)
    (k__law_moved : PySem.W.keepIn K (.ref (He.ga K "_law_moved")) = true)
    (k__law_pen : PySem.W.keepIn K (.ref (He.ga K "_law_pen")) = true)
    (k__law_plan : PySem.W.keepIn K (.ref (He.ga K "_law_plan")) = true)
    (k__law_states : PySem.W.keepIn K (.ref (He.ga K "_law_states")) = true)
    (m_KindFollower : mg "KindFollower" = some (.ref (He.ga K "KindFollower")))
    (m__law_can : mg "_law_can" = some (.ref (He.ga K "_law_can")))
    (m__law_draw : mg "_law_draw" = some (.ref (He.ga K "_law_draw")))
    (m__law_has : mg "_law_has" = some (.ref (He.ga K "_law_has")))
    (m__law_machine_of : mg "_law_machine_of" = some (.ref (He.ga K "_law_machine_of")))
    (m__law_moved : mg "_law_moved" = some (.ref (He.ga K "_law_moved")))
    (m__law_pen : mg "_law_pen" = some (.ref (He.ga K "_law_pen")))
    (m__law_plan : mg "_law_plan" = some (.ref (He.ga K "_law_plan")))
    (m__law_states : mg "_law_states" = some (.ref (He.ga K "_law_states"))) : Gn P w K mg base 9 f 1 (spLaw K) :=
  gn_ok F sc_law (fun _ _ _ _ _ _ us hl => match us, hl with | [_], _ => rfl) (fun vs H Q E h => len_law h) (fun cdv A outer s H vs Q E hg hr h => ⟨t_law K (fun cls d _ H => E cls d H), (pss_cons (ps_set (i := 1) sc_law.nd rfl (by first | exact Or.inl rfl | exact Or.inr rfl) (g_call G__law_pen hg (hr.mono (by decide)) (L2.takes_of rfl rfl rfl rfl) rfl m__law_pen k__law_pen (pa_cons (pv 0) pa_nil)))
  (pss_cons (ps_for (L2.passes_of rfl) rfl (pi_range1 rfl b_range (pa_cons pe_int pa_nil)) (pg_name (i := 2) sc_law.nd rfl (by first | exact Or.inl rfl | exact Or.inr rfl)) (pss_cons (ps_set (i := 3) sc_law.nd rfl (by first | exact Or.inl rfl | exact Or.inr rfl) (pe_op op_gadd pe_int (g_call G__law_draw hg (hr.mono (by decide)) (L2.takes_of rfl rfl rfl rfl) rfl m__law_draw k__law_draw (pa_cons (pv 1) (pa_cons pe_int pa_nil)))))
  (pss_cons (ps_set (i := 4) sc_law.nd rfl (by first | exact Or.inl rfl | exact Or.inr rfl) (pe_lst (pa_cons (g_call G__law_plan hg (hr.mono (by decide)) (L2.takes_of rfl rfl rfl rfl) rfl m__law_plan k__law_plan (pa_cons (pv 1) (pa_cons (pv 3) (pa_cons pe_int (pa_cons pe_int pa_nil))))) (pa_cons (g_call G__law_plan hg (hr.mono (by decide)) (L2.takes_of rfl rfl rfl rfl) rfl m__law_plan k__law_plan (pa_cons (pv 1) (pa_cons (pv 3) (pa_cons pe_int (pa_cons pe_int pa_nil))))) pa_nil))))
  (pss_cons (ps_if (pt_cmpR (op_geq hr.units) (g_call G__law_draw hg (hr.mono (by decide)) (L2.takes_of rfl rfl rfl rfl) rfl m__law_draw k__law_draw (pa_cons (pv 1) (pa_cons pe_int pa_nil))) pe_int (nomark _)) (pss_one (ps_asg (pe_lst pa_nil) (pg_sub (pe_ix ix_seq (pv 4) (g_call G__law_draw hg (hr.mono (by decide)) (L2.takes_of rfl rfl rfl rfl) rfl m__law_draw k__law_draw (pa_cons (pv 1) (pa_cons pe_int pa_nil))) (fun _ _ => rfl)) (pe_op op_gadd pe_int (g_call G__law_draw hg (hr.mono (by decide)) (L2.takes_of rfl rfl rfl rfl) rfl m__law_draw k__law_draw (pa_cons (pv 1) (pa_cons pe_int pa_nil)))) set_list))) pss_nil)
  (pss_cons (ps_set (i := 5) sc_law.nd rfl (by first | exact Or.inl rfl | exact Or.inr rfl) (pe_tup (pa_cons (g_call G__law_machine_of hg (hr.mono (by decide)) (L2.takes_of rfl rfl rfl rfl) rfl m__law_machine_of k__law_machine_of (pa_cons (pv 3) (pa_cons (pe_ix ix_seq (pv 4) pe_int (fun _ _ => rfl)) pa_nil))) (pa_cons (g_call G__law_machine_of hg (hr.mono (by decide)) (L2.takes_of rfl rfl rfl rfl) rfl m__law_machine_of k__law_machine_of (pa_cons (pv 3) (pa_cons (pe_ix ix_seq (pv 4) pe_int (fun _ _ => rfl)) pa_nil))) pa_nil))))
  (pss_cons (ps_if (pt_cmpR (op_geq hr.units) (g_call G__law_draw hg (hr.mono (by decide)) (L2.takes_of rfl rfl rfl rfl) rfl m__law_draw k__law_draw (pa_cons (pv 1) (pa_cons pe_int pa_nil))) pe_int (nomark _)) (pss_one (ps_asg (pe_tup (pa_cons (pe_ix ix_seq (pv 4) pe_int (fun _ _ => rfl)) (pa_cons (pe_tup (pa_cons (pe_ix ix_seq (pv 5) pe_int (fun _ _ => rfl)) (pa_cons (pe_ix ix_seq (pv 5) pe_int (fun _ _ => rfl)) pa_nil))) pa_nil))) (pg_tup rfl (pgs_cons (pg_sub (pv 4) pe_int set_list) (pgs_cons (pg_name (i := 5) sc_law.nd rfl (by first | exact Or.inl rfl | exact Or.inr rfl)) pgs_nil))))) pss_nil)
  (pss_cons (ps_asg (pe_tup (pa_cons (g_make M_KindFollower G_KindFollower___init__ hg (hr.mono (by decide)) (L2.takes_of rfl rfl rfl rfl) rfl m_KindFollower (pa_cons (pv 5) pa_nil)) (pa_cons pe_str pa_nil))) (pg_tup rfl (pgs_cons (pg_name (i := 6) sc_law.nd rfl (by first | exact Or.inl rfl | exact Or.inr rfl)) (pgs_cons (pg_name (i := 7) sc_law.nd rfl (by first | exact Or.inl rfl | exact Or.inr rfl)) pgs_nil))))
  (pss_cons (ps_expr (g_call G__law_moved hg (hr.mono (by decide)) (L2.takes_of rfl rfl rfl rfl) rfl m__law_moved k__law_moved (pa_cons (pv 1) (pa_cons (pe_ix ix_seq (pv 5) (g_call G__law_draw hg (hr.mono (by decide)) (L2.takes_of rfl rfl rfl rfl) rfl m__law_draw k__law_draw (pa_cons (pv 1) (pa_cons pe_int pa_nil))) (fun _ _ => rfl)) (pa_cons (pv 3) pa_nil)))))
  (pss_one (ps_for (L2.passes_of rfl) rfl (pi_range1 rfl b_range (pa_cons (pe_op op_gadd pe_int (g_call G__law_draw hg (hr.mono (by decide)) (L2.takes_of rfl rfl rfl rfl) rfl m__law_draw k__law_draw (pa_cons (pv 1) (pa_cons pe_int pa_nil)))) pa_nil)) (pg_name (i := 8) sc_law.nd rfl (by first | exact Or.inl rfl | exact Or.inr rfl)) (pss_cons (ps_set (i := 9) sc_law.nd rfl (by first | exact Or.inl rfl | exact Or.inr rfl) (pe_callTy call_gtuple (by rfl) b_tuple (by decide +kernel) (pa_cons (pe_lc (own := [("kind", 10), ("plan", 11)]) (g := (gTup K 2 (gCons (gName 10) (gCons (gName 11) gNil)))) rfl sc_law.nd (pi_gzip (by rfl) b_zip (pa_cons pe_str (pa_cons (pv 4) pa_nil))) (blkOk_by (own := [("kind", 10), ("plan", 11)]) (N := N_law) (sc := defScope s_law) (by decide +kernel)) (fun _ _ _ _ _ => (pg_tup rfl (pgs_cons (pg_name (i := 10) sc_law.nd rfl (by first | exact Or.inl rfl | exact Or.inr rfl)) (pgs_cons (pg_name (i := 11) sc_law.nd rfl (by first | exact Or.inl rfl | exact Or.inr rfl)) pgs_nil)))) (fun _ _ _ _ _ => (pts_one (pt_truth (g_call G__law_has hg (hr.mono (by decide)) takes0 rfl m__law_has k__law_has (pa_cons (pv 11) (pa_cons (pv 7) pa_nil))) (by intro _; rfl)))) (fun _ _ _ _ _ => (pv 10))) pa_nil)))
  (pss_cons (ps_set (i := 12) sc_law.nd rfl (by first | exact Or.inl rfl | exact Or.inr rfl) (pe_callTy call_gtuple (by rfl) b_tuple (by decide +kernel) (pa_cons (pe_lc (own := [("kind", 10), ("plan", 11)]) (g := (gTup K 2 (gCons (gName 10) (gCons (gName 11) gNil)))) rfl sc_law.nd (pi_gzip (by rfl) b_zip (pa_cons pe_str (pa_cons (pv 4) pa_nil))) (blkOk_by (own := [("kind", 10), ("plan", 11)]) (N := N_law) (sc := defScope s_law) (by decide +kernel)) (fun _ _ _ _ _ => (pg_tup rfl (pgs_cons (pg_name (i := 10) sc_law.nd rfl (by first | exact Or.inl rfl | exact Or.inr rfl)) (pgs_cons (pg_name (i := 11) sc_law.nd rfl (by first | exact Or.inl rfl | exact Or.inr rfl)) pgs_nil)))) (fun _ _ _ _ _ => (pts_one (pt_truth (g_call G__law_can hg (hr.mono (by decide)) takes0 rfl m__law_can k__law_can (pa_cons (pv 11) (pa_cons (g_call G__law_states hg (hr.mono (by decide)) takes0 rfl m__law_states k__law_states (pa_cons (pv 11) (pa_cons (pv 7) pa_nil))) (pa_cons (pv 3) pa_nil)))) (by intro _; rfl)))) (fun _ _ _ _ _ => (pv 10))) pa_nil)))
  (pss_cons (ps_if (PW.pt (pw_or (pt_cmpR (op_gne hr.units) (g_meth0 (pv 6) C_KindFollower M_KindFollower_is_now G_KindFollower_is_now hg (hr.mono (by decide)) (L2.takes_of rfl rfl rfl rfl)) (pv 9) (nomark _)) (pw_or (pt_cmpR (op_gne hr.units) (g_meth0 (pv 6) C_KindFollower M_KindFollower_can_become G_KindFollower_can_become hg (hr.mono (by decide)) (L2.takes_of rfl rfl rfl rfl)) (pv 12) (nomark _)) (pw_or1 (pt_cmpR (op_gne hr.units) (pe_callB (call_repr hg hr.units) (by rfl) b_repr (by decide +kernel) (pa_cons (g_meth0 (pv 6) C_KindFollower M_KindFollower_is_settled G_KindFollower_is_settled hg (hr.mono (by decide)) (L2.takes_of rfl rfl rfl rfl)) pa_nil)) (pe_callB (call_repr hg hr.units) (by rfl) b_repr (by decide +kernel) (pa_cons (pe_cmpR op_le (pe_callB call_len (by rfl) b_len PySem.boot_len (pa_cons (pv 12) pa_nil)) pe_int (nomark _)) pa_nil)) (nomark _)))))) (pss_one (ps_ret pe_bl)) pss_nil)
  (pss_cons (ps_expr (g_call G__law_moved hg (hr.mono (by decide)) (L2.takes_of rfl rfl rfl rfl) rfl m__law_moved k__law_moved (pa_cons (pv 1) (pa_cons (pe_ix ix_seq (pv 5) (g_call G__law_draw hg (hr.mono (by decide)) (L2.takes_of rfl rfl rfl rfl) rfl m__law_draw k__law_draw (pa_cons (pv 1) (pa_cons pe_int pa_nil))) (fun _ _ => rfl)) (pa_cons (pv 3) pa_nil)))))
  (pss_cons (ps_set (i := 13) sc_law.nd rfl (by first | exact Or.inl rfl | exact Or.inr rfl) (pe_ix ix_seq pe_str (g_call G__law_draw hg (hr.mono (by decide)) (L2.takes_of rfl rfl rfl rfl) rfl m__law_draw k__law_draw (pa_cons (pv 1) (pa_cons (pv 3) pa_nil))) (fun _ _ => rfl)))
  (pss_cons (ps_if (pt_cmpR op_notN (g_meth (pv 6) C_KindFollower M_KindFollower_read G_KindFollower_read hg (hr.mono (by decide)) (L2.takes_of rfl rfl rfl rfl) (pa_cons (pv 13) pa_nil)) pe_non (nomark _)) (pss_one (ps_ret pe_bl)) pss_nil)
  (pss_one (ps_set (i := 7) sc_law.nd rfl (by first | exact Or.inl rfl | exact Or.inr rfl) (pe_op op_gadd (pv 7) (pv 13))))))))))))))))))))
  (pss_one (ps_ret pe_bl)))), pure_law h⟩)
end
def d__law_pen : He.DefD := ⟨("_law_pen", none), "_law_pen", "_law_pen", defArgs s__law_pen, defBody s__law_pen, defScope s__law_pen, [], []⟩
def d_Machine_edges : He.DefD := ⟨("Machine", some "edges"), "edges", "Machine.edges", defArgs s_Machine_edges, defBody s_Machine_edges, defScope s_Machine_edges, [], []⟩
def d_Machine_remove_edge : He.DefD := ⟨("Machine", some "remove_edge"), "remove_edge", "Machine.remove_edge", defArgs s_Machine_remove_edge, defBody s_Machine_remove_edge, defScope s_Machine_remove_edge, [], []⟩
def d__law_fresh : He.DefD := ⟨("_law_fresh", none), "_law_fresh", "_law_fresh", defArgs s__law_fresh, defBody s__law_fresh, defScope s__law_fresh, [], []⟩
def d__law_draw : He.DefD := ⟨("_law_draw", none), "_law_draw", "_law_draw", defArgs s__law_draw, defBody s__law_draw, defScope s__law_draw, [], []⟩
def d_is_between : He.DefD := ⟨("is_between", none), "is_between", "is_between", defArgs s_is_between, defBody s_is_between, defScope s_is_between, [], []⟩
def d_Machine__require_state : He.DefD := ⟨("Machine", some "_require_state"), "_require_state", "Machine._require_state", defArgs s_Machine__require_state, defBody s_Machine__require_state, defScope s_Machine__require_state, [], []⟩
def d_put_in : He.DefD := ⟨("put_in", none), "put_in", "put_in", defArgs s_put_in, defBody s_put_in, defScope s_put_in, [], []⟩
def d_Machine_add_end : He.DefD := ⟨("Machine", some "add_end"), "add_end", "Machine.add_end", defArgs s_Machine_add_end, defBody s_Machine_add_end, defScope s_Machine_add_end, [], []⟩
def d_is_log : He.DefD := ⟨("is_log", none), "is_log", "is_log", defArgs s_is_log, defBody s_is_log, defScope s_is_log, [], []⟩
def d_is_sign : He.DefD := ⟨("is_sign", none), "is_sign", "is_sign", defArgs s_is_sign, defBody s_is_sign, defScope s_is_sign, [], []⟩
def d_require_sign : He.DefD := ⟨("require_sign", none), "require_sign", "require_sign", defArgs s_require_sign, defBody s_require_sign, defScope s_require_sign, [], []⟩
def d_Machine_add_edge : He.DefD := ⟨("Machine", some "add_edge"), "add_edge", "Machine.add_edge", defArgs s_Machine_add_edge, defBody s_Machine_add_edge, defScope s_Machine_add_edge, [], []⟩
def d_take_out : He.DefD := ⟨("take_out", none), "take_out", "take_out", defArgs s_take_out, defBody s_take_out, defScope s_take_out, [], []⟩
def d_Machine_remove_end : He.DefD := ⟨("Machine", some "remove_end"), "remove_end", "Machine.remove_end", defArgs s_Machine_remove_end, defBody s_Machine_remove_end, defScope s_Machine_remove_end, [], []⟩
def d_Machine_add_start : He.DefD := ⟨("Machine", some "add_start"), "add_start", "Machine.add_start", defArgs s_Machine_add_start, defBody s_Machine_add_start, defScope s_Machine_add_start, [], []⟩
def d_Machine_remove_start : He.DefD := ⟨("Machine", some "remove_start"), "remove_start", "Machine.remove_start", defArgs s_Machine_remove_start, defBody s_Machine_remove_start, defScope s_Machine_remove_start, [], []⟩
def d__law_moved : He.DefD := ⟨("_law_moved", none), "_law_moved", "_law_moved", defArgs s__law_moved, defBody s__law_moved, defScope s__law_moved, [], []⟩
def d__law_plan : He.DefD := ⟨("_law_plan", none), "_law_plan", "_law_plan", defArgs s__law_plan, defBody s__law_plan, defScope s__law_plan, [], []⟩
def d_Machine___init__ : He.DefD := ⟨("Machine", some "__init__"), "__init__", "Machine.__init__", defArgs s_Machine___init__, defBody s_Machine___init__, defScope s_Machine___init__, [], []⟩
def d__law_machine_of : He.DefD := ⟨("_law_machine_of", none), "_law_machine_of", "_law_machine_of", defArgs s__law_machine_of, defBody s__law_machine_of, defScope s__law_machine_of, [], []⟩
def d_require_pair : He.DefD := ⟨("require_pair", none), "require_pair", "require_pair", defArgs s_require_pair, defBody s_require_pair, defScope s_require_pair, [], []⟩
def d_Machine_starts : He.DefD := ⟨("Machine", some "starts"), "starts", "Machine.starts", defArgs s_Machine_starts, defBody s_Machine_starts, defScope s_Machine_starts, [], []⟩
def d_Machine_ends : He.DefD := ⟨("Machine", some "ends"), "ends", "Machine.ends", defArgs s_Machine_ends, defBody s_Machine_ends, defScope s_Machine_ends, [], []⟩
def d_Machine_twin : He.DefD := ⟨("Machine", some "twin"), "twin", "Machine.twin", defArgs s_Machine_twin, defBody s_Machine_twin, defScope s_Machine_twin, [], []⟩
def d_twins_of : He.DefD := ⟨("twins_of", none), "twins_of", "twins_of", defArgs s_twins_of, defBody s_twins_of, defScope s_twins_of, [], []⟩
def d_KindFollower___init__ : He.DefD := ⟨("KindFollower", some "__init__"), "__init__", "KindFollower.__init__", defArgs s_KindFollower___init__, defBody s_KindFollower___init__, defScope s_KindFollower___init__, [], []⟩
def d_Machine__behind : He.DefD := ⟨("Machine", some "_behind"), "_behind", "Machine._behind", defArgs s_Machine__behind, defBody s_Machine__behind, defScope s_Machine__behind, [], []⟩
def d_Machine_states_behind : He.DefD := ⟨("Machine", some "states_behind"), "states_behind", "Machine.states_behind", defArgs s_Machine_states_behind, defBody s_Machine_states_behind, defScope s_Machine_states_behind, [], []⟩
def d_KindFollower_read : He.DefD := ⟨("KindFollower", some "read"), "read", "KindFollower.read", defArgs s_KindFollower_read, defBody s_KindFollower_read, defScope s_KindFollower_read, [], []⟩
def d_Machine_holds_end : He.DefD := ⟨("Machine", some "holds_end"), "holds_end", "Machine.holds_end", defArgs s_Machine_holds_end, defBody s_Machine_holds_end, defScope s_Machine_holds_end, [], []⟩
def d_KindFollower_is_now : He.DefD := ⟨("KindFollower", some "is_now"), "is_now", "KindFollower.is_now", defArgs s_KindFollower_is_now, defBody s_KindFollower_is_now, defScope s_KindFollower_is_now, [], []⟩
def d_Machine_states_beyond : He.DefD := ⟨("Machine", some "states_beyond"), "states_beyond", "Machine.states_beyond", defArgs s_Machine_states_beyond, defBody s_Machine_states_beyond, defScope s_Machine_states_beyond, [], []⟩
def d_KindFollower_can_become : He.DefD := ⟨("KindFollower", some "can_become"), "can_become", "KindFollower.can_become", defArgs s_KindFollower_can_become, defBody s_KindFollower_can_become, defScope s_KindFollower_can_become, [], []⟩
def d__law_stepped : He.DefD := ⟨("_law_stepped", none), "_law_stepped", "_law_stepped", defArgs s__law_stepped, defBody s__law_stepped, defScope s__law_stepped, [], []⟩
def d__law_states : He.DefD := ⟨("_law_states", none), "_law_states", "_law_states", defArgs s__law_states, defBody s__law_states, defScope s__law_states, [], []⟩
def d__law_has : He.DefD := ⟨("_law_has", none), "_law_has", "_law_has", defArgs s__law_has, defBody s__law_has, defScope s__law_has, [], []⟩
def d__law_can : He.DefD := ⟨("_law_can", none), "_law_can", "_law_can", defArgs s__law_can, defBody s__law_can, defScope s__law_can, [], []⟩
def d_KindFollower_is_settled : He.DefD := ⟨("KindFollower", some "is_settled"), "is_settled", "KindFollower.is_settled", defArgs s_KindFollower_is_settled, defBody s_KindFollower_is_settled, defScope s_KindFollower_is_settled, [], []⟩
def d_law : He.DefD := ⟨("law", none), "law", "law", defArgs s_law, defBody s_law, defScope s_law, [], []⟩
def d_EdgeExists___init__ : He.DefD := ⟨("EdgeExists", some "__init__"), "__init__", "EdgeExists.__init__", defArgs s_EdgeExists___init__, defBody s_EdgeExists___init__, defScope s_EdgeExists___init__, [], []⟩
def d_LimitExceeded___init__ : He.DefD := ⟨("LimitExceeded", some "__init__"), "__init__", "LimitExceeded.__init__", defArgs s_LimitExceeded___init__, defBody s_LimitExceeded___init__, defScope s_LimitExceeded___init__, [], []⟩
def d_NotALog___init__ : He.DefD := ⟨("NotALog", some "__init__"), "__init__", "NotALog.__init__", defArgs s_NotALog___init__, defBody s_NotALog___init__, defScope s_NotALog___init__, [], []⟩
def d_UnknownEdge___init__ : He.DefD := ⟨("UnknownEdge", some "__init__"), "__init__", "UnknownEdge.__init__", defArgs s_UnknownEdge___init__, defBody s_UnknownEdge___init__, defScope s_UnknownEdge___init__, [], []⟩
def d_UnknownState___init__ : He.DefD := ⟨("UnknownState", some "__init__"), "__init__", "UnknownState.__init__", defArgs s_UnknownState___init__, defBody s_UnknownState___init__, defScope s_UnknownState___init__, [], []⟩
def fn : List He.DefD := [d__law_pen, d_Machine_edges, d_Machine_remove_edge, d__law_fresh, d__law_draw, d_is_between, d_Machine__require_state, d_put_in, d_Machine_add_end, d_is_log, d_is_sign, d_require_sign, d_Machine_add_edge, d_take_out, d_Machine_remove_end, d_Machine_add_start, d_Machine_remove_start, d__law_moved, d__law_plan, d_Machine___init__, d__law_machine_of, d_require_pair, d_Machine_starts, d_Machine_ends, d_Machine_twin, d_twins_of, d_KindFollower___init__, d_Machine__behind, d_Machine_states_behind, d_KindFollower_read, d_Machine_holds_end, d_KindFollower_is_now, d_Machine_states_beyond, d_KindFollower_can_become, d__law_stepped, d__law_states, d__law_has, d__law_can, d_KindFollower_is_settled, d_law, d_EdgeExists___init__, d_LimitExceeded___init__, d_NotALog___init__, d_UnknownEdge___init__, d_UnknownState___init__]
def ex (K : PySem.W.Frag) : Bool := exB "RuntimeError.__new__" bmRE "EdgeExists" "edge" K && exB "OverflowError.__new__" bmOE "LimitExceeded" "limit" K && exB "ValueError.__new__" [.type "ValueError", .type "Exception", .type "BaseException", .type "object"] "NotALog" "value" K && exB "LookupError.__new__" bmLE "UnknownEdge" "edge" K && exB "LookupError.__new__" bmLE "UnknownState" "state" K && ex0 "ValueError.__new__" [.type "ValueError", .type "Exception", .type "BaseException", .type "object"] "Unpaired" K
def fa : List He.Fa := [.free "list", .free "sorted", .free "tuple", .glo "UnknownEdge", .free "len", .free "range", .glo "_law_fresh", .free "bool", .free "int", .free "isinstance", .glo "UnknownState", .glo "is_between", .cls "Machine", .meth "Machine" "_require_state", .glo "put_in", .free "all", .free "str", .str "SIGNS" "abc", .glo "is_log", .glo "NotALog", .glo "is_sign", .glo "EdgeExists", .glo "LimitExceeded", .int "MOST_EDGES" 14, .glo "require_sign", .glo "take_out", .meth "Machine" "add_edge", .meth "Machine" "add_end", .meth "Machine" "add_start", .meth "Machine" "edges", .meth "Machine" "remove_edge", .meth "Machine" "remove_end", .meth "Machine" "remove_start", .glo "_law_draw", .int "MOST_SIGNS" 3, .int "MOST_STATES" 6, .mkr "Machine", .glo "Machine", .glo "Unpaired", .meth "Machine" "ends", .meth "Machine" "starts", .meth "Machine" "twin", .glo "require_pair", .glo "twins_of", .meth "Machine" "_behind", .meth "Machine" "states_behind", .free "zip", .free "any", .meth "Machine" "holds_end", .str "KINDS" "AB", .meth "Machine" "states_beyond", .free "set", .glo "_law_stepped", .glo "_law_states", .cls "KindFollower", .meth "KindFollower" "can_become", .mkr "KindFollower", .meth "KindFollower" "is_now", .meth "KindFollower" "is_settled", .meth "KindFollower" "read", .free "repr", .glo "KindFollower", .glo "_law_can", .glo "_law_has", .glo "_law_machine_of", .glo "_law_moved", .glo "_law_pen", .glo "_law_plan", .glo "law", .noat "Machine" "signs", .noat "Machine" "states", .noat "Machine" "_edges", .noat "Machine" "_starts", .noat "Machine" "_ends", .noat "KindFollower" "_machines", .noat "KindFollower" "_behind"]
abbrev R : PySem.W.OpenRow := PySem.W.OpenLaw.row PySem.Challenge.rw_gaprules_k65_kinds_followed
abbrev hk : PySem.W.Hook := hookX 4 fa fn ex
def ob (s : PySem.W.SharedT) : He.AlD × Bool := obsX 4 fa fn ex (HandSHeadRun.getT s)
theorem ob_eq (s : PySem.W.SharedT) : ob s = hk.obs s.abs := obsX_eq (HandSHeadRun.getT_eq s)
def loose : List Str := "_wall" :: "NotALog" :: "Unpaired" :: "UnknownState" :: "UnknownEdge" :: "EdgeExists" :: "LimitExceeded" :: "SIGNS" :: "is_log" :: "require_sign" :: "is_sign" :: "is_between" :: "MOST_SIGNS" :: "MOST_STATES" :: "MOST_EDGES" :: "KINDS" :: "Machine" :: "put_in" :: "take_out" :: "require_pair" :: "twins_of" :: "KindFollower" :: "_law_pen" :: "_law_fresh" :: "_law_draw" :: "_law_plan" :: "_law_machine_of" :: "_law_stepped" :: "_law_states" :: "_law_has" :: "_law_can" :: "_law_moved" :: []
theorem run (w : World) : HandSHeadRun.RunEq R (PySem.W.view R.prog [38]) hk ob 6000 loose w := by
  intro os
  kernel_rfl
theorem facts {P : Program} {w : World} {K : PySem.W.Frag} {h : Heap} {mg : Str → Option Value} {f : Addr} (X : K.In h) (G : h.Ns mainGlobals mg) (hfa : mg ("law" : Str) = some (.ref f)) (c : He.SaysD fa fn K) (hx : ex K = true) :
    ∀ base : Heap, K.In base → base.Ns mainGlobals mg → Gn P w K mg base 9 f 1 (spLaw K) := by
  obtain ⟨fd__law_pen, F__law_pen⟩ := c.def_ 0 (d := d__law_pen) rfl
  obtain ⟨fd_Machine_edges, F_Machine_edges⟩ := c.def_ 1 (d := d_Machine_edges) rfl
  obtain ⟨fd_Machine_remove_edge, F_Machine_remove_edge⟩ := c.def_ 2 (d := d_Machine_remove_edge) rfl
  obtain ⟨fd__law_fresh, F__law_fresh⟩ := c.def_ 3 (d := d__law_fresh) rfl
  obtain ⟨fd__law_draw, F__law_draw⟩ := c.def_ 4 (d := d__law_draw) rfl
  obtain ⟨fd_is_between, F_is_between⟩ := c.def_ 5 (d := d_is_between) rfl
  obtain ⟨fd_Machine__require_state, F_Machine__require_state⟩ := c.def_ 6 (d := d_Machine__require_state) rfl
  obtain ⟨fd_put_in, F_put_in⟩ := c.def_ 7 (d := d_put_in) rfl
  obtain ⟨fd_Machine_add_end, F_Machine_add_end⟩ := c.def_ 8 (d := d_Machine_add_end) rfl
  obtain ⟨fd_is_log, F_is_log⟩ := c.def_ 9 (d := d_is_log) rfl
  obtain ⟨fd_is_sign, F_is_sign⟩ := c.def_ 10 (d := d_is_sign) rfl
  obtain ⟨fd_require_sign, F_require_sign⟩ := c.def_ 11 (d := d_require_sign) rfl
  obtain ⟨fd_Machine_add_edge, F_Machine_add_edge⟩ := c.def_ 12 (d := d_Machine_add_edge) rfl
  obtain ⟨fd_take_out, F_take_out⟩ := c.def_ 13 (d := d_take_out) rfl
  obtain ⟨fd_Machine_remove_end, F_Machine_remove_end⟩ := c.def_ 14 (d := d_Machine_remove_end) rfl
  obtain ⟨fd_Machine_add_start, F_Machine_add_start⟩ := c.def_ 15 (d := d_Machine_add_start) rfl
  obtain ⟨fd_Machine_remove_start, F_Machine_remove_start⟩ := c.def_ 16 (d := d_Machine_remove_start) rfl
  obtain ⟨fd__law_moved, F__law_moved⟩ := c.def_ 17 (d := d__law_moved) rfl
  obtain ⟨fd__law_plan, F__law_plan⟩ := c.def_ 18 (d := d__law_plan) rfl
  obtain ⟨fd_Machine___init__, F_Machine___init__⟩ := c.def_ 19 (d := d_Machine___init__) rfl
  obtain ⟨fd__law_machine_of, F__law_machine_of⟩ := c.def_ 20 (d := d__law_machine_of) rfl
  obtain ⟨fd_require_pair, F_require_pair⟩ := c.def_ 21 (d := d_require_pair) rfl
  obtain ⟨fd_Machine_starts, F_Machine_starts⟩ := c.def_ 22 (d := d_Machine_starts) rfl
  obtain ⟨fd_Machine_ends, F_Machine_ends⟩ := c.def_ 23 (d := d_Machine_ends) rfl
  obtain ⟨fd_Machine_twin, F_Machine_twin⟩ := c.def_ 24 (d := d_Machine_twin) rfl
  obtain ⟨fd_twins_of, F_twins_of⟩ := c.def_ 25 (d := d_twins_of) rfl
  obtain ⟨fd_KindFollower___init__, F_KindFollower___init__⟩ := c.def_ 26 (d := d_KindFollower___init__) rfl
  obtain ⟨fd_Machine__behind, F_Machine__behind⟩ := c.def_ 27 (d := d_Machine__behind) rfl
  obtain ⟨fd_Machine_states_behind, F_Machine_states_behind⟩ := c.def_ 28 (d := d_Machine_states_behind) rfl
  obtain ⟨fd_KindFollower_read, F_KindFollower_read⟩ := c.def_ 29 (d := d_KindFollower_read) rfl
  obtain ⟨fd_Machine_holds_end, F_Machine_holds_end⟩ := c.def_ 30 (d := d_Machine_holds_end) rfl
  obtain ⟨fd_KindFollower_is_now, F_KindFollower_is_now⟩ := c.def_ 31 (d := d_KindFollower_is_now) rfl
  obtain ⟨fd_Machine_states_beyond, F_Machine_states_beyond⟩ := c.def_ 32 (d := d_Machine_states_beyond) rfl
  obtain ⟨fd_KindFollower_can_become, F_KindFollower_can_become⟩ := c.def_ 33 (d := d_KindFollower_can_become) rfl
  obtain ⟨fd__law_stepped, F__law_stepped⟩ := c.def_ 34 (d := d__law_stepped) rfl
  obtain ⟨fd__law_states, F__law_states⟩ := c.def_ 35 (d := d__law_states) rfl
  obtain ⟨fd__law_has, F__law_has⟩ := c.def_ 36 (d := d__law_has) rfl
  obtain ⟨fd__law_can, F__law_can⟩ := c.def_ 37 (d := d__law_can) rfl
  obtain ⟨fd_KindFollower_is_settled, F_KindFollower_is_settled⟩ := c.def_ 38 (d := d_KindFollower_is_settled) rfl
  obtain ⟨fd_law, F_law⟩ := c.def_ 39 (d := d_law) rfl
  obtain ⟨fdi_EdgeExists, Fi_EdgeExists⟩ := c.def_ 40 (d := d_EdgeExists___init__) rfl
  obtain ⟨fdi_LimitExceeded, Fi_LimitExceeded⟩ := c.def_ 41 (d := d_LimitExceeded___init__) rfl
  obtain ⟨fdi_NotALog, Fi_NotALog⟩ := c.def_ 42 (d := d_NotALog___init__) rfl
  obtain ⟨fdi_UnknownEdge, Fi_UnknownEdge⟩ := c.def_ 43 (d := d_UnknownEdge___init__) rfl
  obtain ⟨fdi_UnknownState, Fi_UnknownState⟩ := c.def_ 44 (d := d_UnknownState___init__) rfl
  unfold ex at hx
  simp only [Bool.and_eq_true] at hx
  have T_EdgeExists : ExB "RuntimeError" "RuntimeError.__new__" bmRE K (He.ga K "EdgeExists") (He.ma K (He.ga K "EdgeExists") "__init__") "edge" := exB_ok hx.1.1.1.1.1
  have T_LimitExceeded : ExB "OverflowError" "OverflowError.__new__" bmOE K (He.ga K "LimitExceeded") (He.ma K (He.ga K "LimitExceeded") "__init__") "limit" := exB_ok hx.1.1.1.1.2
  have T_NotALog : ExB "ValueError" "ValueError.__new__" [.type "ValueError", .type "Exception", .type "BaseException", .type "object"] K (He.ga K "NotALog") (He.ma K (He.ga K "NotALog") "__init__") "value" := exB_ok hx.1.1.1.2
  have T_UnknownEdge : ExB "LookupError" "LookupError.__new__" bmLE K (He.ga K "UnknownEdge") (He.ma K (He.ga K "UnknownEdge") "__init__") "edge" := exB_ok hx.1.1.2
  have T_UnknownState : ExB "LookupError" "LookupError.__new__" bmLE K (He.ga K "UnknownState") (He.ma K (He.ga K "UnknownState") "__init__") "state" := exB_ok hx.1.2
  have T_Unpaired : Ex0 "ValueError.__new__" [.type "ValueError", .type "Exception", .type "BaseException", .type "object"] K (He.ga K "Unpaired") := ex0_ok hx.2
  have e := hfa.symm.trans (He.glo_ok X G (c.fact 68 (f := .glo "law") rfl))
  cases e
  intro base _ _
  have MC : MCls K := ⟨He.cls_ok (c.fact 12 (f := .cls "Machine") rfl), He.noat_ok (c.fact 69 (f := .noat "Machine" "signs") rfl), He.noat_ok (c.fact 70 (f := .noat "Machine" "states") rfl), He.noat_ok (c.fact 71 (f := .noat "Machine" "_edges") rfl), He.noat_ok (c.fact 72 (f := .noat "Machine" "_starts") rfl), He.noat_ok (c.fact 73 (f := .noat "Machine" "_ends") rfl)⟩
  have KC : KCls K := ⟨He.cls_ok (c.fact 54 (f := .cls "KindFollower") rfl), He.noat_ok (c.fact 74 (f := .noat "KindFollower" "_machines") rfl), He.noat_ok (c.fact 75 (f := .noat "KindFollower" "_behind") rfl)⟩
  have G__law_pen : Gn P w K mg base 1 (He.ga K "_law_pen") 1 (sp__law_pen K) := ok__law_pen F__law_pen (He.free_ok X G (c.fact 0 (f := .free "list") rfl))
  have G_Machine_edges : Gn P w K mg base 1 (He.ma K (He.ga K "Machine") "edges") 1 (sp_Machine_edges K) := ok_Machine_edges F_Machine_edges MC (He.free_ok X G (c.fact 1 (f := .free "sorted") rfl)) (He.free_ok X G (c.fact 2 (f := .free "tuple") rfl))
  have G_Machine_remove_edge : Gn P w K mg base 3 (He.ma K (He.ga K "Machine") "remove_edge") 4 (sp_Machine_remove_edge K) := ok_Machine_remove_edge F_Machine_remove_edge MC (Fi_UnknownEdge.bindsN fun _ _ _ _ _ _ us hl => match us, hl with | [_, _], _ => rfl) (oki_UnknownEdge Fi_UnknownEdge T_UnknownEdge) T_UnknownEdge (He.glo_ok X G (c.fact 3 (f := .glo "UnknownEdge") rfl))
  have G__law_fresh : Gn P w K mg base 1 (He.ga K "_law_fresh") 1 (sp__law_fresh K) := ok__law_fresh F__law_fresh (He.free_ok X G (c.fact 4 (f := .free "len") rfl)) (He.free_ok X G (c.fact 5 (f := .free "range") rfl))
  have G__law_draw : Gn P w K mg base 2 (He.ga K "_law_draw") 2 (sp__law_draw K) := ok__law_draw F__law_draw G__law_fresh F__law_fresh.kp (He.glo_ok X G (c.fact 6 (f := .glo "_law_fresh") rfl))
  have G_is_between : Gn P w K mg base 1 (He.ga K "is_between") 3 (sp_is_between K) := ok_is_between F_is_between (He.free_ok X G (c.fact 7 (f := .free "bool") rfl)) (He.free_ok X G (c.fact 8 (f := .free "int") rfl)) (He.free_ok X G (c.fact 9 (f := .free "isinstance") rfl))
  have G_Machine__require_state : Gn P w K mg base 3 (He.ma K (He.ga K "Machine") "_require_state") 2 (sp_Machine__require_state K) := ok_Machine__require_state F_Machine__require_state MC (Fi_UnknownState.bindsN fun _ _ _ _ _ _ us hl => match us, hl with | [_, _], _ => rfl) G_is_between (oki_UnknownState Fi_UnknownState T_UnknownState) T_UnknownState F_is_between.kp (He.glo_ok X G (c.fact 10 (f := .glo "UnknownState") rfl)) (He.glo_ok X G (c.fact 11 (f := .glo "is_between") rfl))
  have G_put_in : Gn P w K mg base 1 (He.ga K "put_in") 2 (sp_put_in K) := ok_put_in F_put_in 
  have G_Machine_add_end : Gn P w K mg base 4 (He.ma K (He.ga K "Machine") "add_end") 2 (sp_Machine_add_end K) := ok_Machine_add_end F_Machine_add_end MC (He.cls_ok (c.fact 12 (f := .cls "Machine") rfl)) G_Machine__require_state G_put_in (He.meth_ok (c.fact 13 (f := .meth "Machine" "_require_state") rfl)) F_put_in.kp (He.glo_ok X G (c.fact 14 (f := .glo "put_in") rfl))
  have G_is_log : Gn P w K mg base 1 (He.ga K "is_log") 2 (sp_is_log K) := ok_is_log F_is_log (He.free_ok X G (c.fact 15 (f := .free "all") rfl)) (He.free_ok X G (c.fact 9 (f := .free "isinstance") rfl)) (He.free_ok X G (c.fact 16 (f := .free "str") rfl)) (He.str_ok X G (c.fact 17 (f := .str "SIGNS" "abc") rfl))
  have G_is_sign : Gn P w K mg base 2 (He.ga K "is_sign") 2 (sp_is_sign K) := ok_is_sign F_is_sign G_is_log (He.free_ok X G (c.fact 4 (f := .free "len") rfl)) F_is_log.kp (He.glo_ok X G (c.fact 18 (f := .glo "is_log") rfl))
  have G_require_sign : Gn P w K mg base 3 (He.ga K "require_sign") 2 (sp_require_sign K) := ok_require_sign F_require_sign (Fi_NotALog.bindsN fun _ _ _ _ _ _ us hl => match us, hl with | [_, _], _ => rfl) G_is_sign (oki_NotALog Fi_NotALog T_NotALog) T_NotALog F_is_sign.kp (He.glo_ok X G (c.fact 19 (f := .glo "NotALog") rfl)) (He.glo_ok X G (c.fact 20 (f := .glo "is_sign") rfl))
  have G_Machine_add_edge : Gn P w K mg base 4 (He.ma K (He.ga K "Machine") "add_edge") 4 (sp_Machine_add_edge K) := ok_Machine_add_edge F_Machine_add_edge MC (Fi_EdgeExists.bindsN fun _ _ _ _ _ _ us hl => match us, hl with | [_, _], _ => rfl) (Fi_LimitExceeded.bindsN fun _ _ _ _ _ _ us hl => match us, hl with | [_, _], _ => rfl) (He.cls_ok (c.fact 12 (f := .cls "Machine") rfl)) G_Machine__require_state G_require_sign (oki_EdgeExists Fi_EdgeExists T_EdgeExists) (oki_LimitExceeded Fi_LimitExceeded T_LimitExceeded) (He.meth_ok (c.fact 13 (f := .meth "Machine" "_require_state") rfl)) T_EdgeExists T_LimitExceeded (He.free_ok X G (c.fact 4 (f := .free "len") rfl)) F_require_sign.kp (He.glo_ok X G (c.fact 21 (f := .glo "EdgeExists") rfl)) (He.glo_ok X G (c.fact 22 (f := .glo "LimitExceeded") rfl)) (He.int_ok X G (c.fact 23 (f := .int "MOST_EDGES" 14) rfl)) (He.glo_ok X G (c.fact 24 (f := .glo "require_sign") rfl))
  have G_take_out : Gn P w K mg base 1 (He.ga K "take_out") 2 (sp_take_out K) := ok_take_out F_take_out 
  have G_Machine_remove_end : Gn P w K mg base 4 (He.ma K (He.ga K "Machine") "remove_end") 2 (sp_Machine_remove_end K) := ok_Machine_remove_end F_Machine_remove_end MC (He.cls_ok (c.fact 12 (f := .cls "Machine") rfl)) G_Machine__require_state G_take_out (He.meth_ok (c.fact 13 (f := .meth "Machine" "_require_state") rfl)) F_take_out.kp (He.glo_ok X G (c.fact 25 (f := .glo "take_out") rfl))
  have G_Machine_add_start : Gn P w K mg base 4 (He.ma K (He.ga K "Machine") "add_start") 2 (sp_Machine_add_start K) := ok_Machine_add_start F_Machine_add_start MC (He.cls_ok (c.fact 12 (f := .cls "Machine") rfl)) G_Machine__require_state G_put_in (He.meth_ok (c.fact 13 (f := .meth "Machine" "_require_state") rfl)) F_put_in.kp (He.glo_ok X G (c.fact 14 (f := .glo "put_in") rfl))
  have G_Machine_remove_start : Gn P w K mg base 4 (He.ma K (He.ga K "Machine") "remove_start") 2 (sp_Machine_remove_start K) := ok_Machine_remove_start F_Machine_remove_start MC (He.cls_ok (c.fact 12 (f := .cls "Machine") rfl)) G_Machine__require_state G_take_out (He.meth_ok (c.fact 13 (f := .meth "Machine" "_require_state") rfl)) F_take_out.kp (He.glo_ok X G (c.fact 25 (f := .glo "take_out") rfl))
  have G__law_moved : Gn P w K mg base 5 (He.ga K "_law_moved") 3 (sp__law_moved K) := ok__law_moved F__law_moved MC (He.cls_ok (c.fact 12 (f := .cls "Machine") rfl)) G_Machine_add_edge G_Machine_add_end G_Machine_add_start G_Machine_edges G_Machine_remove_edge G_Machine_remove_end G_Machine_remove_start G__law_draw (He.meth_ok (c.fact 26 (f := .meth "Machine" "add_edge") rfl)) (He.meth_ok (c.fact 27 (f := .meth "Machine" "add_end") rfl)) (He.meth_ok (c.fact 28 (f := .meth "Machine" "add_start") rfl)) (He.meth_ok (c.fact 29 (f := .meth "Machine" "edges") rfl)) (He.meth_ok (c.fact 30 (f := .meth "Machine" "remove_edge") rfl)) (He.meth_ok (c.fact 31 (f := .meth "Machine" "remove_end") rfl)) (He.meth_ok (c.fact 32 (f := .meth "Machine" "remove_start") rfl)) (He.free_ok X G (c.fact 4 (f := .free "len") rfl)) F__law_draw.kp (He.glo_ok X G (c.fact 33 (f := .glo "_law_draw") rfl))
  have G__law_plan : Gn P w K mg base 3 (He.ga K "_law_plan") 4 (sp__law_plan K) := ok__law_plan F__law_plan G__law_draw (He.free_ok X G (c.fact 5 (f := .free "range") rfl)) F__law_draw.kp (He.glo_ok X G (c.fact 33 (f := .glo "_law_draw") rfl))
  have G_Machine___init__ : Gn P w K mg base 3 (He.ma K (He.ga K "Machine") "__init__") 3 (sp_Machine___init__ K) := ok_Machine___init__ F_Machine___init__ MC (Fi_LimitExceeded.bindsN fun _ _ _ _ _ _ us hl => match us, hl with | [_, _], _ => rfl) G_is_between (oki_LimitExceeded Fi_LimitExceeded T_LimitExceeded) T_LimitExceeded F_is_between.kp (He.glo_ok X G (c.fact 22 (f := .glo "LimitExceeded") rfl)) (He.int_ok X G (c.fact 34 (f := .int "MOST_SIGNS" 3) rfl)) (He.int_ok X G (c.fact 35 (f := .int "MOST_STATES" 6) rfl)) (He.glo_ok X G (c.fact 11 (f := .glo "is_between") rfl))
  have G__law_machine_of : Gn P w K mg base 5 (He.ga K "_law_machine_of") 2 (sp__law_machine_of K) := ok__law_machine_of F__law_machine_of (He.cls_ok (c.fact 12 (f := .cls "Machine") rfl)) G_Machine___init__ G_Machine_add_edge G_Machine_add_end G_Machine_add_start (He.mkr_ok (c.fact 36 (f := .mkr "Machine") rfl)) (He.meth_ok (c.fact 26 (f := .meth "Machine" "add_edge") rfl)) (He.meth_ok (c.fact 27 (f := .meth "Machine" "add_end") rfl)) (He.meth_ok (c.fact 28 (f := .meth "Machine" "add_start") rfl)) (He.glo_ok X G (c.fact 37 (f := .glo "Machine") rfl))
  have G_require_pair : Gn P w K mg base 3 (He.ga K "require_pair") 1 (sp_require_pair K) := ok_require_pair F_require_pair MC T_Unpaired (He.glo_ok X G (c.fact 38 (f := .glo "Unpaired") rfl))
  have G_Machine_starts : Gn P w K mg base 1 (He.ma K (He.ga K "Machine") "starts") 1 (sp_Machine_starts K) := ok_Machine_starts F_Machine_starts MC (He.free_ok X G (c.fact 1 (f := .free "sorted") rfl)) (He.free_ok X G (c.fact 2 (f := .free "tuple") rfl))
  have G_Machine_ends : Gn P w K mg base 1 (He.ma K (He.ga K "Machine") "ends") 1 (sp_Machine_ends K) := ok_Machine_ends F_Machine_ends MC (He.free_ok X G (c.fact 1 (f := .free "sorted") rfl)) (He.free_ok X G (c.fact 2 (f := .free "tuple") rfl))
  have G_Machine_twin : Gn P w K mg base 5 (He.ma K (He.ga K "Machine") "twin") 1 (sp_Machine_twin K) := ok_Machine_twin F_Machine_twin MC (He.cls_ok (c.fact 12 (f := .cls "Machine") rfl)) G_Machine___init__ G_Machine_add_edge G_Machine_add_end G_Machine_add_start G_Machine_edges G_Machine_ends G_Machine_starts (He.mkr_ok (c.fact 36 (f := .mkr "Machine") rfl)) (He.meth_ok (c.fact 26 (f := .meth "Machine" "add_edge") rfl)) (He.meth_ok (c.fact 27 (f := .meth "Machine" "add_end") rfl)) (He.meth_ok (c.fact 28 (f := .meth "Machine" "add_start") rfl)) (He.meth_ok (c.fact 29 (f := .meth "Machine" "edges") rfl)) (He.meth_ok (c.fact 39 (f := .meth "Machine" "ends") rfl)) (He.meth_ok (c.fact 40 (f := .meth "Machine" "starts") rfl)) (He.glo_ok X G (c.fact 37 (f := .glo "Machine") rfl))
  have G_twins_of : Gn P w K mg base 6 (He.ga K "twins_of") 1 (sp_twins_of K) := ok_twins_of F_twins_of (He.cls_ok (c.fact 12 (f := .cls "Machine") rfl)) G_Machine_twin (He.meth_ok (c.fact 41 (f := .meth "Machine" "twin") rfl))
  have G_KindFollower___init__ : Gn P w K mg base 7 (He.ma K (He.ga K "KindFollower") "__init__") 2 (sp_KindFollower___init__ K) := ok_KindFollower___init__ F_KindFollower___init__ KC MC (He.cls_ok (c.fact 12 (f := .cls "Machine") rfl)) G_Machine_starts G_require_pair G_twins_of (He.meth_ok (c.fact 40 (f := .meth "Machine" "starts") rfl)) F_require_pair.kp F_twins_of.kp (He.glo_ok X G (c.fact 42 (f := .glo "require_pair") rfl)) (He.glo_ok X G (c.fact 43 (f := .glo "twins_of") rfl))
  have G_Machine__behind : Gn P w K mg base 1 (He.ma K (He.ga K "Machine") "_behind") 3 (sp_Machine__behind K) := ok_Machine__behind F_Machine__behind MC (He.free_ok X G (c.fact 1 (f := .free "sorted") rfl)) (He.free_ok X G (c.fact 2 (f := .free "tuple") rfl))
  have G_Machine_states_behind : Gn P w K mg base 2 (He.ma K (He.ga K "Machine") "states_behind") 3 (sp_Machine_states_behind K) := ok_Machine_states_behind F_Machine_states_behind MC (He.cls_ok (c.fact 12 (f := .cls "Machine") rfl)) G_Machine__behind (He.meth_ok (c.fact 44 (f := .meth "Machine" "_behind") rfl))
  have G_KindFollower_read : Gn P w K mg base 4 (He.ma K (He.ga K "KindFollower") "read") 2 (sp_KindFollower_read K) := ok_KindFollower_read F_KindFollower_read KC MC (He.cls_ok (c.fact 12 (f := .cls "Machine") rfl)) G_Machine_states_behind G_require_sign (He.meth_ok (c.fact 45 (f := .meth "Machine" "states_behind") rfl)) (He.free_ok X G (c.fact 46 (f := .free "zip") rfl)) F_require_sign.kp (He.glo_ok X G (c.fact 24 (f := .glo "require_sign") rfl))
  have G_Machine_holds_end : Gn P w K mg base 1 (He.ma K (He.ga K "Machine") "holds_end") 2 (sp_Machine_holds_end K) := ok_Machine_holds_end F_Machine_holds_end MC (He.free_ok X G (c.fact 47 (f := .free "any") rfl))
  have G_KindFollower_is_now : Gn P w K mg base 2 (He.ma K (He.ga K "KindFollower") "is_now") 1 (sp_KindFollower_is_now K) := ok_KindFollower_is_now F_KindFollower_is_now KC (He.cls_ok (c.fact 12 (f := .cls "Machine") rfl)) G_Machine_holds_end (He.meth_ok (c.fact 48 (f := .meth "Machine" "holds_end") rfl)) (He.free_ok X G (c.fact 2 (f := .free "tuple") rfl)) (He.free_ok X G (c.fact 46 (f := .free "zip") rfl)) (He.str_ok X G (c.fact 49 (f := .str "KINDS" "AB") rfl))
  have G_Machine_states_beyond : Gn P w K mg base 2 (He.ma K (He.ga K "Machine") "states_beyond") 2 (sp_Machine_states_beyond K) := ok_Machine_states_beyond F_Machine_states_beyond MC (He.cls_ok (c.fact 12 (f := .cls "Machine") rfl)) G_Machine_edges (He.meth_ok (c.fact 29 (f := .meth "Machine" "edges") rfl)) (He.free_ok X G (c.fact 4 (f := .free "len") rfl)) (He.free_ok X G (c.fact 0 (f := .free "list") rfl)) (He.free_ok X G (c.fact 1 (f := .free "sorted") rfl)) (He.free_ok X G (c.fact 2 (f := .free "tuple") rfl))
  have G_KindFollower_can_become : Gn P w K mg base 3 (He.ma K (He.ga K "KindFollower") "can_become") 1 (sp_KindFollower_can_become K) := ok_KindFollower_can_become F_KindFollower_can_become KC (He.cls_ok (c.fact 12 (f := .cls "Machine") rfl)) G_Machine_holds_end G_Machine_states_beyond (He.meth_ok (c.fact 48 (f := .meth "Machine" "holds_end") rfl)) (He.meth_ok (c.fact 50 (f := .meth "Machine" "states_beyond") rfl)) (He.free_ok X G (c.fact 2 (f := .free "tuple") rfl)) (He.free_ok X G (c.fact 46 (f := .free "zip") rfl)) (He.str_ok X G (c.fact 49 (f := .str "KINDS" "AB") rfl))
  have G__law_stepped : Gn P w K mg base 1 (He.ga K "_law_stepped") 3 (sp__law_stepped K) := ok__law_stepped F__law_stepped (He.free_ok X G (c.fact 51 (f := .free "set") rfl)) (He.free_ok X G (c.fact 1 (f := .free "sorted") rfl))
  have G__law_states : Gn P w K mg base 2 (He.ga K "_law_states") 2 (sp__law_states K) := ok__law_states F__law_states G__law_stepped (He.free_ok X G (c.fact 51 (f := .free "set") rfl)) (He.free_ok X G (c.fact 1 (f := .free "sorted") rfl)) F__law_stepped.kp (He.glo_ok X G (c.fact 52 (f := .glo "_law_stepped") rfl))
  have G__law_has : Gn P w K mg base 3 (He.ga K "_law_has") 2 (sp__law_has K) := ok__law_has F__law_has G__law_states F__law_states.kp (He.glo_ok X G (c.fact 53 (f := .glo "_law_states") rfl))
  have G__law_can : Gn P w K mg base 2 (He.ga K "_law_can") 3 (sp__law_can K) := ok__law_can F__law_can G__law_stepped (He.free_ok X G (c.fact 0 (f := .free "list") rfl)) (He.free_ok X G (c.fact 5 (f := .free "range") rfl)) (He.free_ok X G (c.fact 51 (f := .free "set") rfl)) (He.free_ok X G (c.fact 1 (f := .free "sorted") rfl)) F__law_stepped.kp (He.glo_ok X G (c.fact 52 (f := .glo "_law_stepped") rfl))
  have G_KindFollower_is_settled : Gn P w K mg base 4 (He.ma K (He.ga K "KindFollower") "is_settled") 1 (sp_KindFollower_is_settled K) := ok_KindFollower_is_settled F_KindFollower_is_settled (He.cls_ok (c.fact 54 (f := .cls "KindFollower") rfl)) G_KindFollower_can_become (He.meth_ok (c.fact 55 (f := .meth "KindFollower" "can_become") rfl)) (He.free_ok X G (c.fact 4 (f := .free "len") rfl))
  have G_law : Gn P w K mg base 9 (He.ga K "law") 1 (spLaw K) := ok_law F_law (He.cls_ok (c.fact 54 (f := .cls "KindFollower") rfl)) G_KindFollower___init__ G_KindFollower_can_become G_KindFollower_is_now G_KindFollower_is_settled G_KindFollower_read G__law_can G__law_draw G__law_has G__law_machine_of G__law_moved G__law_pen G__law_plan G__law_states (He.mkr_ok (c.fact 56 (f := .mkr "KindFollower") rfl)) (He.meth_ok (c.fact 55 (f := .meth "KindFollower" "can_become") rfl)) (He.meth_ok (c.fact 57 (f := .meth "KindFollower" "is_now") rfl)) (He.meth_ok (c.fact 58 (f := .meth "KindFollower" "is_settled") rfl)) (He.meth_ok (c.fact 59 (f := .meth "KindFollower" "read") rfl)) (He.free_ok X G (c.fact 4 (f := .free "len") rfl)) (He.free_ok X G (c.fact 5 (f := .free "range") rfl)) (He.free_ok X G (c.fact 60 (f := .free "repr") rfl)) (He.free_ok X G (c.fact 2 (f := .free "tuple") rfl)) (He.free_ok X G (c.fact 46 (f := .free "zip") rfl)) F__law_can.kp F__law_draw.kp F__law_has.kp F__law_machine_of.kp F__law_moved.kp F__law_pen.kp F__law_plan.kp F__law_states.kp (He.glo_ok X G (c.fact 61 (f := .glo "KindFollower") rfl)) (He.glo_ok X G (c.fact 62 (f := .glo "_law_can") rfl)) (He.glo_ok X G (c.fact 33 (f := .glo "_law_draw") rfl)) (He.glo_ok X G (c.fact 63 (f := .glo "_law_has") rfl)) (He.glo_ok X G (c.fact 64 (f := .glo "_law_machine_of") rfl)) (He.glo_ok X G (c.fact 65 (f := .glo "_law_moved") rfl)) (He.glo_ok X G (c.fact 66 (f := .glo "_law_pen") rfl)) (He.glo_ok X G (c.fact 67 (f := .glo "_law_plan") rfl)) (He.glo_ok X G (c.fact 53 (f := .glo "_law_states") rfl))
  exact G_law
end D65
open PySem PySem.W PySem.Calls PyProof.Rows
theorem PySem.Challenge.cw_gaprules_k65_kinds_followed_holds : PySem.Challenge.rw_gaprules_k65_kinds_followed.Holds := by
  w_on; o_law
  refine HandSHeadRun.head_any (r := OpenLaw.row PySem.Challenge.rw_gaprules_k65_kinds_followed) (q := view (OpenLaw.row PySem.Challenge.rw_gaprules_k65_kinds_followed).prog [38]) (H := D65.hk) (ob := D65.ob) (M := 6000) (loose := D65.loose) (d := HandSHeadRun.topDef (OpenLaw.row PySem.Challenge.rw_gaprules_k65_kinds_followed).prog 38) (kwd := []) D65.ob_eq
    (by kernel_rfl) (fun s => by kernel_rfl) D65.run (by kernel_rfl) (by kernel_rfl) (by kernel_rfl) (by rfl) (by first | assumption | decide +kernel) (by decide +kernel) ⟨rfl, rfl, rfl, rfl, rfl, by decide +kernel⟩ ?hw ?hc
  case hw => w_witness2
  case hc =>
    refine GL.g_walk (l := PySem.Challenge.rw_gaprules_k65_kinds_followed) (n := 63) (k := 9) rfl (by decide) (by kernel_rfl) ⟨rfl, by decide, by decide⟩ ?_
    intro w mg fa h Y G hmg0
    obtain ⟨K, KX, c, hx⟩ := Y
    have hmg : mg ("law" : PySem.Str) = some (.ref fa) := by
      have e : (HandSHeadRun.topDef (OpenLaw.row PySem.Challenge.rw_gaprules_k65_kinds_followed).prog 38).name = ("law" : PySem.Str) := by kernel_rfl
      rw [← e]
      exact hmg0
    exact ⟨K, GL.spLaw K, KX, fun H a ns hl _ hS => ⟨a, ns, rfl, hS, hl, fun _ => rfl⟩, D65.facts (P := (PySem.Challenge.rw_gaprules_k65_kinds_followed).prog) (w := w) KX G hmg c hx⟩

