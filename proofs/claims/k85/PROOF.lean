import PyProof.Rows.All
import Wide.All
import OpenK.AllK
import Wide.FinOn
import HandS.ForMost
import HandS.ForExc
import HandS.Head0
import HandS.Head1
import HandS.Head2
import HandS.HeadEnd
import HandS.HeadHook1
import HandS.HeadHook2
import HandS.ExcInit
import KE.Datum
import HandS.StrMore
import HandS.Codes
import KE.GoesNew
import KE.GoesMore
import HandS.IsInst
import HandS.Style
import HandS.ExcField
import HandS.Defaults
import KE.KExcInit
import HandS.TryMany
import KE.SortData
import HandS.Conv
import KE.KDictSum
import HandS.DictTup
import HandS.TupLen
import HandS.WordsDict
import HandS.ExcIs
import HandS.ExcValue
import PyProof.ReprBulk
import HandS.ExcOwn
import HandS.SortKw
import KE.KTupSum
import PySem.Challenge.RW_gaprules_k85_errors
set_option Elab.async false
set_option linter.all false
set_option maxRecDepth 100000
set_option maxHeartbeats 4000000
/-! G1: a def's promise where no repr is under way (guards), positional calls; everything may let exceptions out. -/
namespace GL
open PySem PySem.Spec L2
open PyProof.Rows hiding St

/-- no container is being shown around here -/
abbrev NoG (A : Around) : Prop := A.guards = some []

/-- the def at f keeps sp at level k, called with positional values -/
structure Gn (P : Program) (w : World) (K : PySem.W.Frag) (mg : Str → Option Value) (base : Heap) (k : Nat) (f : Addr) (n : Nat) (sp : Sp) : Prop where
  len : ∀ vs H Q E, sp vs H Q E → vs.length = n
  run : ∀ (A : Around) (outer : List Env) (s : Shared) (H : Hp) (us : List Value) (vs : List V) (Q : VK) (E : XK), NoG A → Room k A →
    Env0 P w K mg base A outer s H → Vals vs us → sp vs H Q E → codeAny (model P w) A (.call (.ref f) ⟨us, []⟩) (CR (L2.CX P w) outer P w H s Q E) s

section
variable {P : Program} {w : World} {K : PySem.W.Frag} {mg : Str → Option Value} {base : Heap} {x qual : Str} {params : Arguments} {body : List Stmt} {scope : Scope} {dvs : List V} {kws : List (Str × V)} {f : Addr} {fd : FuncData}
theorem Gn.mono {j k n : Nat} {sp : Sp} (F : Gn P w K mg base j f n sp) (h : j ≤ k) : Gn P w K mg base k f n sp :=
  ⟨F.len, fun A outer s H us vs Q E hg hr => F.run A outer s H us vs Q E hg (hr.mono h)⟩

/-- the rule for a def -/
theorem gn_ok {N ps : List Str} {k : Nat} {sp : Sp} (F : FunD K x qual params body scope [] kws f fd) (S : FnScope N ps scope)
    (hb : ∀ (kV doc pm : Value) (an : Option Addr) (cdv ct : Value) (us : List Value), us.length = ps.length → bindArgs (PySem.W.fnOf x qual params body scope .none kV doc pm an cdv ct) ⟨us, []⟩ = pure (ps.zip us))
    (len : ∀ vs H Q E, sp vs H Q E → vs.length = ps.length)
    (hbody : ∀ (cdv : Value) (A : Around) (outer : List Env) (s : Shared) (H : Hp) (vs : List V) (Q : VK) (E : XK), NoG A → Room k (A.deeper (envOfC qual scope s.heap.objs.size f cdv)) → sp vs H Q E →
      ∃ t, PSs (cxOf (L2.CX P w) P w K mg base N qual scope f cdv A outer s H E) body t ∧ t { nx := fun _ H' => Q .non H', rt := Q } (start N vs) H) :
    Gn P w K mg base (k + 1) f ps.length sp := by
  constructor
  · exact len
  intro A outer s H us vs Q E hg hr e0 r hsp
  have hl := len vs H Q E hsp
  have hul : us.length = ps.length := hl ▸ r.length.symm
  have kIn : K.In s.heap := e0.mod.kin.keeps fun b o q => (e0.bs b o q).1
  have lim : s.heap.NoLimit := e0.mod.nolimit.keeps fun b o q => (e0.bs b o q).1
  have B := FunD.bindsN F hb s us kIn (by simpa using hul)
  rw [List.append_nil] at B
  obtain ⟨oc, od, dV, kV, doc, pm, an, cdv, ct, osl, rfl, lk, hcd, _⟩ := F.ex
  have par : ∀ y ∈ ps.zip us, scope.names.lookup y.1 = some .local ∨
      (scope.names.lookup y.1 = some .cell ∧ ((cellsFrom (s.heap.objs.size + 1) scope.names []).lookup y.1).isSome = true) := by
    rintro ⟨y, v⟩ hy
    have hm := (List.of_mem_zip hy).1
    refine (S.par y hm).imp id fun c => ⟨c, ?_⟩
    exact PySem.W.cellsFrom_some _ _ _ (Or.inl c)
  have rec_ := PySem.W.codeRec_of kIn hcd
  apply codeAny_call_function hr.depth (kIn _ _ lk) rfl S.co S.gen rfl rec_
  apply B
  apply wpAny_newFunctionEnv_cells S.kind par
  intro env he s1 x
  subst he
  refine ⟨lim.keeps x.toInCall.keep, codeAny_func ?_⟩
  obtain ⟨t, ht, hq⟩ := hbody cdv A outer s H vs Q E hg (hr.deeper _) hsp
  have I := inv_start (CX := L2.CX P w) (E := E) S hr.hd e0 hl r x
  have R := ht.run [] s1 (start N vs) H _ I hq
  refine wpAny_mono R ?_ (fun _ _ z => z)
  intro fl s' hs
  cases fl with
  | next => obtain ⟨σ', H', J, q⟩ := hs; exact ⟨V.non, H', J.os, J.bare, J.base, J.hok, rfl, q⟩
  | ret u => obtain ⟨v, σ', H', J, rv, q⟩ := hs; exact ⟨v, H', J.os, J.bare, J.base, J.hok, rv, q⟩
  | brk => obtain ⟨_, _, _, q⟩ := hs; exact q.elim
  | cont => obtain ⟨_, _, _, q⟩ := hs; exact q.elim
end

section
variable {X : Cx} {k n : Nat} {f C : Addr} {sp : Sp} {W : WX} {x m : Str} {p pos apos : Pos} {e o : Expr} {es : List Expr} {ta : TE} {t : TA}
/-- the callee runs, at the slots σ -/
theorem g_run {pins : List (Addr × Obj)} {σ : St} {H : Hp} {s : Shared} {Q : VK} {us : List Value} {vs : List V} (F : Gn X.prog X.w X.K X.mg X.base k f n sp) (hg : NoG X.A) (hr : Room k X.A) (tk : Takes X W)
    (I : Inv X pins σ H s) (r : Vals vs us) (h : sp vs H Q (WE W σ)) : wpAny (model X.prog X.w) X.A (call (.ref f) us) (EP X pins σ Q) X.xe s := by
  apply wpAny_call
  apply codeAny_mono (F.run X.A X.stack s H us vs Q (WE W σ) hg hr I.env0 r h)
  intro r s' hq
  cases r with
  | error e => exact passAt tk σ pins H s e s' I hq
  | ok fl => cases fl with
    | ret u => exact I.after hq
    | next => exact hq.elim
    | brk => exact hq.elim
    | cont => exact hq.elim
/-- f(..) -/
def tG (sp : Sp) (W : WX) (t : TA) : TE := fun σ H Q => t σ H fun vs H1 => sp vs H1 Q (WE W σ)
theorem g_call (F : Gn X.prog X.w X.K X.mg X.base k f n sp) (hg : NoG X.A) (hr : Room k X.A) (tk : Takes X W) (gl : Gl X x) (hm : X.mg x = some (.ref f)) (kp : PySem.W.keepIn X.K (.ref f) = true)
    (ha : PA X (e :: es) t) (hdb : (x == ("__debug__" : Str)) = false := by decide) (he : starEach (e :: es) X.env = (false, eval e X.env) :: starEach es X.env := by rfl) (hpl : (backTo pos (starEach es X.env)).any (·.1) = false := by rfl) :
    PE X (.Call (.Name x p) (e :: es) [] pos) (tG sp W t) := by
  constructor
  intro pins s σ H Q I h
  apply wpAny_Call_Name_kw
  apply ld_glob I gl hm _ hdb
  apply PySem.W.callWith_K (h₀ := X.base) I.ok.mod.kin kp _ he hpl
  apply thn (ha.run pos pins s σ H _ I h)
  rintro us s1 ⟨vs, H1, I1, r, q⟩
  exact ⟨I1.kIn, g_run F hg hr tk I1 r q⟩
/-- f() -/
theorem g_call0 (F : Gn X.prog X.w X.K X.mg X.base k f n sp) (hg : NoG X.A) (hr : Room k X.A) (tk : Takes X W) (gl : Gl X x) (hm : X.mg x = some (.ref f)) (kp : PySem.W.keepIn X.K (.ref f) = true)
    (hdb : (x == ("__debug__" : Str)) = false := by decide) : PE X (.Call (.Name x p) [] [] pos) (tG sp W tNil) := by
  constructor
  intro pins s σ H Q I h
  apply wpAny_Call_Name_kw
  apply ld_glob I gl hm _ hdb
  exact PySem.W.callWith_K0 I.kIn kp (g_run (us := []) F hg hr tk I .nil h)
/-- o.m(..), o an instance of the class at C -/
def tGM (C : Addr) (m : Str) (sp : Sp) (W : WX) (ta : TE) (t : TA) : TE := fun σ H Q => ta σ H fun x H1 => ∃ a dx fs, x = .ref a ∧ H1 a = some (.ins C dx fs) ∧ fs.lookup m = none ∧
  t σ H1 fun vs H2 => sp (x :: vs) H2 Q (WE W σ)
theorem g_meth {pl : Sem Bool} (he : PE X o ta) (c : Cls X.K C) (hm : Meth X.K C m f) (F : Gn X.prog X.w X.K X.mg X.base k f n sp) (hg : NoG X.A) (hr : Room k X.A) (tk : Takes X W) (ha : PA X (e :: es) t)
    (hst : starEach (e :: es) X.env = (false, eval e X.env) :: starEach es X.env := by rfl) (hpl : (backTo pos (starEach es X.env)).any (·.1) = false := by rfl)
    (ht : eval (.Call (.Attribute o m apos) (e :: es) [] pos) X.env = (do
      let u ← eval o X.env; standAt apos.atName
      let (g, first) ← holding [u] (getMethod u m pl)
      callWith pos g first (backTo pos (starEach (e :: es) X.env)) (backToKw pos (keywordEach [] X.env))) := by rfl) :
    PE X (.Call (.Attribute o m apos) (e :: es) [] pos) (tGM C m sp W ta t) := by
  constructor
  intro pins s σ H Q I h
  refine PySem.W.methodCall_KW (pl := pl) (thn (he.run pins s σ H _ I h) ?_) ht
  rintro u s1 ⟨x, H1, I1, rx, a, dx, fs, rfl, ea, l, q⟩
  cases rx
  apply getmeth_ok I1 ea c hm l
  apply PySem.W.callWith_K (first := [.ref a]) (h₀ := X.base) I.ok.mod.kin hm.kp _ hst hpl
  apply thn (ha.run pos pins s1 σ H1 _ I1 q)
  rintro us s2 ⟨vs, H2, I2, r, q2⟩
  exact ⟨I2.kIn, g_run (us := .ref a :: us) (vs := .ref a :: vs) F hg hr tk I2 (.cons rfl r) q2⟩
/-- o.m() -/
theorem g_meth0 {pl : Sem Bool} (he : PE X o ta) (c : Cls X.K C) (hm : Meth X.K C m f) (F : Gn X.prog X.w X.K X.mg X.base k f n sp) (hg : NoG X.A) (hr : Room k X.A) (tk : Takes X W)
    (ht : eval (.Call (.Attribute o m apos) [] [] pos) X.env = (do
      let u ← eval o X.env; standAt apos.atName
      let (g, first) ← holding [u] (getMethod u m pl)
      callWith pos g first (backTo pos (starEach [] X.env)) (backToKw pos (keywordEach [] X.env))) := by rfl) :
    PE X (.Call (.Attribute o m apos) [] [] pos) (tGM C m sp W ta tNil) := by
  constructor
  intro pins s σ H Q I h
  refine PySem.W.methodCall_KW (pl := pl) (thn (he.run pins s σ H _ I h) ?_) ht
  rintro u s1 ⟨x, H1, I1, rx, a, dx, fs, rfl, ea, l, q⟩
  cases rx
  apply getmeth_ok I1 ea c hm l
  exact PySem.W.callWith_K0 (first := [.ref a]) I1.kIn hm.kp (g_run (us := [.ref a]) (vs := [.ref a]) F hg hr tk I1 (.cons rfl .nil) q)
theorem NoG.make {A : Around} (h : NoG A) (C : Addr) (us : List Value) : NoG (A.under (.builtin "type.__call__" ⟨.ref C :: us, []⟩)) := by
  show pushGuards (Code.guards (.builtin "type.__call__" ⟨.ref C :: us, []⟩)) A.guards = some []
  rw [h]
  have e : Code.guards (.builtin "type.__call__" ⟨.ref C :: us, []⟩) = [] := by
    unfold Code.guards
    rw [if_neg]
    have z : guardIds.contains "type.__call__" = false := by decide +kernel
    intro q
    have q' : guardIds.contains "type.__call__" = true := q
    rw [z] at q'
    cases q'
  rw [e]
  rfl
/-- C(..): a new instance, then __init__ -/
def tGN (C : Addr) (sp : Sp) (W : WX) (t : TA) : TE := fun σ H Q => t σ H fun vs H1 => ∀ x dx, H1 x = none → H1 dx = none → dx ≠ x →
  sp (.ref x :: vs) (upd (upd H1 dx (.own x)) x (.ins C dx [])) (fun v H2 => v = .non ∧ Q (.ref x) H2) (WE W σ)
theorem g_runMake {pins : List (Addr × Obj)} {σ : St} {H : Hp} {s : Shared} {Q : VK} {us : List Value} {vs : List V} (M : Mk X.K C f) (F : Gn X.prog X.w X.K X.mg X.base k f n sp) (hg : NoG X.A) (hr : Room (k + 1) X.A) (tk : Takes X W)
    (I : Inv X pins σ H s) (r : Vals vs us)
    (h : ∀ x dx, H x = none → H dx = none → dx ≠ x → sp (.ref x :: vs) (upd (upd H dx (.own x)) x (.ins C dx [])) (fun v H2 => v = .non ∧ Q (.ref x) H2) (WE W σ)) :
    wpAny (model X.prog X.w) X.A (call (.ref C) us) (EP X pins σ Q) X.xe s := by
  have hq := h (s.heap.objs.size + 1) s.heap.objs.size (I.hok.fresh (Nat.le_succ _)) (I.hok.fresh (Nat.le_refl _)) (Nat.ne_of_lt (Nat.lt_succ_self _))
  have I2 := Inv.made (C := C) I
  have R := F.run (X.A.under (.builtin "type.__call__" ⟨.ref C :: us, []⟩)) X.stack _ _ (.ref (s.heap.objs.size + 1) :: us) (.ref (s.heap.objs.size + 1) :: vs) _ _ (hg.make C us) (hr.make C us []) (I2.env0.make C us []) (.cons rfl r) hq
  apply wpAny_call
  apply make_map (f := f) I.kIn M.makes M.init (beq_iff_eq.mp M.fn)
  apply codeAny_mono R
  intro r s' hq'
  cases r with
  | error e => exact passAt tk σ pins _ _ e s' I2 hq'
  | ok fl => cases fl with
    | ret u =>
      obtain ⟨v, H', I3, rv, ev, q3⟩ := I2.after hq'
      subst ev
      exact ⟨rv, V.ref (s.heap.objs.size + 1), H', I3, rfl, q3⟩
    | next => exact hq'.elim
    | brk => exact hq'.elim
    | cont => exact hq'.elim
theorem g_make (M : Mk X.K C f) (F : Gn X.prog X.w X.K X.mg X.base k f n sp) (hg : NoG X.A) (hr : Room (k + 1) X.A) (tk : Takes X W) (gl : Gl X x) (hm : X.mg x = some (.ref C))
    (ha : PA X (e :: es) t) (hdb : (x == ("__debug__" : Str)) = false := by decide) (he : starEach (e :: es) X.env = (false, eval e X.env) :: starEach es X.env := by rfl) (hpl : (backTo pos (starEach es X.env)).any (·.1) = false := by rfl) :
    PE X (.Call (.Name x p) (e :: es) [] pos) (tGN C sp W t) := by
  constructor
  intro pins s σ H Q I h
  apply wpAny_Call_Name_kw
  apply ld_glob I gl hm _ hdb
  apply PySem.W.callWith_K (h₀ := X.base) I.ok.mod.kin M.kp _ he hpl
  apply thn (ha.run pos pins s σ H _ I h)
  rintro us s1 ⟨vs, H1, I1, r, q⟩
  exact ⟨I1.kIn, g_runMake M F hg hr tk I1 r q⟩
theorem PE.or {t1 t2 : TE} (h1 : PE X e t1) (h2 : PE X e t2) : PE X e (fun σ H Q => t1 σ H Q ∨ t2 σ H Q) :=
  ⟨fun pins s σ H Q I h => h.elim (h1.run pins s σ H Q I) (h2.run pins s σ H Q I)⟩
end

section
variable {X : Cx}
/-- repr of data -/
def rRepr (K : PySem.W.Frag) : List V → Hp → VK → Prop := fun vs H Q => ∃ v d, vs = [v] ∧ Dp K H v d ∧ d.showable = true ∧ d.hasDict = false ∧ d.depth ≤ 60 ∧ d.shown.length ≤ sizeLine ∧ Q (.str d.shown) H
theorem call_repr (hg : NoG X.A) (hu : X.A.units + 64 < cLine) : CallR X (.builtin "repr") (rRepr X.K) := by
  intro pins s σ H xs us Q I r h
  obtain ⟨v, d, rfl, hd, sh, nd, dp, sz, q⟩ := h
  obtain ⟨u, rfl, ru⟩ := vals1 r
  obtain ⟨as, rd⟩ := Dp.reads I d v u hd ru
  have fin : ∀ (h' : Heap) (t : Tok) (tk : Nat), (∀ b o, s.heap.get? b = some o → h'.get? b = some o) → EP X pins σ Q (.str d.shown t) { s with heap := h', toks := tk } :=
    fun h' t tk k => ⟨.str d.shown, H, I.kept (t' := tk) k, ⟨t, rfl⟩, q⟩
  cases hd with
  | non => cases ru; exact P.repr_of_none (fin _ _ _ fun _ _ z => z)
  | bl b => cases ru; exact P.repr_of_bool (by have z := fin s.heap s.toks (s.toks + 1) (fun _ _ z => z); cases b <;> exact z)
  | int i => obtain ⟨t, rfl⟩ := ru; exact P.repr_of_int (of_decide_eq_true sh) (fin _ _ _ fun _ _ z => z)
  | str x => obtain ⟨t, rfl⟩ := ru; exact P.repr_of_str (fin _ _ _ fun _ _ z => z) sz
  | lst h1 h2 => cases ru; exact repr_of_reads' rd sh (PyData.noDict_hsm nd) hg (by omega) (fun _ _ z => z) (fun h' u tk k => fin h' u tk k) sz
  | tup h1 h2 => cases ru; exact repr_of_reads' rd sh (PyData.noDict_hsm nd) hg (by omega) (fun _ _ z => z) (fun h' u tk k => fin h' u tk k) sz
end

/-! ### the law's own call -/
theorem g_law {P : Program} {w : World} {K : PySem.W.Frag} {mg mb : Str → Option Value} {k : Nat} {fa a : Addr} {sp : Sp} {s₁ : Shared} {vs : List Value} {ns : List Int}
    (KX : K.In s₁.heap) (hns : s₁.heap.Ns mainGlobals mg) (hb : s₁.heap.Ns builtinsNs mb) (hbb : ∀ x : Str, x ≠ "__name__" → mb x = bootBuiltins x) (hlim : s₁.heap.NoLimit) (hg : s₁.gens = #[])
    (ha : s₁.heap.get? a = some { cls := .type "list", data := .seq vs.toArray }) (hi : IntsAre vs ns) (hl : ns.length ≤ sizeLine) (hr : Room k callerA)
    (F : ∀ base : Heap, K.In base → base.Ns mainGlobals mg → Gn P w K mg base k fa 1 sp)
    (hsp : ∀ H : Hp, Only H → SqL K H a (ns.map V.int) → sp [.ref a] H (fun v _ => v = .bl true) fun _ _ _ => False) :
    codeAny (model P w) callerA (.call (.ref fa) ⟨[.ref a], []⟩) (fun r s' => r = .ok (.ret (.bool true)) ∧ OldK s₁.heap s'.heap ∧ s'.os = s₁.os ∧ AllBare s'.gens) s₁ := by
  have rv := vals_ints hi
  have lenV := hi.length
  suffices core : ∀ H : Hp, Only H → SqL K H a (ns.map V.int) → HOk P w H s₁.heap → (∀ b, H b ≠ none → b = a ∧ K.lookup b = none) →
      codeAny (model P w) callerA (.call (.ref fa) ⟨[.ref a], []⟩) (fun r s' => r = .ok (.ret (.bool true)) ∧ OldK s₁.heap s'.heap ∧ s'.os = s₁.os ∧ AllBare s'.gens) s₁ by
    cases hk : K.lookup a with
    | some o =>
      have e := KX a o hk
      rw [ha] at e
      cases e
      have sq : SqL K (fun _ => none) a (ns.map V.int) := by
        right
        refine ⟨_, vs.toArray, _, hk, rfl, rfl, rfl, ?_, ?_⟩
        · rw [List.size_toArray, lenV]; exact hl
        · simpa using rv
      refine core (fun _ => none) (fun _ => .inl rfl) sq ?_ ?_
      · intro b u z
        simp at z
      · intro b z
        exact absurd rfl z
    | none =>
      let o0 : Obj := { cls := .type "list", data := .seq vs.toArray }
      let H0 : Hp := fun b => if b = a then some (.frz o0 (.lst (ns.map V.int))) else none
      have at_a : H0 a = some (.frz o0 (.lst (ns.map V.int))) := if_pos rfl
      have off_a : ∀ b, b ≠ a → H0 b = none := fun b n => if_neg n
      refine core H0 (fun b => ?_) (.inl (.inr ⟨o0, at_a⟩)) (fun b u z => ?_) (fun b z => ?_)
      · by_cases n : b = a
        · subst n; exact .inr ⟨_, _, at_a⟩
        · exact .inl (off_a b n)
      · by_cases n : b = a
        · subst n
          rw [at_a] at z
          cases z
          refine ⟨ha, ?_, vs, _, rv, ha⟩
          rw [List.length_map]; exact hl
        · rw [off_a b n] at z; cases z
      · by_cases n : b = a
        · subst n; exact ⟨rfl, hk⟩
        · exact absurd (off_a b n) z
  intro H hO hS hok hA
  -- all that stood, but the script, is the ground
  have keepB : ∀ {b : Addr} {o : Obj}, s₁.heap.get? b = some o → H b = none → (hidT s₁.heap H).get? b = some o := fun e n => hidT_get e n
  have notA : ∀ {b : Addr} {o : Obj} {es : Array DictEntry} {ep : Nat}, s₁.heap.get? b = some o → o.data = .dict es ep → H b = none := by
    intro b o es ep e d
    cases q : H b with
    | none => rfl
    | some u =>
      obtain ⟨rfl, _⟩ := hA b (by rw [q]; simp)
      rw [ha] at e
      cases e
      cases d
  have nsB : ∀ {b : Addr} {m : Str → Option Value}, s₁.heap.Ns b m → (hidT s₁.heap H).Ns b m := by
    rintro b m ⟨o, es, ep, e, d, r⟩
    exact ⟨o, es, ep, keepB e (notA e d), d, r⟩
  have KB : K.In (hidT s₁.heap H) := by
    intro b o e
    refine keepB (KX b o e) ?_
    cases q : H b with
    | none => rfl
    | some u =>
      have z := (hA b (by rw [q]; simp)).2
      rw [e] at z; cases z
  obtain ⟨mc, lim1, lim2⟩ := hlim
  have M : Mod K mg (hidT s₁.heap H) := ⟨KB, nsB hns, ⟨mb, nsB hb, hbb⟩, mc, nsB lim1, lim2⟩
  have e0 : Env0 P w K mg (hidT s₁.heap H) callerA [] s₁ H :=
    ⟨rfl, M, fun b o e => of_hidT e, Nat.le_of_eq (hidT_size _ _), trivial, (fun b hb => absurd hb (by simp [frs])), hok, .of_eq hg⟩
  have R := (F _ KB (nsB hns)).run callerA [] s₁ H [.ref a] [.ref a] _ _ rfl hr e0 (.cons rfl .nil) (hsp H hO hS)
  apply codeAny_mono R
  intro r s' h
  cases r with
  | error e =>
    obtain ⟨_, _, _, _, _, _, _, _, _, _, _, _, z⟩ := h
    exact z.elim
  | ok fl => cases fl with
    | next => exact h.elim
    | brk => exact h.elim
    | cont => exact h.elim
    | ret u =>
      obtain ⟨v, H', os, bare, un, hok', r', rfl⟩ := h
      cases r'
      refine ⟨rfl, OldK.of_keep fun b o e => ?_, os, bare⟩
      cases q : H b with
      | none => exact un.keep b o e q (by simp [frs]) (by simp)
      | some u =>
        rcases hO b with z | ⟨ob, xs, z⟩
        · rw [q] at z; cases z
        · obtain ⟨e1, _⟩ := hok b _ z
          obtain ⟨e2, _⟩ := hok' b _ (un.frzs b ob _ z)
          rw [e] at e1
          cases e1
          exact e2
theorem g_walk {l : PySem.W.OpenLaw} {n k : Nat} {q : Program} {loose : List Str} {XP : (Str → Option Value) → Heap → Prop} {YP : World → Heap → Prop} {d : DefRec}
    (hn : l.most = some n) (hn2 : n ≤ sizeLine) (hdf : d.params.defaults = []) (hr : Room k callerA)
    (F : ∀ (w : World) (mg : Str → Option Value) (fa : Addr) (h : Heap), YP w h → h.Ns mainGlobals mg → mg d.name = some (.ref fa) →
      ∃ (K : PySem.W.Frag) (sp : Sp), K.In h ∧
        (∀ (H : Hp) (a : Addr) (ns : List Int), ns.length ≤ n → Only H → SqL K H a (ns.map V.int) → sp [.ref a] H (fun v _ => v = .bl true) fun _ _ _ => False) ∧
        ∀ base : Heap, K.In base → base.Ns mainGlobals mg → Gn l.prog w K mg base k fa 1 sp) :
    PySem.W.WalkO q loose XP YP l.row.toRowW d [] (fun f vs => PySem.call f vs) := by
  apply Att.attach_call hn hdf
  intro w s₀ s₁ mg mb fa o pm cd doc a vs ns G Y ho hd hcd hmg hobj hints hlen hg
  obtain ⟨K, sp, KX, hsp, hF⟩ := F w mg fa _ Y G.T.g hmg
  apply g_law KX G.T.g G.T.b G.T.builtins G.T.nolimit hg hobj hints (Nat.le_trans hlen hn2) hr hF
  intro H hO hS
  exact hsp H a ns hlen hO hS
end GL

/-! G2: data at values, resources, and the judgement RD: a reading holds of every heap with these data and resources. -/
namespace GL
open PySem PySem.Spec L2

mutual
/-- the value stands for this data -/
inductive Dt (K : PySem.W.Frag) (H : Hp) : V → PyData → Prop
  | non : Dt K H .non .none
  | bl (b : Bool) : Dt K H (.bl b) (.bool b)
  | int (i : Int) : Dt K H (.int i) (.int i)
  | str (x : Str) : Dt K H (.str x) (.str x)
  | lst {a : Addr} {xs : List V} {ds : List PyData} : H a = some (.lst xs) → DtAll K H xs ds → Dt K H (.ref a) (.list ds)
  | tup {a : Addr} {xs : List V} {ds : List PyData} : SqT K H a xs → DtAll K H xs ds → Dt K H (.ref a) (.tuple ds)
inductive DtAll (K : PySem.W.Frag) (H : Hp) : List V → List PyData → Prop
  | nil : DtAll K H [] []
  | cons {v : V} {d : PyData} {vs : List V} {ds : List PyData} : Dt K H v d → DtAll K H vs ds → DtAll K H (v :: vs) (d :: ds)
end
section
variable {K : PySem.W.Frag} {H H' : Hp}
theorem same_sqT {a : Addr} {xs : List V} (e : Same H H') (h : SqT K H a xs) : SqT K H' a xs := by
  rcases h with (h | ⟨o, h⟩) | h
  · left; left; exact e _ _ h
  · left; right; exact ⟨o, e _ _ h⟩
  · right; exact h
mutual
theorem Dt.mono (e : Same H H') {v : V} {d : PyData} : Dt K H v d → Dt K H' v d
  | .non => .non
  | .bl b => .bl b
  | .int i => .int i
  | .str x => .str x
  | .lst h r => .lst (e _ _ h) (DtAll.mono e r)
  | .tup h r => .tup (same_sqT e h) (DtAll.mono e r)
theorem DtAll.mono (e : Same H H') {vs : List V} {ds : List PyData} : DtAll K H vs ds → DtAll K H' vs ds
  | .nil => .nil
  | .cons a b => .cons (Dt.mono e a) (DtAll.mono e b)
end
mutual
theorem Dt.dp {v : V} {d : PyData} : Dt K H v d → Dp K H v d
  | .non => .non
  | .bl b => .bl b
  | .int i => .int i
  | .str x => .str x
  | .lst h r => .lst (.inl (.inl h)) (DtAll.dp r)
  | .tup h r => .tup h (DtAll.dp r)
theorem DtAll.dp {vs : List V} {ds : List PyData} : DtAll K H vs ds → DpAll K H vs ds
  | .nil => .nil
  | .cons a b => .cons (Dt.dp a) (DtAll.dp b)
end
theorem DtAll.len : ∀ {vs : List V} {ds : List PyData}, DtAll K H vs ds → vs.length = ds.length
  | _, _, .nil => rfl
  | _, _, .cons _ b => congrArg Nat.succ (DtAll.len b)
theorem DtAll.get : ∀ {vs : List V} {ds : List PyData}, DtAll K H vs ds → ∀ {i : Nat} {v : V}, vs[i]? = some v → ∃ d, ds[i]? = some d ∧ Dt K H v d
  | _, _, .nil, i, v, h => by simp at h
  | _, _, .cons a b, 0, v, h => by simp at h; subst h; exact ⟨_, rfl, a⟩
  | _, _, .cons a b, i + 1, v, h => by
    obtain ⟨d, e, x⟩ := DtAll.get b (i := i) (v := v) (by simpa using h)
    exact ⟨d, by simpa using e, x⟩
theorem DtAll.at : ∀ {vs : List V} {ds : List PyData}, DtAll K H vs ds → ∀ {i : Nat} {d : PyData}, ds[i]? = some d → ∃ v, vs[i]? = some v ∧ Dt K H v d
  | _, _, .nil, i, v, h => by simp at h
  | _, _, .cons a b, 0, v, h => by simp at h; subst h; exact ⟨_, rfl, a⟩
  | _, _, .cons a b, i + 1, v, h => by
    obtain ⟨d, e, x⟩ := DtAll.at b (i := i) (d := v) (by simpa using h)
    exact ⟨d, by simpa using e, x⟩
theorem DtAll.append : ∀ {vs ws : List V} {ds es : List PyData}, DtAll K H vs ds → DtAll K H ws es → DtAll K H (vs ++ ws) (ds ++ es)
  | _, _, _, _, .nil, h => h
  | _, _, _, _, .cons a b, h => .cons a (DtAll.append b h)
theorem DtAll.drop : ∀ {vs : List V} {ds : List PyData} (n : Nat), DtAll K H vs ds → DtAll K H (vs.drop n) (ds.drop n)
  | _, _, 0, h => h
  | _, _, n + 1, .nil => .nil
  | _, _, n + 1, .cons a b => DtAll.drop n b
theorem DtAll.take : ∀ {vs : List V} {ds : List PyData} (n : Nat), DtAll K H vs ds → DtAll K H (vs.take n) (ds.take n)
  | _, _, 0, h => .nil
  | _, _, n + 1, .nil => .nil
  | _, _, n + 1, .cons a b => .cons a (DtAll.take n b)
theorem DtAll.set : ∀ {vs : List V} {ds : List PyData} {v : V} {d : PyData} (n : Nat), DtAll K H vs ds → Dt K H v d → DtAll K H (vs.set n v) (ds.set n d)
  | _, _, _, _, _, .nil, h => .nil
  | _, _, _, _, 0, .cons a b, h => .cons h b
  | _, _, _, _, n + 1, .cons a b, h => .cons a (DtAll.set n b h)
theorem DtAll.erase : ∀ {vs : List V} {ds : List PyData} (n : Nat), DtAll K H vs ds → DtAll K H (vs.eraseIdx n) (ds.eraseIdx n)
  | _, _, _, .nil => .nil
  | _, _, 0, .cons a b => b
  | _, _, n + 1, .cons a b => .cons a (DtAll.erase n b)
theorem DtAll.ints {ns : List Int} {xs : List V} (h : DtAll K H xs (ns.map .int)) : xs = ns.map V.int := by
  induction ns generalizing xs with
  | nil => cases h; rfl
  | cons n ns ih =>
    cases h with
    | cons a b => cases a; rw [ih b]; rfl
theorem DtAll.ofInts (ns : List Int) : DtAll K H (ns.map V.int) (ns.map .int) := by
  induction ns with
  | nil => exact .nil
  | cons n ns ih => exact .cons (.int n) ih
theorem DtAll.strs {ns : List Str} {xs : List V} (h : DtAll K H xs (ns.map .str)) : xs = ns.map V.str := by
  induction ns generalizing xs with
  | nil => cases h; rfl
  | cons n ns ih =>
    cases h with
    | cons a b => cases a; rw [ih b]; rfl
theorem DtAll.ofStrs (ns : List Str) : DtAll K H (ns.map V.str) (ns.map .str) := by
  induction ns with
  | nil => exact .nil
  | cons n ns ih => exact .cons (.str n) ih
theorem DtAll.bls {ns : List Bool} {xs : List V} (h : DtAll K H xs (ns.map .bool)) : xs = ns.map V.bl := by
  induction ns generalizing xs with
  | nil => cases h; rfl
  | cons n ns ih =>
    cases h with
    | cons a b => cases a; rw [ih b]; rfl
end

/-! ### resources -/
/-- the heap without the addresses that may change -/
noncomputable def off (H : Hp) (N : Addr → Prop) : Hp := fun b => open Classical in if N b then none else H b
theorem off_same {H : Hp} {N : Addr → Prop} : Same (off H N) H := fun b o h => by
  unfold off at h
  split at h
  · cases h
  · exact h
theorem off_ne {H : Hp} {N : Addr → Prop} {b : Addr} (h : ¬ N b) : off H N b = H b := if_neg h
/-- what owns the addresses N: D what stands still, H all -/
structure Res where
  h : (Addr → Prop) → Hp → Hp → Prop
  st : ∀ {N : Addr → Prop} {D D' H H' : Hp}, h N D H → Same D D' → (∀ b, N b → H' b = H b) → h N D' H'
def emp : Res := ⟨fun N _ _ => ∀ b, ¬ N b, fun h _ _ => h⟩
def star (R S : Res) : Res where
  h := fun N D H => ∃ N1 N2, (∀ b, N b ↔ N1 b ∨ N2 b) ∧ (∀ b, N1 b → N2 b → False) ∧ R.h N1 D H ∧ S.h N2 D H
  st := by
    rintro N D D' H H' ⟨N1, N2, e, dj, h1, h2⟩ d k
    exact ⟨N1, N2, e, dj, R.st h1 d fun b hb => k b ((e b).2 (.inl hb)), S.st h2 d fun b hb => k b ((e b).2 (.inr hb))⟩
theorem star_comm {R S : Res} {N : Addr → Prop} {D H : Hp} (h : (star R S).h N D H) : (star S R).h N D H := by
  obtain ⟨N1, N2, e, dj, h1, h2⟩ := h
  exact ⟨N2, N1, fun b => (e b).trans or_comm, fun b x y => dj b y x, h2, h1⟩
theorem star_assoc {R S T : Res} {N : Addr → Prop} {D H : Hp} (h : (star (star R S) T).h N D H) : (star R (star S T)).h N D H := by
  obtain ⟨N1, N2, e, dj, ⟨M1, M2, e', dj', h1, h2⟩, h3⟩ := h
  refine ⟨M1, fun b => M2 b ∨ N2 b, fun b => ?_, fun b x y => ?_, h1, M2, N2, fun b => Iff.rfl, fun b x y => ?_, h2, h3⟩
  · rw [e b, e' b, or_assoc]
  · rcases y with y | y
    · exact dj' b x y
    · exact dj b ((e' b).2 (.inl x)) y
  · exact dj b ((e' b).2 (.inr x)) y
theorem star_mono {R R' S : Res} {N : Addr → Prop} {D H : Hp} (k : ∀ {N}, R.h N D H → R'.h N D H) (h : (star R S).h N D H) : (star R' S).h N D H := by
  obtain ⟨N1, N2, e, dj, h1, h2⟩ := h
  exact ⟨N1, N2, e, dj, k h1, h2⟩
theorem star_swap {R S T : Res} {N : Addr → Prop} {D H : Hp} (h : (star R (star S T)).h N D H) : (star S (star R T)).h N D H := by
  have h1 := star_comm h
  have h2 := star_assoc h1
  exact star_mono (R := S) (fun z => z) (by
    obtain ⟨N1, N2, e, dj, a, b⟩ := h2
    exact ⟨N1, N2, e, dj, a, star_comm b⟩)
/-- a list that may change -/
def own (K : PySem.W.Frag) (a : Addr) (ds : List PyData) : Res where
  h := fun N D H => (∀ b, N b ↔ b = a) ∧ ∃ xs, H a = some (.lst xs) ∧ DtAll K D xs ds
  st := fun ⟨e, xs, h, r⟩ d k => ⟨e, xs, (k a ((e a).2 rfl)).trans h, r.mono d⟩

/-- what may be owned: no tuple (tuples stand) -/
def NotTup (o : HO) : Prop := ∀ xs, o ≠ .tup xs
structure At (K : PySem.W.Frag) (D0 : Hp) (R : Res) (l : List (V × PyData)) (N : Addr → Prop) (H : Hp) : Prop where
  nt : ∀ b, N b → ∃ o, H b = some o ∧ NotTup o
  r : R.h N (off H N) H
  d0 : Same D0 (off H N)
  f : ∀ p ∈ l, Dt K (off H N) p.1 p.2
theorem At.nn {K : PySem.W.Frag} {D0 : Hp} {R : Res} {l : List (V × PyData)} {N : Addr → Prop} {H : Hp} (A : At K D0 R l N H) (b : Addr) (h : N b) : H b ≠ none := by
  obtain ⟨o, e, _⟩ := A.nt b h
  rw [e]
  exact fun z => by cases z
/-- T holds of every such heap -/
def RD (K : PySem.W.Frag) (D0 : Hp) (R : Res) (l : List (V × PyData)) (T : Hp → Prop) : Prop := ∀ N H, At K D0 R l N H → T H

/-- the value has this data among these facts -/
inductive InL (l : List (V × PyData)) : V → PyData → Prop
  | non : InL l .non .none
  | bl (b : Bool) : InL l (.bl b) (.bool b)
  | int (i : Int) : InL l (.int i) (.int i)
  | str (x : Str) : InL l (.str x) (.str x)
  | mem {v : V} {d : PyData} (h : (v, d) ∈ l) : InL l v d
inductive InLs (l : List (V × PyData)) : List V → List PyData → Prop
  | nil : InLs l [] []
  | cons {v : V} {d : PyData} {vs : List V} {ds : List PyData} (h : InL l v d) (t : InLs l vs ds) : InLs l (v :: vs) (d :: ds)
section
variable {K : PySem.W.Frag} {D0 H : Hp} {R S : Res} {l l' : List (V × PyData)} {N : Addr → Prop} {T T' : Hp → Prop}
theorem At.dt (A : At K D0 R l N H) {v : V} {d : PyData} (h : InL l v d) : Dt K (off H N) v d := by
  cases h with
  | non => exact .non
  | bl b => exact .bl b
  | int i => exact .int i
  | str x => exact .str x
  | mem h => exact A.f _ h
theorem At.dts (A : At K D0 R l N H) {vs : List V} {ds : List PyData} (h : InLs l vs ds) : DtAll K (off H N) vs ds := by
  induction h with
  | nil => exact .nil
  | cons h _ ih => exact .cons (A.dt h) ih
theorem At.dH (A : At K D0 R l N H) {v : V} {d : PyData} (h : InL l v d) : Dt K H v d := (A.dt h).mono off_same
theorem At.weak (A : At K D0 R l N H) (h : ∀ p ∈ l', InL l p.1 p.2) : At K D0 R l' N H := ⟨A.nt, A.r, A.d0, fun p hp => A.dt (h p hp)⟩
theorem RD.weak (h : ∀ p ∈ l', InL l p.1 p.2) (k : RD K D0 R l' T) : RD K D0 R l T := fun N H A => k N H (A.weak h)
theorem RD.res (h : ∀ {N D H}, R.h N D H → S.h N D H) (k : RD K D0 S l T) : RD K D0 R l T := fun N H A => k N H ⟨A.nt, h A.r, A.d0, A.f⟩
theorem RD.imp (h : ∀ H, T H → T' H) (k : RD K D0 R l T) : RD K D0 R l T' := fun N H A => h H (k N H A)
theorem At.facts (A : At K D0 R l N H) {v : V} {d : PyData} (h : Dt K (off H N) v d) : At K D0 R ((v, d) :: l) N H :=
  ⟨A.nt, A.r, A.d0, fun p hp => by rcases List.mem_cons.mp hp with rfl | hp; exact h; exact A.f p hp⟩
/-- a new object -/
theorem At.new (A : At K D0 R l N H) {p : Addr} (o : HO) (hp : H p = none) : At K D0 R l N (upd H p o) ∧ off (upd H p o) N p = some o := by
  have np : ¬ N p := fun h => A.nn p h hp
  have ne : ∀ b, N b → b ≠ p := fun b hb z => np (z ▸ hb)
  have sm : Same (off H N) (off (upd H p o) N) := fun b u h => by
    by_cases hb : N b
    · unfold off at h; rw [if_pos hb] at h; cases h
    · rw [off_ne hb] at h ⊢
      rw [upd_ne (ne_of_none h hp)]
      exact h
  refine ⟨⟨fun b hb => ?_, R.st A.r sm fun b hb => upd_ne (ne b hb), A.d0.trans sm, fun q hq => (A.f q hq).mono sm⟩, ?_⟩
  · rw [upd_ne (ne b hb)]; exact A.nt b hb
  · rw [off_ne np, upd_same]
theorem RD.new {o : HO} {d : PyData} {T : V → Hp → Prop} (hd : ∀ (D : Hp) (p : Addr), (∀ q ∈ l, Dt K D q.1 q.2) → D p = some o → Dt K D (.ref p) d) (k : ∀ v, RD K D0 R ((v, d) :: l) (T v)) :
    RD K D0 R l (fun H => ∀ p, H p = none → T (.ref p) (upd H p o)) := fun N H A p hp => by
  obtain ⟨A', e⟩ := A.new o hp
  exact k (.ref p) N _ (A'.facts (hd _ p A'.f e))
/-- a new object that may change -/
theorem At.newOwn (A : At K D0 R l N H) {p : Addr} {xs : List V} {ds : List PyData} (hp : H p = none) (hx : DtAll K (off H N) xs ds) : At K D0 (star (own K p ds) R) l (fun b => b = p ∨ N b) (upd H p (.lst xs)) := by
  have np : ¬ N p := fun h => A.nn p h hp
  have ne : ∀ b, N b → b ≠ p := fun b hb z => np (z ▸ hb)
  have sm : Same (off H N) (off (upd H p (.lst xs)) (fun b => b = p ∨ N b)) := fun b u h => by
    by_cases hb : N b
    · unfold off at h; rw [if_pos hb] at h; cases h
    · rw [off_ne hb] at h
      have nb := ne_of_none h hp
      rw [off_ne (fun z => z.elim nb hb), upd_ne nb]
      exact h
  refine ⟨fun b hb => ?_, ⟨fun b => b = p, N, fun b => Iff.rfl, fun b x y => ne b y x, ⟨fun b => Iff.rfl, xs, upd_same, hx.mono sm⟩, R.st A.r sm fun b hb => upd_ne (ne b hb)⟩, A.d0.trans sm, fun q hq => (A.f q hq).mono sm⟩
  rcases hb with rfl | hb
  · exact ⟨_, upd_same, fun _ z => by cases z⟩
  · rw [upd_ne (ne b hb)]; exact A.nt b hb
theorem RD.newOwn {xs : List V} {ds : List PyData} {T : V → Hp → Prop} (hx : InLs l xs ds) (k : ∀ a, RD K D0 (star (own K a ds) R) l (T (.ref a))) :
    RD K D0 R l (fun H => ∀ p, H p = none → T (.ref p) (upd H p (.lst xs))) := fun N H A p hp => k p _ _ (A.newOwn hp (A.dts hx))
/-- the list at a is written -/
theorem At.setOwn {a : Addr} {ds es : List PyData} {ys : List V} (A : At K D0 (star (own K a ds) R) l N H) (hy : DtAll K (off H N) ys es) : At K D0 (star (own K a es) R) l N (upd H a (.lst ys)) := by
  obtain ⟨N1, N2, e, dj, ⟨e1, xs, hx, dx⟩, h2⟩ := A.r
  have na : N a := (e a).2 (.inl ((e1 a).2 rfl))
  have sm : Same (off H N) (off (upd H a (.lst ys)) N) := fun b u h => by
    by_cases hb : N b
    · unfold off at h; rw [if_pos hb] at h; cases h
    · rw [off_ne hb] at h ⊢
      rw [upd_ne (fun z => hb (by rw [z]; exact na))]
      exact h
  refine ⟨fun b hb => ?_, ⟨N1, N2, e, dj, ⟨e1, ys, upd_same, hy.mono sm⟩, R.st h2 sm fun b hb => upd_ne fun z => dj b ((e1 b).2 z) hb⟩, A.d0.trans sm, fun q hq => (A.f q hq).mono sm⟩
  by_cases z : b = a
  · rw [z]; exact ⟨_, upd_same, fun _ z => by cases z⟩
  · rw [upd_ne z]; exact A.nt b hb
/-- the list is no more changed -/
theorem At.freeze {a : Addr} {ds : List PyData} (A : At K D0 (star (own K a ds) R) l N H) : ∃ N', At K D0 R ((.ref a, .list ds) :: l) N' H := by
  obtain ⟨N1, N2, e, dj, ⟨e1, xs, hx, dx⟩, h2⟩ := A.r
  have na : ¬ N2 a := fun z => dj a ((e1 a).2 rfl) z
  have sm : Same (off H N) (off H N2) := fun b u h => by
    by_cases hb : N b
    · unfold off at h; rw [if_pos hb] at h; cases h
    · rw [off_ne hb] at h
      rw [off_ne (fun z => hb ((e b).2 (.inr z)))]
      exact h
  refine ⟨N2, fun b hb => A.nt b ((e b).2 (.inr hb)), R.st h2 sm fun _ _ => rfl, A.d0.trans sm, fun q hq => ?_⟩
  rcases List.mem_cons.mp hq with rfl | hq
  · exact .lst (by rw [off_ne na]; exact hx) (dx.mono sm)
  · exact (A.f q hq).mono sm
theorem RD.freeze {a : Addr} {ds : List PyData} (k : RD K D0 R ((.ref a, .list ds) :: l) T) : RD K D0 (star (own K a ds) R) l T := fun N H A => by
  obtain ⟨N', A'⟩ := A.freeze
  exact k N' H A'
theorem At.ownAt {a : Addr} {ds : List PyData} (A : At K D0 (star (own K a ds) R) l N H) : ∃ xs, H a = some (.lst xs) ∧ DtAll K (off H N) xs ds := by
  obtain ⟨N1, N2, e, dj, ⟨e1, xs, hx, dx⟩, h2⟩ := A.r
  exact ⟨xs, hx, dx⟩
theorem RD.rot {R1 R2 R3 : Res} (k : RD K D0 (star R2 (star R1 R3)) l T) : RD K D0 (star R1 (star R2 R3)) l T := RD.res star_swap k
end
end GL

/-! G3: readings that serve several kinds of values, and what RD needs for each reading. -/
namespace GL
open PySem PySem.Spec L2
mutual
theorem Dt.plain {K : PySem.W.Frag} {H : Hp} {v : V} {d : PyData} : Dt K H v d → d.plain = true
  | .non => by simp only [PyData.plain]
  | .bl b => by simp only [PyData.plain]
  | .int i => by simp only [PyData.plain]
  | .str x => by simp only [PyData.plain]
  | .lst h r => by simp only [PyData.plain]; exact DtAll.plain r
  | .tup h r => by simp only [PyData.plain]; exact DtAll.plain r
theorem DtAll.plain {K : PySem.W.Frag} {H : Hp} {vs : List V} {ds : List PyData} : DtAll K H vs ds → PyData.plainAll ds = true
  | .nil => by simp only [PyData.plainAll]
  | .cons a b => by simp only [PyData.plainAll, Dt.plain a, DtAll.plain b, Bool.and_self]
end
section
variable {X : Cx}
def gAdd (K : PySem.W.Frag) : R2 := fun x y H Q => rI0 (fun i j => .int (i + j)) x y H Q ∨ (∃ i j, x = .str i ∧ y = .str j ∧ i.length + j.length ≤ sizeLine ∧ Q (.str (i ++ j)) H) ∨ rCat x y H Q ∨ rCatT K x y H Q
theorem op_gadd : OpR X (binaryOp .Add) (gAdd X.K) := op_add.or (op_add_str.or (op_cat.or op_catT))
def gMul : R2 := fun x y H Q => rI CMul (fun i j => .int (i * j)) x y H Q ∨ rRep x y H Q
theorem op_gmul : OpR X (binaryOp .Mult) gMul := op_mul.or op_rep
/-- ==, !=, in, not in over data -/
def gEq (K : PySem.W.Frag) : R2 := fun x y H Q => ∃ d e, Dt K H x d ∧ Dt K H y e ∧ d.depth ≤ 60 ∧ Q (.bl (PyData.eqv d e)) H
def gNe (K : PySem.W.Frag) : R2 := fun x y H Q => ∃ d e, Dt K H x d ∧ Dt K H y e ∧ d.depth ≤ 60 ∧ Q (.bl (!PyData.eqv d e)) H
theorem op_geq (hu : X.A.units + 64 < cLine) : OpR X (compareOp .Eq) (gEq X.K) := by
  intro pins s σ H x y v u Q I rx ry h
  obtain ⟨d, e, hd, he, dp, q⟩ := h
  obtain ⟨as, r1⟩ := Dp.reads I d x v hd.dp rx
  obtain ⟨bs, r2⟩ := Dp.reads I e y u he.dp ry
  exact PySem.SeqAt.eq_plain r1 r2 hd.plain he.plain (by omega) ⟨.bl _, H, I, rfl, q⟩
theorem op_gne (hu : X.A.units + 64 < cLine) : OpR X (compareOp .NotEq) (gNe X.K) := by
  intro pins s σ H x y v u Q I rx ry h
  obtain ⟨d, e, hd, he, dp, q⟩ := h
  obtain ⟨as, r1⟩ := Dp.reads I d x v hd.dp rx
  obtain ⟨bs, r2⟩ := Dp.reads I e y u he.dp ry
  exact PySem.SeqAt.ne_plain r1 r2 hd.plain he.plain (by omega) ⟨.bl _, H, I, rfl, q⟩
def rInP (K : PySem.W.Frag) (neg : Bool) : R2 := fun x y H Q => ∃ d ds, Dt K H x d ∧ (Dt K H y (.list ds) ∨ Dt K H y (.tuple ds)) ∧ d.depth ≤ 60 ∧ Q (.bl (if neg then !ds.any fun e => PyData.eqv e d else ds.any fun e => PyData.eqv e d)) H
def rInSg (neg : Bool) : R2 := fun x y H Q => ∃ (c : Nat) (z : Str), x = .str ⟨#[c]⟩ ∧ y = .str z ∧ Q (.bl (if neg then !decide (c ∈ z.cps.toList) else decide (c ∈ z.cps.toList))) H
def gIn (K : PySem.W.Frag) (neg : Bool) : R2 := fun x y H Q => rInP K neg x y H Q ∨ rInSg neg x y H Q
theorem op_inP (hu : X.A.units + 64 < cLine) : OpR X (compareOp .In) (rInP X.K false) := by
  intro pins s σ H x y v u Q I rx ry h
  obtain ⟨d, ds, hd, he, dp, q⟩ := h
  obtain ⟨as, r1⟩ := Dp.reads I d x v hd.dp rx
  rcases he with he | he
  · obtain ⟨bs, r2⟩ := Dp.reads I _ y u he.dp ry
    exact PySem.SeqAt.in_list_data r2 r1 he.plain hd.plain (by omega) ⟨.bl _, H, I, rfl, q⟩
  · obtain ⟨bs, r2⟩ := Dp.reads I _ y u he.dp ry
    exact PySem.SeqAt.in_tuple_data r2 r1 he.plain hd.plain (by omega) ⟨.bl _, H, I, rfl, q⟩
theorem op_notInP (hu : X.A.units + 64 < cLine) : OpR X (compareOp .NotIn) (rInP X.K true) := by
  intro pins s σ H x y v u Q I rx ry h
  obtain ⟨d, ds, hd, he, dp, q⟩ := h
  obtain ⟨as, r1⟩ := Dp.reads I d x v hd.dp rx
  rcases he with he | he
  · obtain ⟨bs, r2⟩ := Dp.reads I _ y u he.dp ry
    exact PySem.SeqAt.notIn_list_data r2 r1 he.plain hd.plain (by omega) ⟨.bl _, H, I, rfl, q⟩
  · obtain ⟨bs, r2⟩ := Dp.reads I _ y u he.dp ry
    exact PySem.SeqAt.notIn_tuple_data r2 r1 he.plain hd.plain (by omega) ⟨.bl _, H, I, rfl, q⟩
theorem op_gin (hu : X.A.units + 64 < cLine) : OpR X (compareOp .In) (gIn X.K false) := (op_inP hu).or op_in_sign
theorem op_gnotin (hu : X.A.units + 64 < cLine) : OpR X (compareOp .NotIn) (gIn X.K true) := (op_notInP hu).or op_notIn_sign
def gIsN : R2 := fun x y H Q => y = .non ∧ Q (.bl (decide (x = .non))) H
def gNotN : R2 := fun x y H Q => y = .non ∧ Q (.bl (!decide (x = .non))) H
def gLen (K : PySem.W.Frag) : List V → Hp → VK → Prop := fun xs H Q => ∃ x n, xs = [x] ∧ LenV K x H n ∧ Q (.int (n : Nat)) H
def gFind3 : V → List V → Hp → VK → Prop := fun x xs H Q => ∃ (a b : Str) (i : Int), x = .str a ∧ xs = [.str b, .int i] ∧ Q (.int (Txt.find3 a b i)) H
def gJoin (K : PySem.W.Frag) : V → List V → Hp → VK → Prop := fun x xs H Q => ∃ a p, ∃ ys : List Str, x = .str a ∧ xs = [.ref p] ∧ (SqL K H p (ys.map V.str) ∨ SqT K H p (ys.map V.str)) ∧
    (ys.map (·.length)).sum + ys.length * a.length ≤ 16777216 ∧ Q (.str (Txt.join a ys)) H
def gList (K : PySem.W.Frag) : List V → Hp → VK → Prop := fun xs H Q => ∃ p ys, xs = [.ref p] ∧ (SqL K H p ys ∨ SqT K H p ys) ∧ ∀ l, H l = none → Q (.ref l) (upd H l (.lst ys))
def gTuple (K : PySem.W.Frag) : List V → Hp → VK → Prop := fun xs H Q => ∃ p ys, xs = [.ref p] ∧ ((SqL K H p ys ∧ ∀ l, H l = none → Q (.ref l) (upd H l (.tup ys))) ∨ (SqT K H p ys ∧ Q (.ref p) H))
/-- what stands behind a part of a reading -/
def kBl (x : V) (H : Hp) (Qb : Bool → Hp → Prop) : Prop := ∃ b, x = .bl b ∧ Qb b H
def kTup (xs : List V) (H1 : Hp) (Q : VK) : Prop := xs.length ≤ sizeLine ∧ ∀ p, H1 p = none → Q (.ref p) (upd H1 p (.tup xs))
def kLst (xs : List V) (H1 : Hp) (Q : VK) : Prop := xs.length ≤ sizeLine ∧ ∀ p, H1 p = none → Q (.ref p) (upd H1 p (.lst xs))
def kPart (x : V) (H1 : Hp) (Q : Option Int → Hp → Prop) : Prop := ∃ i, x = .int i ∧ Q (some i) H1
end
section
variable {K : PySem.W.Frag} {D0 : Hp} {R : Res} {l : List (V × PyData)} {σ : St} {D : Ends} {Q : VK}

/-! ### statements -/
theorem d_seq {t u : TS} (k : RD K D0 R l (fun H => t { D with nx := u D } σ H)) : RD K D0 R l (fun H => tSeq t u D σ H) := k
theorem d_next (k : RD K D0 R l (fun H => D.nx σ H)) : RD K D0 R l (fun H => tNext D σ H) := k
theorem d_asg {te : TE} {g : TG} (k : RD K D0 R l (fun H => te σ H fun x H1 => g x σ H1 D.nx)) : RD K D0 R l (fun H => tAsg te g D σ H) := k
theorem d_name {i : Nat} {v : V} {σ' : St} {Qn : St → Hp → Prop} (e : σ.set i (some v) = σ') (k : RD K D0 R l (Qn σ')) : RD K D0 R l (fun H => gName i v σ H Qn) := by subst e; exact k
theorem d_ret {te : TE} (k : RD K D0 R l (fun H => te σ H D.rt)) : RD K D0 R l (fun H => tRet te D σ H) := k
theorem d_retN (k : RD K D0 R l (D.rt .non)) : RD K D0 R l (fun H => tRetN D σ H) := k
theorem d_drop {te : TE} (k : RD K D0 R l (fun H => te σ H fun _ H1 => D.nx σ H1)) : RD K D0 R l (fun H => tDrop te D σ H) := k
theorem d_ifS {c : TT} {t u : TS} (k : RD K D0 R l (fun H => c σ H fun b H1 => if b = true then t D σ H1 else u D σ H1)) : RD K D0 R l (fun H => tIfS c t u D σ H) := k
theorem d_break (k : RD K D0 R l (fun H => D.bk σ H)) : RD K D0 R l (fun H => tBreak D σ H) := k
theorem d_cont (k : RD K D0 R l (fun H => D.ct σ H)) : RD K D0 R l (fun H => tCont D σ H) := k

/-! ### tests -/
theorem d_ite {b : Bool} {T1 T2 : Hp → Prop} (h1 : b = true → RD K D0 R l T1) (h2 : b = false → RD K D0 R l T2) : RD K D0 R l (fun H => if b = true then T1 H else T2 H) := by
  intro N H A
  cases b with
  | true => exact iteT (h1 rfl N H A)
  | false => exact iteF (h2 rfl N H A)
theorem d_iteP {p : Prop} [Decidable p] {T1 T2 : Hp → Prop} (h1 : p → RD K D0 R l T1) (h2 : ¬ p → RD K D0 R l T2) : RD K D0 R l (fun H => if decide p = true then T1 H else T2 H) :=
  d_ite (fun e => h1 (of_decide_eq_true e)) (fun e => h2 (of_decide_eq_false e))
theorem d_iteT {T1 T2 : Hp → Prop} (h : RD K D0 R l T1) : RD K D0 R l (fun H => if true = true then T1 H else T2 H) := fun N H A => iteT (h N H A)
theorem d_iteF {T1 T2 : Hp → Prop} (h : RD K D0 R l T2) : RD K D0 R l (fun H => if false = true then T1 H else T2 H) := fun N H A => iteF (h N H A)
theorem d_iteNT {T1 T2 : Hp → Prop} (h : RD K D0 R l T2) : RD K D0 R l (fun H => if (!true) = true then T1 H else T2 H) := fun N H A => iteF (h N H A)
theorem d_iteNF {T1 T2 : Hp → Prop} (h : RD K D0 R l T1) : RD K D0 R l (fun H => if (!false) = true then T1 H else T2 H) := fun N H A => iteT (h N H A)
theorem d_iteY {b : Bool} {T1 T2 : Hp → Prop} (e : b = true) (h : RD K D0 R l T1) : RD K D0 R l (fun H => if b = true then T1 H else T2 H) := by subst e; exact d_iteT h
theorem d_iteN {b : Bool} {T1 T2 : Hp → Prop} (e : b = false) (h : RD K D0 R l T2) : RD K D0 R l (fun H => if b = true then T1 H else T2 H) := by subst e; exact d_iteF h
theorem d_test {t : TE} {Qb : Bool → Hp → Prop} (k : RD K D0 R l (fun H => t σ H fun x H' => kBl x H' Qb)) : RD K D0 R l (fun H => tTest t σ H Qb) := k
theorem d_tB {t : TE} {Qb : Bool → Hp → Prop} (k : RD K D0 R l (fun H => t σ H fun x H' => kBl x H' Qb)) : RD K D0 R l (fun H => tB t σ H Qb) := k
theorem d_bl {b : Bool} {Qb : Bool → Hp → Prop} (k : RD K D0 R l (Qb b)) : RD K D0 R l (fun H => kBl (.bl b) H Qb) := fun N H A => ⟨b, rfl, k N H A⟩

/-! ### names, constants, operators -/
theorem d_var {i : Nat} {v : V} (h : σ[i]? = some (some v)) (k : RD K D0 R l (Q v)) : RD K D0 R l (fun H => tVar i σ H Q) := fun N H A => ⟨v, h, k N H A⟩
theorem d_C {v : V} (k : RD K D0 R l (Q v)) : RD K D0 R l (fun H => tC v σ H Q) := k
theorem d_op {r : R2} {ta tb : TE} (k : RD K D0 R l (fun H => ta σ H fun x H1 => tb σ H1 fun y H2 => r x y H2 Q)) : RD K D0 R l (fun H => tOp r ta tb σ H Q) := k
theorem d_nil {Q : List V → Hp → Prop} (k : RD K D0 R l (Q [])) : RD K D0 R l (fun H => tNil σ H Q) := k
theorem d_cons {ta : TE} {tr : TA} {Q : List V → Hp → Prop} (k : RD K D0 R l (fun H => ta σ H fun x H1 => tr σ H1 fun xs H2 => Q (x :: xs) H2)) : RD K D0 R l (fun H => tCons ta tr σ H Q) := k
theorem d_cb {r : List V → Hp → VK → Prop} {t : TA} (k : RD K D0 R l (fun H => t σ H fun vs H1 => r vs H1 Q)) : RD K D0 R l (fun H => tCB r t σ H Q) := k
theorem d_g {sp : Sp} {W : WX} {t : TA} (k : RD K D0 R l (fun H => t σ H fun vs H1 => sp vs H1 Q (WE W σ))) : RD K D0 R l (fun H => tG sp W t σ H Q) := k
theorem d_tif {c : TT} {ta tb : TE} (k : RD K D0 R l (fun H => c σ H fun b H1 => if b = true then ta σ H1 Q else tb σ H1 Q)) : RD K D0 R l (fun H => tIf c ta tb σ H Q) := k
theorem d_I0 {g : Int → Int → V} {i j : Int} (k : RD K D0 R l (Q (g i j))) : RD K D0 R l (fun H => rI0 g (.int i) (.int j) H Q) := fun N H A => ⟨i, j, rfl, rfl, k N H A⟩
theorem d_I {C : Int → Int → Prop} {g : Int → Int → V} {i j : Int} (c : C i j) (k : RD K D0 R l (Q (g i j))) : RD K D0 R l (fun H => rI C g (.int i) (.int j) H Q) := fun N H A => ⟨i, j, rfl, rfl, c, k N H A⟩
theorem d_addI {i j : Int} (k : RD K D0 R l (Q (.int (i + j)))) : RD K D0 R l (fun H => gAdd K (.int i) (.int j) H Q) := fun N H A => .inl ⟨i, j, rfl, rfl, k N H A⟩
theorem d_addS {i j : Str} (h : i.length + j.length ≤ sizeLine) (k : RD K D0 R l (Q (.str (i ++ j)))) : RD K D0 R l (fun H => gAdd K (.str i) (.str j) H Q) := fun N H A => .inr (.inl ⟨i, j, rfl, rfl, h, k N H A⟩)
theorem d_mulI {i j : Int} (c : CMul i j) (k : RD K D0 R l (Q (.int (i * j)))) : RD K D0 R l (fun H => gMul (.int i) (.int j) H Q) := fun N H A => .inl ⟨i, j, rfl, rfl, c, k N H A⟩
theorem d_isN {x : V} (k : RD K D0 R l (Q (.bl (decide (x = .non))))) : RD K D0 R l (fun H => gIsN x .non H Q) := fun N H A => ⟨rfl, k N H A⟩
theorem d_notN {x : V} (k : RD K D0 R l (Q (.bl (!decide (x = .non))))) : RD K D0 R l (fun H => gNotN x .non H Q) := fun N H A => ⟨rfl, k N H A⟩

/-- what a value of this data must be, where it is plain -/
def Dv (v : V) : PyData → Prop
  | .none => v = .non
  | .bool b => v = .bl b
  | .int i => v = .int i
  | .str x => v = .str x
  | .list _ => ∃ a, v = .ref a
  | .tuple _ => ∃ a, v = .ref a
  | .dict _ => True
theorem Dt.dv {H : Hp} {v : V} {d : PyData} (h : Dt K H v d) : Dv v d := by
  cases h <;> first | rfl | exact ⟨_, rfl⟩
/-- lists and tuples by data -/
theorem Dt.list {H : Hp} {v : V} {ds : List PyData} (h : Dt K H v (.list ds)) : ∃ a xs, v = .ref a ∧ H a = some (.lst xs) ∧ DtAll K H xs ds := by
  cases h with
  | lst h r => exact ⟨_, _, rfl, h, r⟩
theorem Dt.tuple {H : Hp} {v : V} {ds : List PyData} (h : Dt K H v (.tuple ds)) : ∃ a xs, v = .ref a ∧ SqT K H a xs ∧ DtAll K H xs ds := by
  cases h with
  | tup h r => exact ⟨_, _, rfl, h, r⟩

/-! ### displays -/
theorem d_tup {t : TA} (k : RD K D0 R l (fun H => t σ H fun xs H1 => kTup xs H1 Q)) : RD K D0 R l (fun H => tTup t σ H Q) := k
theorem d_lst {t : TA} (k : RD K D0 R l (fun H => t σ H fun xs H1 => kLst xs H1 Q)) : RD K D0 R l (fun H => tLst t σ H Q) := k
theorem d_newT {xs : List V} {ds : List PyData} (hl : xs.length ≤ sizeLine) (hx : InLs l xs ds) (k : ∀ v, RD K D0 R ((v, .tuple ds) :: l) (Q v)) : RD K D0 R l (fun H => kTup xs H Q) :=
  fun N H A => ⟨hl, fun p hp => by
    obtain ⟨A', e⟩ := A.new (.tup xs) hp
    exact k _ N _ (A'.facts (.tup (.inl (.inl e)) (A'.dts hx)))⟩
theorem d_newL {xs : List V} {ds : List PyData} (hl : xs.length ≤ sizeLine) (hx : InLs l xs ds) (k : ∀ v, RD K D0 R ((v, .list ds) :: l) (Q v)) : RD K D0 R l (fun H => kLst xs H Q) :=
  fun N H A => ⟨hl, fun p hp => by
    obtain ⟨A', e⟩ := A.new (.lst xs) hp
    exact k _ N _ (A'.facts (.lst e (A'.dts hx)))⟩
theorem d_newO {xs : List V} {ds : List PyData} (hl : xs.length ≤ sizeLine) (hx : InLs l xs ds) (k : ∀ a, RD K D0 (star (own K a ds) R) l (Q (.ref a))) : RD K D0 R l (fun H => kLst xs H Q) :=
  fun N H A => ⟨hl, fun p hp => k p _ _ (A.newOwn hp (A.dts hx))⟩

/-! ### ==, !=, by data -/
theorem d_eq {x y : V} {d e : PyData} (hx : InL l x d) (hy : InL l y e) (dp : d.depth ≤ 60) (k : RD K D0 R l (Q (.bl (PyData.eqv d e)))) : RD K D0 R l (fun H => gEq K x y H Q) :=
  fun N H A => ⟨d, e, A.dH hx, A.dH hy, dp, k N H A⟩
theorem d_ne {x y : V} {d e : PyData} (hx : InL l x d) (hy : InL l y e) (dp : d.depth ≤ 60) (k : RD K D0 R l (Q (.bl (!PyData.eqv d e)))) : RD K D0 R l (fun H => gNe K x y H Q) :=
  fun N H A => ⟨d, e, A.dH hx, A.dH hy, dp, k N H A⟩
theorem eqv_int {i j : Int} : PyData.eqv (.int i) (.int j) = decide (i = j) := by simp only [PyData.eqv]; exact Bool.beq_eq_decide_eq i j
theorem eqv_str {i j : Str} : PyData.eqv (.str i) (.str j) = decide (i = j) := by simp only [PyData.eqv]; exact Bool.beq_eq_decide_eq i j
theorem eqv_bool {i j : Bool} : PyData.eqv (.bool i) (.bool j) = decide (i = j) := by simp only [PyData.eqv]; exact Bool.beq_eq_decide_eq i j
theorem dep0 {n : Nat} (h : n = 0) : n ≤ 60 := by omega
theorem d_eqI {i j : Int} (k : RD K D0 R l (Q (.bl (decide (i = j))))) : RD K D0 R l (fun H => gEq K (.int i) (.int j) H Q) := d_eq (.int i) (.int j) (dep0 (by simp only [PyData.depth])) (by rw [eqv_int]; exact k)
theorem d_neI {i j : Int} (k : RD K D0 R l (Q (.bl (!decide (i = j))))) : RD K D0 R l (fun H => gNe K (.int i) (.int j) H Q) := d_ne (.int i) (.int j) (dep0 (by simp only [PyData.depth])) (by rw [eqv_int]; exact k)
theorem d_eqS {i j : Str} (k : RD K D0 R l (Q (.bl (decide (i = j))))) : RD K D0 R l (fun H => gEq K (.str i) (.str j) H Q) := d_eq (.str i) (.str j) (dep0 (by simp only [PyData.depth])) (by rw [eqv_str]; exact k)
theorem d_neS {i j : Str} (k : RD K D0 R l (Q (.bl (!decide (i = j))))) : RD K D0 R l (fun H => gNe K (.str i) (.str j) H Q) := d_ne (.str i) (.str j) (dep0 (by simp only [PyData.depth])) (by rw [eqv_str]; exact k)
theorem d_eqB {i j : Bool} (k : RD K D0 R l (Q (.bl (decide (i = j))))) : RD K D0 R l (fun H => gEq K (.bl i) (.bl j) H Q) := d_eq (.bl i) (.bl j) (dep0 (by simp only [PyData.depth])) (by rw [eqv_bool]; exact k)
theorem d_neB {i j : Bool} (k : RD K D0 R l (Q (.bl (!decide (i = j))))) : RD K D0 R l (fun H => gNe K (.bl i) (.bl j) H Q) := d_ne (.bl i) (.bl j) (dep0 (by simp only [PyData.depth])) (by rw [eqv_bool]; exact k)
/-! ### in, not in -/
theorem d_inL {x y : V} {d : PyData} {ds : List PyData} (hx : InL l x d) (hy : InL l y (.list ds)) (dp : d.depth ≤ 60) (k : RD K D0 R l (Q (.bl (ds.any fun e => PyData.eqv e d)))) : RD K D0 R l (fun H => gIn K false x y H Q) :=
  fun N H A => .inl ⟨d, ds, A.dH hx, .inl (A.dH hy), dp, k N H A⟩
theorem d_inT {x y : V} {d : PyData} {ds : List PyData} (hx : InL l x d) (hy : InL l y (.tuple ds)) (dp : d.depth ≤ 60) (k : RD K D0 R l (Q (.bl (ds.any fun e => PyData.eqv e d)))) : RD K D0 R l (fun H => gIn K false x y H Q) :=
  fun N H A => .inl ⟨d, ds, A.dH hx, .inr (A.dH hy), dp, k N H A⟩
theorem d_notInL {x y : V} {d : PyData} {ds : List PyData} (hx : InL l x d) (hy : InL l y (.list ds)) (dp : d.depth ≤ 60) (k : RD K D0 R l (Q (.bl (!ds.any fun e => PyData.eqv e d)))) : RD K D0 R l (fun H => gIn K true x y H Q) :=
  fun N H A => .inl ⟨d, ds, A.dH hx, .inl (A.dH hy), dp, k N H A⟩
theorem d_notInT {x y : V} {d : PyData} {ds : List PyData} (hx : InL l x d) (hy : InL l y (.tuple ds)) (dp : d.depth ≤ 60) (k : RD K D0 R l (Q (.bl (!ds.any fun e => PyData.eqv e d)))) : RD K D0 R l (fun H => gIn K true x y H Q) :=
  fun N H A => .inl ⟨d, ds, A.dH hx, .inr (A.dH hy), dp, k N H A⟩
theorem d_inSg {c : Nat} {z : Str} (k : RD K D0 R l (Q (.bl (decide (c ∈ z.cps.toList))))) : RD K D0 R l (fun H => gIn K false (.str ⟨#[c]⟩) (.str z) H Q) := fun N H A => .inr ⟨c, z, rfl, rfl, k N H A⟩
theorem d_notInSg {c : Nat} {z : Str} (k : RD K D0 R l (Q (.bl (!decide (c ∈ z.cps.toList))))) : RD K D0 R l (fun H => gIn K true (.str ⟨#[c]⟩) (.str z) H Q) := fun N H A => .inr ⟨c, z, rfl, rfl, k N H A⟩

/-! ### subscripts, slices, len -/
theorem DtAll.atI {H : Hp} {vs : List V} {ds : List PyData} (h : DtAll K H vs ds) {i : Int} {d : PyData} (e : atI ds i = some d) : ∃ v, atI vs i = some v ∧ Dt K H v d := by
  unfold L2.atI at e ⊢
  rw [h.len]
  cases q : ixN ds.length i with
  | none => rw [q] at e; cases e
  | some j =>
    rw [q] at e
    exact h.at (show ds[j]? = some d from e)
theorem d_ixL {x : V} {i : Int} {ds : List PyData} {d : PyData} (hx : InL l x (.list ds)) (hi : atI ds i = some d) (k : ∀ v, Dv v d → RD K D0 R ((v, d) :: l) (Q v)) : RD K D0 R l (fun H => rIx K x (.int i) H Q) := fun N H A => by
  obtain ⟨a, xs, rfl, ha, hd⟩ := (A.dt hx).list
  obtain ⟨v, hv, dv⟩ := hd.atI hi
  exact .inl ⟨a, xs, i, v, rfl, rfl, SqL.of (off_same a _ ha), hv, k v dv.dv N H (A.facts dv)⟩
theorem d_ixT {x : V} {i : Int} {ds : List PyData} {d : PyData} (hx : InL l x (.tuple ds)) (hi : atI ds i = some d) (k : ∀ v, Dv v d → RD K D0 R ((v, d) :: l) (Q v)) : RD K D0 R l (fun H => rIx K x (.int i) H Q) := fun N H A => by
  obtain ⟨a, xs, rfl, ha, hd⟩ := (A.dt hx).tuple
  obtain ⟨v, hv, dv⟩ := hd.atI hi
  exact .inr (.inl ⟨a, xs, i, v, rfl, rfl, same_sqT off_same ha, hv, k v dv.dv N H (A.facts dv)⟩)
theorem d_ixS {z : Str} {i : Int} {c : Nat} (hz : z.length ≤ sizeLine) (hi : atI z.cps.toList i = some c) (k : RD K D0 R l (Q (.str ⟨#[c]⟩))) : RD K D0 R l (fun H => rIx K (.str z) (.int i) H Q) := fun N H A =>
  .inr (.inr ⟨z, i, c, rfl, rfl, hz, hi, k N H A⟩)
def gSl (K : PySem.W.Frag) : V → Option Int → Option Int → Hp → VK → Prop := fun x lo hi H Q => rSlL K x lo hi H Q ∨ rSlS x lo hi H Q ∨ rSlT K x lo hi H Q
theorem d_noPart {Q : Option Int → Hp → Prop} (k : RD K D0 R l (Q none)) : RD K D0 R l (fun H => tNoPart σ H Q) := k
theorem d_part {t : TE} {Q : Option Int → Hp → Prop} (k : RD K D0 R l (fun H => t σ H fun x H1 => kPart x H1 Q)) : RD K D0 R l (fun H => tPart t σ H Q) := k
theorem d_int {i : Int} {Q : Option Int → Hp → Prop} (k : RD K D0 R l (Q (some i))) : RD K D0 R l (fun H => kPart (.int i) H Q) := fun N H A => ⟨i, rfl, k N H A⟩
theorem d_tSl {r : V → Option Int → Option Int → Hp → VK → Prop} {te : TE} {tl th : TO} (k : RD K D0 R l (fun H => te σ H fun x H1 => tl σ H1 fun a H2 => th σ H2 fun b H3 => r x a b H3 Q)) : RD K D0 R l (fun H => tSl r te tl th σ H Q) := k
theorem d_slS {z : Str} {lo hi : Option Int} (hz : z.length ≤ sizeLine) (k : RD K D0 R l (Q (.str (cutS z lo hi)))) : RD K D0 R l (fun H => gSl K (.str z) lo hi H Q) := fun N H A => .inr (.inl ⟨z, rfl, hz, k N H A⟩)
def cutD (xs : List PyData) (lo hi : Option Int) : List PyData := (xs.drop (HT.sIx xs.length 0 lo)).take (HT.sIx xs.length xs.length hi - HT.sIx xs.length 0 lo)
theorem d_slL {x : V} {ds : List PyData} {lo hi : Option Int} (hx : InL l x (.list ds)) (k : ∀ v, RD K D0 R ((v, .list (cutD ds lo hi)) :: l) (Q v)) : RD K D0 R l (fun H => gSl K x lo hi H Q) := fun N H A => by
  obtain ⟨a, xs, rfl, ha, hd⟩ := (A.dt hx).list
  refine .inl ⟨a, xs, rfl, SqL.of (off_same a _ ha), fun p hp => ?_⟩
  obtain ⟨A', e⟩ := A.new (.lst (cutV xs lo hi)) hp
  obtain ⟨a', xs', ea, ha', hd'⟩ := (A'.dt hx).list
  have z : xs' = xs := by
    cases ea
    have z1 := off_same a _ ha'
    have z2 := off_same a _ ha
    rw [upd_ne (ne_of_none z2 hp), z2] at z1
    cases z1
    rfl
  subst z
  refine k _ N _ (A'.facts (.lst e ?_))
  have z2 : cutD ds lo hi = (ds.drop (HT.sIx xs'.length 0 lo)).take (HT.sIx xs'.length xs'.length hi - HT.sIx xs'.length 0 lo) := by unfold cutD; rw [hd.len]
  rw [z2]
  exact (hd'.drop _).take _
theorem d_lenL {x : V} {ds : List PyData} (hx : InL l x (.list ds)) (k : RD K D0 R l (Q (.int ds.length))) : RD K D0 R l (fun H => gLen K [x] H Q) := fun N H A => by
  obtain ⟨a, xs, rfl, ha, hd⟩ := (A.dt hx).list
  exact ⟨_, _, rfl, .inl ⟨xs, SqL.of (off_same a _ ha), hd.len.symm⟩, k N H A⟩
theorem d_lenT {x : V} {ds : List PyData} (hx : InL l x (.tuple ds)) (k : RD K D0 R l (Q (.int ds.length))) : RD K D0 R l (fun H => gLen K [x] H Q) := fun N H A => by
  obtain ⟨a, xs, rfl, ha, hd⟩ := (A.dt hx).tuple
  exact ⟨_, _, rfl, .inr ⟨xs, same_sqT off_same ha, hd.len.symm⟩, k N H A⟩
theorem d_lenS {z : Str} (hz : z.length ≤ sizeLine) (k : RD K D0 R l (Q (.int z.length))) : RD K D0 R l (fun H => gLen K [.str z] H Q) := fun N H A => ⟨_, _, rfl, ⟨hz, rfl⟩, k N H A⟩

/-! ### loops -/
/-- where a loop's turn is to end -/
def Cont (K : PySem.W.Frag) (D0 : Hp) (P : Res → St → List (V × PyData) → Prop) : St → Hp → Prop := fun σ H => ∃ R l N, P R σ l ∧ At K D0 R l N H
theorem d_end {P : Res → St → List (V × PyData) → Prop} {l' : List (V × PyData)} (h : P R σ l') (s : ∀ p ∈ l', InL l p.1 p.2) : RD K D0 R l (Cont K D0 P σ) := fun N H A => ⟨R, l', N, h, A.weak s⟩
def ForK (g : TG) (tb : TS) (D : Ends) (σ : St) (J : It) (H1 : Hp) : Prop := ∃ W : Nat → Nat → St → Hp → Prop, (∃ m, W 0 m σ H1) ∧ ∀ i m σ H, W i m σ H →
    (J.stop i H ∧ D.nx σ H) ∨ (J.go i H ∧ ∃ N : St → Hp → Prop, (∀ σ' H', N σ' H' → ∃ m', m' < m ∧ W (i + 1) m' σ' H') ∧ ∀ x H', J.yld i H x H' → g x σ H' fun σ2 H2 => tb { D with nx := N, ct := N, bk := D.nx } σ2 H2)
theorem d_for {wi : TI} {g : TG} {tb : TS} (k : RD K D0 R l (fun H => wi σ H fun J H1 => ForK g tb D σ J H1)) :
    RD K D0 R l (fun H => tFor wi g tb D σ H) := k
def kRng1 (vs : List V) (H1 : Hp) (Ri : It → Hp → Prop) : Prop := ∃ j : Int, vs = [.int j] ∧ -(2 ^ 62) ≤ j ∧ j < 2 ^ 62 ∧ Ri (Itr 0 j.toNat) H1
theorem d_iRng1 {ta : TA} {Ri : It → Hp → Prop} (k : RD K D0 R l (fun H => ta σ H fun vs H1 => kRng1 vs H1 Ri)) : RD K D0 R l (fun H => iRng1 ta σ H Ri) := k
theorem d_rng1 {j : Int} {Ri : It → Hp → Prop} (h1 : -(2 ^ 62) ≤ j) (h2 : j < 2 ^ 62) (k : RD K D0 R l (Ri (Itr 0 j.toNat))) : RD K D0 R l (fun H => kRng1 [.int j] H Ri) := fun N H A => ⟨j, rfl, h1, h2, k N H A⟩
theorem d_forRange {g : TG} {tb : TS} {lo : Int} {n : Nat} (P : Nat → Res → St → List (V × PyData) → Prop) (h0 : P 0 R σ l)
    (hs : ∀ i R' σ' l', i < n → P i R' σ' l' → RD K D0 R' l' (fun H => g (.int (lo + i)) σ' H fun σ2 H2 => tb { D with nx := Cont K D0 (P (i + 1)), ct := Cont K D0 (P (i + 1)), bk := D.nx } σ2 H2))
    (hd : ∀ R' σ' l', P n R' σ' l' → RD K D0 R' l' (fun H => D.nx σ' H)) :
    RD K D0 R l (fun H => ForK g tb D σ (Itr lo n) H) := fun N H A => by
  refine for_range (fun i => Cont K D0 (P i)) ⟨R, l, N, h0, A⟩ ?_ ?_
  · rintro i σ' H' hi ⟨R', l', N', p, A'⟩
    exact hs i R' σ' l' hi p N' H' A'
  · rintro σ' H' ⟨R', l', N', p, A'⟩
    exact hd R' σ' l' p N' H' A'
end
theorem call_glist {X : Cx} : CallR X (.type "list") (gList X.K) := call_list_of
theorem call_gtuple {X : Cx} : CallR X (.type "tuple") (gTuple X.K) := call_tuple_of
end GL

/-! G4: further readings, the pen. -/
namespace GL
open PySem PySem.Spec L2
abbrev W0 : WX := fun _ _ _ _ => False
abbrev gSub' : R2 := rI0 fun i j => .int (i - j)
abbrev gFdiv : R2 := rI CDiv fun i j => .int (i / j)
abbrev gMod : R2 := rI (fun _ j => 0 < j) fun i j => .int (i % j)
abbrev gPow : R2 := rI CPow fun i j => .int (i ^ j.toNat)
abbrev gLt : R2 := rI0 fun i j => .bl (decide (i < j))
abbrev gLe : R2 := rI0 fun i j => .bl (decide (i ≤ j))
abbrev gGt : R2 := rI0 fun i j => .bl (decide (j < i))
abbrev gGe : R2 := rI0 fun i j => .bl (decide (j ≤ i))
abbrev gNeg : V → Hp → VK → Prop := rU fun i => .int (-i)
/-- a test by truth -/
def tTru (K : PySem.W.Frag) (t : TE) : TT := fun σ H Q => t σ H fun x H1 => ∃ k, TruV K x H1 k ∧ Q k H1
/-- what is walked: a list, a tuple, a text -/
def wIt (K : PySem.W.Frag) (v : V) (H : Hp) (R : It → Hp → Prop) : Prop :=
  (∃ a, v = .ref a ∧ (∃ xs, SqL K H a xs) ∧ R (Itl K a) H) ∨ (∃ a, v = .ref a ∧ (∃ xs, SqT K H a xs) ∧ R (Itt K a) H) ∨ ∃ x, v = .str x ∧ R (Its x) H
def gIt (K : PySem.W.Frag) (t : TE) : TI := fun σ H R => t σ H fun v H1 => wIt K v H1 R
section
variable {X : Cx} {tg e : Expr} {te : TE}
theorem sl_g : SlR X (gSl X.K) := sl_list.or (sl_str.or sl_tup)
theorem pi_g (h : PE X e te) : PI X tg e (gIt X.K te) := by
  constructor
  intro pins s σ H R I q
  apply thn (h.run pins s σ H _ I q)
  rintro v s1 ⟨x, H1, I1, r1, ⟨a, rfl, ⟨xs, hq⟩, z⟩ | ⟨a, rfl, ⟨xs, hq⟩, z⟩ | ⟨x, rfl, z⟩⟩
  · cases r1
    obtain ⟨its, rv, p, _⟩ := I1.list hq
    have z0 : s1.heap.objs.size ≤ s1.heap.objs.size := Nat.le_refl _
    apply wpAny_pyIter_list p.isList
    refine ⟨s1.heap.objs.size, [s1.heap.objs.size], _, _, H1, rfl, I1.kept (t' := s1.toks) (fun b o q => Heap.get?_push_of_some _ q), turn_list a _, ⟨_, Heap.get?_push_size _ rfl, rfl, rfl⟩, ?_, z⟩
    intro b hb
    obtain rfl := List.mem_singleton.mp hb
    exact I1.fpOk z0 (I1.hok.fresh z0)
  · cases r1
    obtain ⟨its, rv, p, _⟩ := I1.tuple hq
    have z0 : s1.heap.objs.size ≤ s1.heap.objs.size := Nat.le_refl _
    apply wpAny_pyIter_tuple (show s1.heap.IsTuple a its.toArray from p)
    refine ⟨s1.heap.objs.size, [s1.heap.objs.size], _, _, H1, rfl, I1.kept (t' := s1.toks) (fun b o q => Heap.get?_push_of_some _ q), turn_tuple a _, ⟨_, Heap.get?_push_size _ rfl, rfl, rfl⟩, ?_, z⟩
    intro b hb
    obtain rfl := List.mem_singleton.mp hb
    exact I1.fpOk z0 (I1.hok.fresh z0)
  · obtain ⟨t, rfl⟩ := r1
    cases ha : x.cps.all (· < 128) with
    | false => exact wpAny_pyIter_wide ha (pi_one (tk := s1.toks) I1 _ (turn_str _ x t "str_iterator" (.inr rfl)) ⟨_, Heap.get?_push_size _ rfl, rfl, rfl⟩ z)
    | true => exact wpAny_pyIter_ascii ha (pi_one (tk := s1.toks) I1 _ (turn_str _ x t "str_ascii_iterator" (.inl rfl)) ⟨_, Heap.get?_push_size _ rfl, rfl, rfl⟩ z)
theorem pt_g (h : PE X e te) (he : ∀ whole, isTrue e X.env whole = (do let v ← whole; standAt e.pos; holding [v] (truthy v)) := by intro _; rfl) : PT X e (tTru X.K te) := pt_truth h he
end
section
variable {K : PySem.W.Frag} {D0 : Hp} {R : Res} {l : List (V × PyData)} {σ : St} {D : Ends} {Q : VK}
def kTru (K : PySem.W.Frag) (x : V) (H1 : Hp) (Qb : Bool → Hp → Prop) : Prop := ∃ c, TruV K x H1 c ∧ Qb c H1
def kTy (K : PySem.W.Frag) (T : String) (x : V) (H1 : Hp) (T' : Hp → Prop) : Prop := tyV K T x H1 ∧ T' H1
theorem d_and {t u : TT} {Qb : Bool → Hp → Prop} (k : RD K D0 R l (fun H => t σ H fun c H1 => if c = true then u σ H1 Qb else Qb false H1)) : RD K D0 R l (fun H => tAnd t u σ H Qb) := k
theorem d_or {t u : TT} {Qb : Bool → Hp → Prop} (k : RD K D0 R l (fun H => t σ H fun c H1 => if c = true then Qb true H1 else u σ H1 Qb)) : RD K D0 R l (fun H => tOr t u σ H Qb) := k
theorem d_not {t : TT} {Qb : Bool → Hp → Prop} (k : RD K D0 R l (fun H => t σ H fun c H1 => Qb (!c) H1)) : RD K D0 R l (fun H => tNot t σ H Qb) := k
theorem d_andV {t u : TE} (k : RD K D0 R l (fun H => t σ H fun x H1 => kBl x H1 fun c H2 => if c = true then u σ H2 Q else Q (.bl false) H2)) : RD K D0 R l (fun H => tAndV t u σ H Q) := k
theorem d_orV {t u : TE} (k : RD K D0 R l (fun H => t σ H fun x H1 => kBl x H1 fun c H2 => if c = true then Q (.bl true) H2 else u σ H2 Q)) : RD K D0 R l (fun H => tOrV t u σ H Q) := k
theorem d_notV {t : TE} (k : RD K D0 R l (fun H => t σ H fun x H1 => kBl x H1 fun c H2 => Q (.bl (!c)) H2)) : RD K D0 R l (fun H => tNotV t σ H Q) := k
theorem d_tru {t : TE} {Qb : Bool → Hp → Prop} (k : RD K D0 R l (fun H => t σ H fun x H1 => kTru K x H1 Qb)) : RD K D0 R l (fun H => tTru K t σ H Qb) := k
theorem d_truB {b : Bool} {Qb : Bool → Hp → Prop} (k : RD K D0 R l (Qb b)) : RD K D0 R l (fun H => kTru K (.bl b) H Qb) := fun N H A => ⟨b, rfl, k N H A⟩
theorem d_truL {x : V} {ds : List PyData} {Qb : Bool → Hp → Prop} (hx : InL l x (.list ds)) (k : RD K D0 R l (Qb (!ds.isEmpty))) : RD K D0 R l (fun H => kTru K x H Qb) := fun N H A => by
  obtain ⟨a, xs, rfl, ha, hd⟩ := (A.dt hx).list
  refine ⟨_, .inl ⟨xs, SqL.of (off_same a _ ha), ?_⟩, k N H A⟩
  cases hd <;> rfl
theorem d_bm {T : String} {r : V → List V → Hp → VK → Prop} {to : TE} {t : TA} (k : RD K D0 R l (fun H => to σ H fun x H1 => kTy K T x H1 fun H2 => t σ H2 fun xs H3 => r x xs H3 Q)) : RD K D0 R l (fun H => tBM K T r to t σ H Q) := k
theorem d_tyS {x : Str} {T' : Hp → Prop} (k : RD K D0 R l T') : RD K D0 R l (fun H => kTy K "str" (.str x) H T') := fun N H A => ⟨rfl, k N H A⟩
theorem d_tyO {a : Addr} {ds : List PyData} {T' : Hp → Prop} (k : RD K D0 (star (own K a ds) R) l T') : RD K D0 (star (own K a ds) R) l (fun H => kTy K "list" (.ref a) H T') := fun N H A => by
  obtain ⟨xs, hx, _⟩ := A.ownAt
  exact ⟨.inl ⟨rfl, xs, SqL.of hx⟩, k N H A⟩
theorem d_append {a : Addr} {ds : List PyData} {y : V} {d : PyData} (hy : InL l y d) (hz : ds.length < sizeLine) (k : RD K D0 (star (own K a (ds ++ [d])) R) l (Q .non)) : RD K D0 (star (own K a ds) R) l (fun H => rAppend (.ref a) [y] H Q) := fun N H A => by
  obtain ⟨xs, hx, hd⟩ := A.ownAt
  exact ⟨a, xs, y, rfl, rfl, hx, by rw [hd.len]; exact hz, k _ _ (A.setOwn (hd.append (.cons (A.dt hy) .nil)))⟩
theorem d_find3 {a b : Str} {i : Int} (k : RD K D0 R l (Q (.int (Txt.find3 a b i)))) : RD K D0 R l (fun H => gFind3 (.str a) [.str b, .int i] H Q) := fun N H A => ⟨a, b, i, rfl, rfl, k N H A⟩
theorem d_joinL {a : Str} {x : V} {ys : List Str} (hx : InL l x (.list (ys.map .str))) (hz : (ys.map (·.length)).sum + ys.length * a.length ≤ 16777216) (k : RD K D0 R l (Q (.str (Txt.join a ys)))) : RD K D0 R l (fun H => gJoin K (.str a) [x] H Q) := fun N H A => by
  obtain ⟨p, xs, rfl, ha, hd⟩ := (A.dt hx).list
  have e := hd.strs
  subst e
  exact ⟨a, p, ys, rfl, rfl, .inl (SqL.of (off_same p _ ha)), hz, k N H A⟩
/-- tuple(xs) of a list that may change, of a list, of a tuple -/
theorem d_tupleO {a : Addr} {ds : List PyData} (k : ∀ v, RD K D0 (star (own K a ds) R) ((v, .tuple ds) :: l) (Q v)) : RD K D0 (star (own K a ds) R) l (fun H => gTuple K [.ref a] H Q) := fun N H A => by
  obtain ⟨xs, hx, hd⟩ := A.ownAt
  refine ⟨a, xs, rfl, .inl ⟨SqL.of hx, fun p hp => ?_⟩⟩
  obtain ⟨A', e⟩ := A.new (.tup xs) hp
  obtain ⟨xs', hx', hd'⟩ := A'.ownAt
  rw [upd_ne (ne_of_none hx hp), hx] at hx'
  cases hx'
  exact k _ N _ (A'.facts (.tup (.inl (.inl e)) hd'))
theorem d_tupleL {x : V} {ds : List PyData} (hx : InL l x (.list ds)) (k : ∀ v, RD K D0 R ((v, .tuple ds) :: l) (Q v)) : RD K D0 R l (fun H => gTuple K [x] H Q) := fun N H A => by
  obtain ⟨a, xs, rfl, ha, hd⟩ := (A.dt hx).list
  have ha' := off_same a _ ha
  refine ⟨a, xs, rfl, .inl ⟨SqL.of ha', fun p hp => ?_⟩⟩
  obtain ⟨A', e⟩ := A.new (.tup xs) hp
  obtain ⟨a', xs', ea, hx', hd'⟩ := (A'.dt hx).list
  cases ea
  have z := off_same a _ hx'
  rw [upd_ne (ne_of_none ha' hp), ha'] at z
  cases z
  exact k _ N _ (A'.facts (.tup (.inl (.inl e)) hd'))

/-! ### walks -/
theorem d_gIt {t : TE} {Ri : It → Hp → Prop} (k : RD K D0 R l (fun H => t σ H fun v H1 => wIt K v H1 Ri)) : RD K D0 R l (fun H => gIt K t σ H Ri) := k
theorem d_forStr {g : TG} {tb : TS} {x : Str} (P : Nat → Res → St → List (V × PyData) → Prop) (h0 : P 0 R σ l)
    (hs : ∀ i c R' σ' l', x.cps.toList[i]? = some c → P i R' σ' l' → RD K D0 R' l' (fun H => g (.str ⟨#[c]⟩) σ' H fun σ2 H2 => tb { D with nx := Cont K D0 (P (i + 1)), ct := Cont K D0 (P (i + 1)), bk := D.nx } σ2 H2))
    (hd : ∀ R' σ' l', P x.cps.toList.length R' σ' l' → RD K D0 R' l' (fun H => D.nx σ' H)) :
    RD K D0 R l (fun H => wIt K (.str x) H fun J H1 => ForK g tb D σ J H1) := fun N H A => by
  refine .inr (.inr ⟨x, rfl, fun i m σ H => m = x.cps.size - i ∧ i ≤ x.cps.size ∧ Cont K D0 (P i) σ H, ⟨_, rfl, Nat.zero_le _, R, l, N, h0, A⟩, ?_⟩)
  rintro i m σ' H' ⟨rfl, hi, c⟩
  by_cases hlt : i < x.cps.size
  · refine .inr ⟨hlt, Cont K D0 (P (i + 1)), fun σ2 H2 p => ⟨x.cps.size - (i + 1), by omega, rfl, hlt, p⟩, ?_⟩
    rintro v H2 ⟨rfl, c', hc, rfl⟩
    obtain ⟨R', l', N', p, A'⟩ := c
    exact hs i c' R' σ' l' (by rw [Array.getElem?_toList]; exact hc) p N' _ A'
  · have e : i = x.cps.size := by omega
    obtain ⟨R', l', N', p, A'⟩ := c
    exact .inl ⟨(show x.cps.size ≤ i by omega), hd R' σ' l' (by rw [Array.length_toList, ← e]; exact p) N' H' A'⟩
theorem d_forList {g : TG} {tb : TS} {v : V} {ds : List PyData} (hv : InL l v (.list ds)) (P : Nat → Res → St → List (V × PyData) → Prop) (hkeep : ∀ i R' σ' l', P i R' σ' l' → InL l' v (.list ds)) (h0 : P 0 R σ l)
    (hs : ∀ i d x R' σ' l', ds[i]? = some d → Dv x d → P i R' σ' l' → RD K D0 R' ((x, d) :: l') (fun H => g x σ' H fun σ2 H2 => tb { D with nx := Cont K D0 (P (i + 1)), ct := Cont K D0 (P (i + 1)), bk := D.nx } σ2 H2))
    (hd : ∀ R' σ' l', P ds.length R' σ' l' → RD K D0 R' l' (fun H => D.nx σ' H)) :
    RD K D0 R l (fun H => wIt K v H fun J H1 => ForK g tb D σ J H1) := fun N H A => by
  obtain ⟨a, xs, rfl, ha, hd0⟩ := (A.dt hv).list
  have hl : ∀ {i R' σ' l' N' H'}, P i R' σ' l' → At K D0 R' l' N' H' → ∃ xs', SqL K H' a xs' ∧ DtAll K (off H' N') xs' ds := fun p A' => by
    obtain ⟨a', xs', e, h', d'⟩ := (A'.dt (hkeep _ _ _ _ p)).list
    cases e
    exact ⟨xs', SqL.of (off_same _ _ h'), d'⟩
  have uniq : ∀ {H' : Hp} {ys zs : List V}, SqL K H' a ys → H' a = some (.lst zs) → True := fun _ _ => trivial
  refine .inl ⟨a, rfl, ⟨xs, SqL.of (off_same _ _ ha)⟩, fun i m σ H => m = ds.length - i ∧ i ≤ ds.length ∧ Cont K D0 (P i) σ H, ⟨_, rfl, Nat.zero_le _, R, l, N, h0, A⟩, ?_⟩
  rintro i m σ' H' ⟨rfl, hi, R', l', N', p, A'⟩
  obtain ⟨xs', hq, d'⟩ := hl p A'
  by_cases hlt : i < ds.length
  · have hx : i < xs'.length := by rw [d'.len]; exact hlt
    refine .inr ⟨⟨xs', xs'[i], hq, by simp [hx]⟩, Cont K D0 (P (i + 1)), fun σ2 H2 p => ⟨ds.length - (i + 1), by omega, rfl, hlt, p⟩, ?_⟩
    rintro x H2 ⟨rfl, hy⟩
    obtain ⟨d, e1, e2⟩ := d'.get (hy xs' hq)
    exact hs i d x R' σ' l' e1 e2.dv p N' _ (A'.facts e2)
  · have e : i = ds.length := by omega
    subst e
    exact .inl ⟨⟨xs', hq, by rw [d'.len]; exact Nat.le_refl _⟩, hd R' σ' l' p N' H' A'⟩
theorem d_forTup {g : TG} {tb : TS} {v : V} {ds : List PyData} (hv : InL l v (.tuple ds)) (P : Nat → Res → St → List (V × PyData) → Prop) (hkeep : ∀ i R' σ' l', P i R' σ' l' → InL l' v (.tuple ds)) (h0 : P 0 R σ l)
    (hs : ∀ i d x R' σ' l', ds[i]? = some d → Dv x d → P i R' σ' l' → RD K D0 R' ((x, d) :: l') (fun H => g x σ' H fun σ2 H2 => tb { D with nx := Cont K D0 (P (i + 1)), ct := Cont K D0 (P (i + 1)), bk := D.nx } σ2 H2))
    (hd : ∀ R' σ' l', P ds.length R' σ' l' → RD K D0 R' l' (fun H => D.nx σ' H)) :
    RD K D0 R l (fun H => wIt K v H fun J H1 => ForK g tb D σ J H1) := fun N H A => by
  obtain ⟨a, xs, rfl, ha, hd0⟩ := (A.dt hv).tuple
  have hl : ∀ {i R' σ' l' N' H'}, P i R' σ' l' → At K D0 R' l' N' H' → ∃ xs', SqT K H' a xs' ∧ DtAll K (off H' N') xs' ds := fun p A' => by
    obtain ⟨a', xs', e, h', d'⟩ := (A'.dt (hkeep _ _ _ _ p)).tuple
    cases e
    exact ⟨xs', same_sqT off_same h', d'⟩
  refine .inr (.inl ⟨a, rfl, ⟨xs, same_sqT off_same ha⟩, fun i m σ H => m = ds.length - i ∧ i ≤ ds.length ∧ Cont K D0 (P i) σ H, ⟨_, rfl, Nat.zero_le _, R, l, N, h0, A⟩, ?_⟩)
  rintro i m σ' H' ⟨rfl, hi, R', l', N', p, A'⟩
  obtain ⟨xs', hq, d'⟩ := hl p A'
  by_cases hlt : i < ds.length
  · have hx : i < xs'.length := by rw [d'.len]; exact hlt
    refine .inr ⟨⟨xs', xs'[i], hq, by simp [hx]⟩, Cont K D0 (P (i + 1)), fun σ2 H2 p => ⟨ds.length - (i + 1), by omega, rfl, hlt, p⟩, ?_⟩
    rintro x H2 ⟨rfl, hy⟩
    obtain ⟨d, e1, e2⟩ := d'.get (hy xs' hq)
    exact hs i d x R' σ' l' e1 e2.dv p N' _ (A'.facts e2)
  · have e : i = ds.length := by omega
    subst e
    exact .inl ⟨⟨xs', hq, by rw [d'.len]; exact Nat.le_refl _⟩, hd R' σ' l' p N' H' A'⟩
/-- name += e -/
theorem d_aug {i : Nat} {v : V} {te : TE} {ti : TIp} (h : σ[i]? = some (some v)) (k : RD K D0 R l (fun H => te σ H fun y H1 => ti v y H1 fun z H2 => D.nx (σ.set i (some z)) H2)) : RD K D0 R l (fun H => tAug i te ti D σ H) := fun N H A => ⟨v, h, k N H A⟩
theorem d_ipI {f : Int → Int → Int} {i j : Int} (k : RD K D0 R l (Q (.int (f i j)))) : RD K D0 R l (fun H => ipI f (.int i) (.int j) H Q) := fun N H A => ⟨i, j, rfl, rfl, k N H A⟩
theorem d_set {i : Nat} {v : V} {σ' : St} {Qn : St → Hp → Prop} (e : σ.set i (some v) = σ') (k : RD K D0 R l (Qn σ')) : RD K D0 R l (fun H => Qn (σ.set i (some v)) H) := by subst e; exact k

/-! ### comprehensions -/
def LcK (g : TG) (tt : TT) (te : TE) (vs : List Nat) (σ : St) (Q : VK) (J : It) (H1 : Hp) : Prop := ∀ D, H1 D = none → ∃ W : Nat → Nat → Hp → Prop, (∃ m, W 0 m (upd H1 D (.lst []))) ∧ ∀ i m H, W i m H →
  (J.stop i H ∧ Q (.ref D) H) ∨ (J.go i H ∧ ∃ Nx : Hp → Prop, (∀ H', Nx H' → ∃ m', m' < m ∧ W (i + 1) m' H') ∧ ∀ x H', J.yld i H x H' → g x (wipe σ vs) H' fun σ2 H2 => wipe σ2 vs = wipe σ vs ∧ tt σ2 H2 fun b H3 =>
    if b = true then te σ2 H3 fun y H4 => ∃ acc, H4 D = some (.lst acc) ∧ acc.length < sizeLine ∧ Nx (upd H4 D (.lst (acc ++ [y]))) else Nx H3)
def kWipe (σ2 : St) (vs : List Nat) (σ : St) (H : Hp) (T : Hp → Prop) : Prop := wipe σ2 vs = wipe σ vs ∧ T H
def kItem (D : Addr) (y : V) (H4 : Hp) (Nx : Hp → Prop) : Prop := ∃ acc, H4 D = some (.lst acc) ∧ acc.length < sizeLine ∧ Nx (upd H4 D (.lst (acc ++ [y])))
/-- a turn of a comprehension; what is made so far stands at D -/
def ContC (K : PySem.W.Frag) (D0 : Hp) (D : Addr) (P : Res → List (V × PyData) → List PyData → Prop) : Hp → Prop := fun H => ∃ R l es N, P R l es ∧ At K D0 (star (own K D es) R) l N H
theorem d_lc {wi : TI} {g : TG} {tt : TT} {te : TE} {vs : List Nat} (k : RD K D0 R l (fun H => wi σ H fun J H1 => LcK g tt te vs σ Q J H1)) : RD K D0 R l (fun H => tLc wi g tt te vs σ H Q) := k
/-- the turn's new item -/
theorem d_item {D : Addr} {es : List PyData} {y : V} {d : PyData} {P : Res → List (V × PyData) → List PyData → Prop} {l' : List (V × PyData)} (hy : InL l y d) (hz : es.length < sizeLine) (h : P R l' (es ++ [d])) (s : ∀ p ∈ l', InL l p.1 p.2) :
    RD K D0 (star (own K D es) R) l (fun H => kItem D y H (ContC K D0 D P)) := fun N H A => by
  obtain ⟨xs, hx, hd⟩ := A.ownAt
  refine ⟨xs, hx, by rw [hd.len]; exact hz, R, l', es ++ [d], N, h, ?_⟩
  exact (A.setOwn (hd.append (.cons (A.dt hy) .nil))).weak s
theorem d_noItem {D : Addr} {es : List PyData} {P : Res → List (V × PyData) → List PyData → Prop} {l' : List (V × PyData)} (h : P R l' es) (s : ∀ p ∈ l', InL l p.1 p.2) : RD K D0 (star (own K D es) R) l (ContC K D0 D P) :=
  fun N H A => ⟨R, l', es, N, h, A.weak s⟩
theorem d_lcRange {lo : Int} {n : Nat} {g : TG} {tt : TT} {te : TE} {vs : List Nat} (P : Nat → Res → List (V × PyData) → List PyData → Prop) (h0 : P 0 R l [])
    (hs : ∀ i D R' l' es, i < n → P i R' l' es → RD K D0 (star (own K D es) R') l' (fun H => g (.int (lo + i)) (wipe σ vs) H fun σ2 H2 => kWipe σ2 vs σ H2 fun H2 => tt σ2 H2 fun b H3 =>
      if b = true then te σ2 H3 fun y H4 => kItem D y H4 (ContC K D0 D (P (i + 1))) else ContC K D0 D (P (i + 1)) H3))
    (hd : ∀ v R' l' es, P n R' l' es → RD K D0 R' ((v, .list es) :: l') (Q v)) :
    RD K D0 R l (fun H => LcK g tt te vs σ Q (Itr lo n) H) := fun N H A D hD => by
  refine lc_range (Qd := Q (.ref D)) (fun i => ContC K D0 D (P i)) ⟨R, l, [], _, h0, A.newOwn hD .nil⟩ ?_ ?_
  · rintro i H' hi ⟨R', l', es, N', p, A'⟩
    exact hs i D R' l' es hi p N' H' A'
  · rintro H' ⟨R', l', es, N', p, A'⟩
    obtain ⟨N2, A2⟩ := A'.freeze
    exact hd (.ref D) R' l' es p N2 H' A2
theorem d_lcStr {x : Str} {g : TG} {tt : TT} {te : TE} {vs : List Nat} (P : Nat → Res → List (V × PyData) → List PyData → Prop) (h0 : P 0 R l [])
    (hs : ∀ i c D R' l' es, x.cps.toList[i]? = some c → P i R' l' es → RD K D0 (star (own K D es) R') l' (fun H => g (.str ⟨#[c]⟩) (wipe σ vs) H fun σ2 H2 => kWipe σ2 vs σ H2 fun H2 => tt σ2 H2 fun b H3 =>
      if b = true then te σ2 H3 fun y H4 => kItem D y H4 (ContC K D0 D (P (i + 1))) else ContC K D0 D (P (i + 1)) H3))
    (hd : ∀ v R' l' es, P x.cps.toList.length R' l' es → RD K D0 R' ((v, .list es) :: l') (Q v)) :
    RD K D0 R l (fun H => wIt K (.str x) H fun J H1 => LcK g tt te vs σ Q J H1) := fun N H A => by
  refine .inr (.inr ⟨x, rfl, fun D hD => ⟨fun i m H => m = x.cps.size - i ∧ i ≤ x.cps.size ∧ ContC K D0 D (P i) H, ⟨_, rfl, Nat.zero_le _, R, l, [], _, h0, A.newOwn hD .nil⟩, ?_⟩⟩)
  rintro i m H' ⟨rfl, hi, R', l', es, N', p, A'⟩
  by_cases hlt : i < x.cps.size
  · refine .inr ⟨hlt, ContC K D0 D (P (i + 1)), fun H2 p => ⟨x.cps.size - (i + 1), by omega, rfl, hlt, p⟩, ?_⟩
    rintro v H2 ⟨rfl, c', hc, rfl⟩
    exact hs i c' D R' l' es (by rw [Array.getElem?_toList]; exact hc) p N' _ A'
  · have e : i = x.cps.size := by omega
    obtain ⟨N2, A2⟩ := A'.freeze
    exact .inl ⟨(show x.cps.size ≤ i by omega), hd (.ref D) R' l' es (by rw [Array.length_toList, ← e]; exact p) N2 H' A2⟩
theorem d_wipe {σ2 : St} {vs : List Nat} {T : Hp → Prop} (e : wipe σ2 vs = wipe σ vs) (k : RD K D0 R l T) : RD K D0 R l (fun H => kWipe σ2 vs σ H T) := fun N H A => ⟨e, k N H A⟩
theorem d_yes {Qb : Bool → Hp → Prop} (k : RD K D0 R l (Qb true)) : RD K D0 R l (fun H => tYes σ H Qb) := k
end
end GL

/-! G5: what functions promise; the pen. -/
namespace GL
open PySem PySem.Spec L2
section
variable {K : PySem.W.Frag} {D0 : Hp} {R S : Res} {l : List (V × PyData)} {σ : St} {D : Ends} {Q : VK} {T : Hp → Prop}
/-! ### items of a list that may change -/
theorem d_ixO {a : Addr} {i : Int} {ds : List PyData} {d : PyData} (hi : atI ds i = some d) (k : ∀ v, Dv v d → RD K D0 (star (own K a ds) R) ((v, d) :: l) (Q v)) : RD K D0 (star (own K a ds) R) l (fun H => rIx K (.ref a) (.int i) H Q) := fun N H A => by
  obtain ⟨xs, hx, hd⟩ := A.ownAt
  obtain ⟨v, hv, dv⟩ := hd.atI hi
  exact .inl ⟨a, xs, i, v, rfl, rfl, SqL.of hx, hv, k v dv.dv N H (A.facts dv)⟩
theorem d_setO {a : Addr} {i : Int} {j : Nat} {ds : List PyData} {v : V} {d : PyData} {Qs : Hp → Prop} (hv : InL l v d) (hj : ixN ds.length i = some j) (k : RD K D0 (star (own K a (ds.set j d)) R) l Qs) : RD K D0 (star (own K a ds) R) l (fun H => rSetL (.ref a) (.int i) v H Qs) := fun N H A => by
  obtain ⟨xs, hx, hd⟩ := A.ownAt
  refine ⟨a, xs, i, j, rfl, rfl, hx, by rw [hd.len]; exact hj, k _ _ (A.setOwn (hd.set j (A.dt hv)))⟩
theorem d_gSub {to ti : TE} {ts : V → V → V → Hp → (Hp → Prop) → Prop} {v : V} {Qn : St → Hp → Prop} (k : RD K D0 R l (fun H => to σ H fun o H1 => ti σ H1 fun i H2 => ts o i v H2 fun H3 => Qn σ H3)) : RD K D0 R l (fun H => gSub to ti ts v σ H Qn) := k
theorem RD.forget {v : V} {d : PyData} (k : RD K D0 R l T) : RD K D0 R ((v, d) :: l) T := RD.weak (fun p hp => .mem (List.mem_cons_of_mem _ hp)) k

theorem depth_ints (ns : List Int) : (PyData.list (ns.map PyData.int)).depth ≤ 60 := by
  simp only [PyData.depth]
  have h : PyData.depthAll (ns.map PyData.int) = 0 := by
    induction ns with
    | nil => simp only [List.map_nil, PyData.depthAll]
    | cons n ns ih => simp only [List.map_cons, PyData.depthAll, PyData.depth, ih]; rfl
  omega
theorem RD.dv {v : V} {d : PyData} (k : Dv v d → RD K D0 R ((v, d) :: l) T) : RD K D0 R ((v, d) :: l) T := fun N H A => k ((A.f _ List.mem_cons_self).dv) N H A
/-! ### promises -/
/-- a function over data -/
def spPure (K : PySem.W.Frag) (n : Nat) (pre : List PyData → Prop) (post : List PyData → PyData → Prop) : Sp := fun vs H Q _ => ∃ D0 F l N ds, At K D0 F l N H ∧ InLs l vs ds ∧ ds.length = n ∧ pre ds ∧
  ∀ v d, post ds d → Dv v d → RD K D0 F ((v, d) :: l) (Q v)
theorem InL.weak {l l' : List (V × PyData)} {v : V} {d : PyData} (h : InL l v d) (s : ∀ p ∈ l, InL l' p.1 p.2) : InL l' v d := by
  cases h with
  | non => exact .non
  | bl b => exact .bl b
  | int i => exact .int i
  | str x => exact .str x
  | mem h => exact s _ h
theorem InL.tail {l : List (V × PyData)} {p : V × PyData} {v : V} {d : PyData} (h : InL l v d) : InL (p :: l) v d := h.weak fun q hq => .mem (List.mem_cons_of_mem _ hq)
theorem sub_refl {l : List (V × PyData)} : ∀ p ∈ l, InL l p.1 p.2 := fun p hp => .mem hp
theorem sub_nil {l : List (V × PyData)} : ∀ p ∈ ([] : List (V × PyData)), InL l p.1 p.2 := fun p hp => absurd hp List.not_mem_nil
theorem sub_tail {l l' : List (V × PyData)} {q : V × PyData} (h : ∀ p ∈ l', InL l p.1 p.2) : ∀ p ∈ l', InL (q :: l) p.1 p.2 := fun p hp => (h p hp).tail
theorem sub_cons {l l' : List (V × PyData)} {v : V} {d : PyData} (h : InL l v d) (t : ∀ p ∈ l', InL l p.1 p.2) : ∀ p ∈ (v, d) :: l', InL l p.1 p.2 := fun p hp => by
  rcases List.mem_cons.mp hp with rfl | hp
  · exact h
  · exact t p hp
theorem InLs.weak {l l' : List (V × PyData)} {vs : List V} {ds : List PyData} (h : InLs l vs ds) (s : ∀ p ∈ l, InL l' p.1 p.2) : InLs l' vs ds := by
  induction h with
  | nil => exact .nil
  | cons h _ ih => exact .cons (h.weak s) ih
theorem InLs.len {vs : List V} {ds : List PyData} (h : InLs l vs ds) : vs.length = ds.length := by
  induction h with
  | nil => rfl
  | cons _ _ ih => exact congrArg Nat.succ ih
theorem d_pure {n : Nat} {pre : List PyData → Prop} {post : List PyData → PyData → Prop} {vs : List V} {E : XK} (ds : List PyData) (hv : InLs l vs ds) (hn : ds.length = n) (hp : pre ds)
    (k : ∀ v d, post ds d → Dv v d → RD K D0 R ((v, d) :: l) (Q v)) : RD K D0 R l (fun H => spPure K n pre post vs H Q E) := fun N H A => ⟨D0, R, l, N, ds, A, hv, hn, hp, k⟩
/-- the pen: a list of a list of ints and two ints -/
def pen (K : PySem.W.Frag) (p : Addr) : Res where
  h := fun N D H => ∃ (ns : List Int) (i st : Int), (own K p [.list (ns.map .int), .int i, .int st]).h N D H
  st := by
    rintro N D D' H H' ⟨ns, i, st, h⟩ d k
    exact ⟨ns, i, st, (own K p _).st h d k⟩
theorem RD.openPen {p : Addr} (k : ∀ (ns : List Int) (i st : Int), RD K D0 (star (own K p [.list (ns.map .int), .int i, .int st]) R) l T) : RD K D0 (star (pen K p) R) l T := fun N H A => by
  obtain ⟨N1, N2, e, dj, ⟨ns, i, st, h⟩, h2⟩ := A.r
  exact k ns i st N H ⟨A.nt, ⟨N1, N2, e, dj, h, h2⟩, A.d0, A.f⟩
theorem RD.closePen {p : Addr} {ns : List Int} {i st : Int} (k : RD K D0 (star (pen K p) R) l T) : RD K D0 (star (own K p [.list (ns.map .int), .int i, .int st]) R) l T :=
  RD.res (fun {N D H} h => by
    obtain ⟨N1, N2, e, dj, h1, h2⟩ := h
    exact ⟨N1, N2, e, dj, ⟨ns, i, st, h1⟩, h2⟩) k
/-- a function that draws -/
def spPen (K : PySem.W.Frag) (n : Nat) (pre : List PyData → Prop) (post : List PyData → PyData → Prop) : Sp := fun vs H Q _ => ∃ p ws D0 F l N ds, vs = .ref p :: ws ∧ At K D0 (star (pen K p) F) l N H ∧ InLs l ws ds ∧ ds.length = n ∧ pre ds ∧
  ∀ v d, post ds d → Dv v d → RD K D0 (star (pen K p) F) ((v, d) :: l) (Q v)
theorem d_pen {p : Addr} {n : Nat} {pre : List PyData → Prop} {post : List PyData → PyData → Prop} {ws : List V} {E : XK} (ds : List PyData) (hv : InLs l ws ds) (hn : ds.length = n) (hp : pre ds)
    (k : ∀ v d, post ds d → Dv v d → RD K D0 (star (pen K p) R) ((v, d) :: l) (Q v)) : RD K D0 (star (pen K p) R) l (fun H => spPen K n pre post (.ref p :: ws) H Q E) := fun N H A => ⟨p, ws, D0, R, l, N, ds, rfl, A, hv, hn, hp, k⟩
theorem d_pen2 {p : Addr} {n : Nat} {pre : List PyData → Prop} {post : List PyData → PyData → Prop} {ws : List V} {E : XK} (ds : List PyData) (hv : InLs l ws ds) (hn : ds.length = n) (hp : pre ds)
    (k : ∀ v d, post ds d → Dv v d → RD K D0 (star S (star (pen K p) R)) ((v, d) :: l) (Q v)) : RD K D0 (star S (star (pen K p) R)) l (fun H => spPen K n pre post (.ref p :: ws) H Q E) :=
  RD.rot (d_pen ds hv hn hp fun v d h1 h2 => RD.rot (k v d h1 h2))
end

local macro_rules | `(tactic| walk_at "mem") => `(tactic| (first | exact List.Mem.head _ | exact List.Mem.tail _ (List.Mem.head _) | exact List.Mem.tail _ (List.Mem.tail _ (List.Mem.head _)) | ((repeat (first | exact List.Mem.head _ | apply List.Mem.tail)); done)))
local macro_rules | `(tactic| walk_at "inl") => `(tactic| (first | exact InL.int _ | exact InL.str _ | exact InL.bl _ | exact InL.non | (refine InL.mem ?zm; walk_at "mem") | assumption))
local macro_rules | `(tactic| walk_at "inls") => `(tactic| (repeat (first | exact InLs.nil | (refine InLs.cons ?zi ?_; case zi => walk_at "inl"))))
local macro_rules | `(tactic| walk_at "set") => `(tactic| (simp only [wipe, List.set_cons_succ, List.set_cons_zero]; rfl))
local macro_rules | `(tactic| walk_at "tails") => `(tactic| (first | exact sub_refl | exact sub_tail sub_refl | exact sub_tail (sub_tail sub_refl) | exact sub_nil | ((repeat (first | exact sub_refl | apply sub_tail)); done)))
local macro_rules | `(tactic| walk_at "sub") => `(tactic| (first | walk_at "tails" | ((repeat (refine sub_cons ?zi ?_; case zi => walk_at "inl")); walk_at "tails")))
local macro_rules | `(tactic| walk_at "g1") => `(tactic| (first
  | with_reducible refine d_seq ?_
  | with_reducible refine d_asg ?_
  | ((with_reducible refine d_name (σ' := ?zs) ?zh ?_); (case zh => walk_at "set"))
  | ((with_reducible refine d_var (v := ?zs) ?zh ?_); (case zh => rfl))
  | with_reducible refine d_C ?_
  | with_reducible refine d_op ?_
  | with_reducible refine d_cons ?_
  | with_reducible refine d_nil ?_
  | with_reducible refine d_cb ?_
  | with_reducible refine d_g ?_
  | with_reducible refine d_ifS ?_
  | with_reducible refine d_test ?_
  | with_reducible refine d_bl ?_
  | with_reducible refine d_addI ?_
  | with_reducible refine d_I0 ?_
  | with_reducible refine d_ret ?_
  | with_reducible refine d_retN ?_
  | with_reducible refine d_next ?_
  | with_reducible refine d_drop ?_
  | with_reducible refine d_and ?_
  | with_reducible refine d_or ?_
  | with_reducible refine d_not ?_
  | with_reducible refine d_andV ?_
  | with_reducible refine d_orV ?_
  | with_reducible refine d_notV ?_
  | with_reducible refine d_tru ?_
  | with_reducible refine d_truB ?_
  | with_reducible refine d_tif ?_
  | with_reducible refine d_iteT ?_
  | with_reducible refine d_iteF ?_
  | with_reducible refine d_iteNT ?_
  | with_reducible refine d_iteNF ?_
  | with_reducible refine d_eqI ?_
  | with_reducible refine d_neI ?_
  | with_reducible refine d_eqS ?_
  | with_reducible refine d_neS ?_
  | with_reducible refine d_eqB ?_
  | with_reducible refine d_neB ?_
  | with_reducible refine d_isN ?_
  | with_reducible refine d_notN ?_
  | with_reducible refine d_bm ?_
  | with_reducible refine d_tyS ?_
  | with_reducible refine d_tyO ?_
  | with_reducible refine d_find3 ?_
  | with_reducible refine d_tup ?_
  | with_reducible refine d_lst ?_
  | with_reducible refine d_for ?_
  | with_reducible refine d_iRng1 ?_
  | with_reducible refine d_gIt ?_
  | with_reducible refine d_lc ?_
  | with_reducible refine d_yes ?_
  | with_reducible refine d_tSl ?_
  | with_reducible refine d_noPart ?_
  | with_reducible refine d_part ?_
  | with_reducible refine d_int ?_
  | ((with_reducible refine d_wipe ?zh ?_); (case zh => rfl))
  | ((with_reducible refine d_aug (v := ?zs) ?zh ?_); (case zh => rfl))
  | with_reducible refine d_ipI ?_
  | ((with_reducible refine d_set (σ' := ?zs) ?zh ?_); (case zh => walk_at "set"))))
local macro_rules | `(tactic| walk_at "go") => `(tactic| (repeat walk_at "g1"))
/-! ### _law_fresh, _law_draw -/
def sp__law_fresh (K : PySem.W.Frag) : Sp := spPen K 0 (fun _ => True) (fun _ d => ∃ n : Int, d = .int n)
def sp__law_draw (K : PySem.W.Frag) : Sp := spPen K 1 (fun ds => ∃ m : Int, ds = [.int m] ∧ 0 < m ∧ m < 1073741824) (fun ds d => ∃ m n : Int, ds = [.int m] ∧ d = .int n ∧ 0 ≤ n ∧ n < m)
def t__law_fresh (K : PySem.W.Frag) (W : WX) : TS := (tSeq (tAsg (tOp (rIx K) (tVar 0) (tC (.int 1))) (gName 1))
  (tSeq (tAsg (tOp (gAdd K) (tVar 1) (tC (.int 1))) (gSub (tVar 0) (tC (.int 1)) rSetL))
  (tSeq (tAsg (tC (.int 0)) (gName 2))
  (tSeq (tIfS (tTest (tOp (gNe K) (tOp (rIx K) (tVar 0) (tC (.int 0))) (tLst tNil))) (tAsg (tOp (rIx K) (tOp (rIx K) (tVar 0) (tC (.int 0))) (tOp gMod (tVar 1) (tCB (gLen K) (tCons (tOp (rIx K) (tVar 0) (tC (.int 0))) tNil)))) (gName 2)) tNext)
  (tSeq (tIfS (tAnd (tTest (tOp gLt (tVar 1) (tCB (gLen K) (tCons (tOp (rIx K) (tVar 0) (tC (.int 0))) tNil)))) (tTest (tOp gGe (tVar 2) (tOp gPow (tC (.int 10)) (tC (.int 18)))))) (tRet (tOp gSub' (tVar 2) (tOp gPow (tC (.int 10)) (tC (.int 18))))) tNext)
  (tSeq (tAsg (tC (.int 2305843009213693951)) (gName 3))
  (tSeq (tAsg (tOp gMod (tOp (gAdd K) (tOp (gAdd K) (tOp gMul (tVar 2) (tC (.int 48271))) (tOp gMul (tC (.int 40692)) (tVar 1))) (tC (.int 31))) (tVar 3)) (gName 4))
  (tSeq (tAsg (tVar 4) (gName 5))
  (tSeq (tFor (iRng1 (tCons (tC (.int 6)) tNil)) (gName 6) (tSeq (tAsg (tOp gMod (tOp (gAdd K) (tOp (gAdd K) (tOp gMul (tVar 4) (tVar 4)) (tOp gMul (tOp gMul (tC (.int 69621)) (tOp (gAdd K) (tVar 6) (tC (.int 1)))) (tOp (gAdd K) (tVar 1) (tC (.int 1))))) (tVar 2)) (tVar 3)) (gName 4))
  (tAsg (tOp (gAdd K) (tOp gMul (tVar 5) (tVar 3)) (tVar 4)) (gName 5))))
  (tRet (tVar 5)))))))))))
def t__law_draw (K : PySem.W.Frag) (W : WX) : TS := (tSeq (tIfS (tTest (tOp gLt (tOp (rIx K) (tVar 0) (tC (.int 2))) (tVar 1))) (tAsg (tG (sp__law_fresh K) W (tCons (tVar 0) tNil)) (gSub (tVar 0) (tC (.int 2)) rSetL)) tNext)
  (tSeq (tAsg (tOp gMod (tOp (rIx K) (tVar 0) (tC (.int 2))) (tVar 1)) (gName 2))
  (tSeq (tAsg (tOp gFdiv (tOp (rIx K) (tVar 0) (tC (.int 2))) (tVar 1)) (gSub (tVar 0) (tC (.int 2)) rSetL))
  (tRet (tVar 2)))))
section
variable {K : PySem.W.Frag} {W : WX}
theorem InLs.nil_of {l : List (V × PyData)} {vs : List V} (h : InLs l vs []) : vs = [] := by cases h; rfl
theorem InLs.int1 {l : List (V × PyData)} {A : List V} {K : PySem.W.Frag} {D0 : Hp} {R : Res} {N : Addr → Prop} {H : Hp} {m : Int} (at_ : At K D0 R l N H) (h : InLs l A [.int m]) : A = [.int m] := by
  cases h with
  | cons h t => cases t; have z := (at_.dt h).dv; cases z; rfl
theorem pure__law_draw {vs : List V} {H : Hp} {Q : VK} {E : XK} (h : sp__law_draw K vs H Q E) : t__law_draw K W { nx := fun _ H' => Q .non H', rt := Q } (start ["pen", "many", "digit"] vs) H := by
  obtain ⟨p, ws, D0, F, l, N, ds, rfl, A, hv, hn, ⟨m, rfl, m0, m1⟩, k⟩ := h
  obtain rfl := InLs.int1 A hv
  refine (?_ : RD K D0 (star (pen K p) F) l (fun H => t__law_draw K W _ [some (.ref p), some (.int m), none] H)) N H A
  unfold t__law_draw
  refine RD.openPen fun ns i st => ?_
  walk_at "go"
  refine d_ixO (d := .int st) (by rfl) fun v hv => ?_
  cases hv
  walk_at "go"
  -- the last three steps, from any rest
  have fin : ∀ (ns : List Int) (i st : Int) (l' : List (V × PyData)), (∀ q ∈ l, InL l' q.1 q.2) → RD K D0 (star (own K p [.list (ns.map .int), .int i, .int st]) F) l'
      (fun H => tSeq (tAsg (tOp gMod (tOp (rIx K) (tVar 0) (tC (.int 2))) (tVar 1)) (gName 2)) (tSeq (tAsg (tOp gFdiv (tOp (rIx K) (tVar 0) (tC (.int 2))) (tVar 1)) (gSub (tVar 0) (tC (.int 2)) rSetL)) (tRet (tVar 2))) { nx := fun _ H' => Q .non H', rt := Q } [some (.ref p), some (.int m), none] H) := by
    intro ns i st l' hl
    walk_at "go"
    refine d_ixO (d := .int st) (by rfl) fun v hv => ?_
    cases hv
    walk_at "go"
    refine d_I m0 ?_
    walk_at "go"
    refine d_ixO (d := .int st) (by rfl) fun v hv => ?_
    cases hv
    walk_at "go"
    refine d_I ⟨m0, m1⟩ ?_
    refine d_gSub ?_
    walk_at "go"
    refine d_setO (j := 2) (.int _) (by rfl) ?_
    walk_at "go"
    refine RD.closePen (ns := ns) (i := i) (st := st / m) ?_
    refine RD.weak ?_ (k (.int (st % m)) (.int (st % m)) ⟨m, _, rfl, rfl, Int.emod_nonneg _ (by omega), Int.emod_lt_of_pos _ m0⟩ rfl)
    intro q hq
    rcases List.mem_cons.mp hq with rfl | hq
    · exact .int _
    · exact (hl q hq).tail.tail
  refine d_iteP (fun _ => ?_) (fun _ => ?_)
  · walk_at "go"
    refine RD.closePen ?_
    refine d_pen [] .nil rfl trivial fun v d hd hv => ?_
    obtain ⟨n, rfl⟩ := hd
    cases hv
    refine RD.openPen fun ns' i' st' => ?_
    refine d_gSub ?_
    walk_at "go"
    refine d_setO (j := 2) (.int _) (by rfl) ?_
    exact fin ns' i' n _ (by walk_at "sub")
  · refine d_next ?_
    exact fin ns i st _ (by walk_at "sub")
theorem atI_mod {α : Type} {xs : List α} (i : Int) (h : xs ≠ []) : ∃ x, atI xs (i % (xs.length : Int)) = some x ∧ x ∈ xs := by
  have hl : (0 : Int) < xs.length := by
    cases xs with
    | nil => exact absurd rfl h
    | cons a r => simp only [List.length_cons]; omega
  have h1 := Int.emod_nonneg i (show (xs.length : Int) ≠ 0 by omega)
  have h2 := Int.emod_lt_of_pos i hl
  obtain ⟨j, hj⟩ : ∃ j : Nat, i % (xs.length : Int) = (j : Int) := ⟨(i % (xs.length : Int)).toNat, by omega⟩
  have h3 : j < xs.length := by omega
  rw [hj]
  exact ⟨xs[j], atI_nat (List.getElem?_eq_getElem h3), List.getElem_mem h3⟩
theorem mem_ints {ns : List Int} {d : PyData} (h : d ∈ ns.map PyData.int) : ∃ n, d = .int n := by
  obtain ⟨n, _, rfl⟩ := List.mem_map.mp h
  exact ⟨n, rfl⟩
theorem p_mod (a : Int) : 0 ≤ a % 2305843009213693951 ∧ a % 2305843009213693951 < 2305843009213693951 := ⟨Int.emod_nonneg _ (by decide), Int.emod_lt_of_pos _ (by decide)⟩
theorem pure__law_fresh {vs : List V} {H : Hp} {Q : VK} {E : XK} (h : sp__law_fresh K vs H Q E) : t__law_fresh K W { nx := fun _ H' => Q .non H', rt := Q } (start ["pen", "at", "cell", "p", "state", "found", "turn"] vs) H := by
  obtain ⟨p, ws, D0, F, l, N, ds, rfl, A, hv, hn, _, k⟩ := h
  obtain rfl := List.length_eq_zero_iff.mp hn
  obtain rfl := hv.nil_of
  refine (?_ : RD K D0 (star (pen K p) F) l (fun H => t__law_fresh K W _ [some (.ref p), none, none, none, none, none, none] H)) N H A
  -- the end, from any rest
  have fin : ∀ (ns : List Int) (i st n : Int) (l' : List (V × PyData)), (∀ q ∈ l, InL l' q.1 q.2) → RD K D0 (star (own K p [.list (ns.map .int), .int i, .int st]) F) l' (Q (.int n)) := by
    intro ns i st n l' hl
    refine RD.closePen ?_
    refine RD.weak ?_ (k (.int n) (.int n) ⟨n, rfl⟩ rfl)
    intro q hq
    rcases List.mem_cons.mp hq with rfl | hq
    · exact .int _
    · exact hl q hq
  -- behind the cell's choice
  have mid : ∀ (ns : List Int) (i st at_ cell : Int) (l' : List (V × PyData)), (∀ q ∈ l, InL l' q.1 q.2) → RD K D0 (star (own K p [.list (ns.map .int), .int i, .int st]) F) l'
      (fun H => tSeq (tIfS (tAnd (tTest (tOp gLt (tVar 1) (tCB (gLen K) (tCons (tOp (rIx K) (tVar 0) (tC (.int 0))) tNil)))) (tTest (tOp gGe (tVar 2) (tOp gPow (tC (.int 10)) (tC (.int 18)))))) (tRet (tOp gSub' (tVar 2) (tOp gPow (tC (.int 10)) (tC (.int 18))))) tNext)
        (tSeq (tAsg (tC (.int 2305843009213693951)) (gName 3))
        (tSeq (tAsg (tOp gMod (tOp (gAdd K) (tOp (gAdd K) (tOp gMul (tVar 2) (tC (.int 48271))) (tOp gMul (tC (.int 40692)) (tVar 1))) (tC (.int 31))) (tVar 3)) (gName 4))
        (tSeq (tAsg (tVar 4) (gName 5))
        (tSeq (tFor (iRng1 (tCons (tC (.int 6)) tNil)) (gName 6) (tSeq (tAsg (tOp gMod (tOp (gAdd K) (tOp (gAdd K) (tOp gMul (tVar 4) (tVar 4)) (tOp gMul (tOp gMul (tC (.int 69621)) (tOp (gAdd K) (tVar 6) (tC (.int 1)))) (tOp (gAdd K) (tVar 1) (tC (.int 1))))) (tVar 2)) (tVar 3)) (gName 4))
          (tAsg (tOp (gAdd K) (tOp gMul (tVar 5) (tVar 3)) (tVar 4)) (gName 5))))
        (tRet (tVar 5)))))) { nx := fun _ H' => Q .non H', rt := Q } [some (.ref p), some (.int at_), some (.int cell), none, none, none, none] H) := by
    intro ns i st at_ cell l' hl
    have rest : ∀ l'' : List (V × PyData), (∀ q ∈ l, InL l'' q.1 q.2) → RD K D0 (star (own K p [.list (ns.map .int), .int i, .int st]) F) l'' (fun H =>
        (tSeq (tAsg (tC (.int 2305843009213693951)) (gName 3))
        (tSeq (tAsg (tOp gMod (tOp (gAdd K) (tOp (gAdd K) (tOp gMul (tVar 2) (tC (.int 48271))) (tOp gMul (tC (.int 40692)) (tVar 1))) (tC (.int 31))) (tVar 3)) (gName 4))
        (tSeq (tAsg (tVar 4) (gName 5))
        (tSeq (tFor (iRng1 (tCons (tC (.int 6)) tNil)) (gName 6) (tSeq (tAsg (tOp gMod (tOp (gAdd K) (tOp (gAdd K) (tOp gMul (tVar 4) (tVar 4)) (tOp gMul (tOp gMul (tC (.int 69621)) (tOp (gAdd K) (tVar 6) (tC (.int 1)))) (tOp (gAdd K) (tVar 1) (tC (.int 1))))) (tVar 2)) (tVar 3)) (gName 4))
          (tAsg (tOp (gAdd K) (tOp gMul (tVar 5) (tVar 3)) (tVar 4)) (gName 5))))
        (tRet (tVar 5)))))) { nx := fun _ H' => Q .non H', rt := Q } [some (.ref p), some (.int at_), some (.int cell), none, none, none, none] H) := by
      intro l'' hl
      walk_at "go"
      refine d_mulI (.inr ⟨by decide, by decide⟩) ?_
      walk_at "go"
      refine d_mulI (.inl ⟨by decide, by decide⟩) ?_
      walk_at "go"
      refine d_I (show (0 : Int) < 2305843009213693951 by decide) ?_
      walk_at "go"
      refine d_rng1 (j := 6) (by decide) (by decide) ?_
      refine d_forRange (fun _ R' σ' l1 => R' = star (own K p [.list (ns.map .int), .int i, .int st]) F ∧ l1 = l'' ∧ ∃ s f : Int, ∃ v, 0 ≤ s ∧ s < 2305843009213693951 ∧
        σ' = [some (.ref p), some (.int at_), some (.int cell), some (.int 2305843009213693951), some (.int s), some (.int f), v]) ?_ ?_ ?_
      · exact ⟨rfl, rfl, _, _, none, (p_mod _).1, (p_mod _).2, rfl⟩
      · rintro j R' σ' l1 hj ⟨rfl, rfl, s, f, v, s0, s1, rfl⟩
        walk_at "go"
        refine d_mulI (.inl ⟨by omega, by omega⟩) ?_
        walk_at "go"
        refine d_mulI (.inl ⟨by decide, by decide⟩) ?_
        walk_at "go"
        have hj' : j < 6 := hj
        refine d_mulI (.inl ⟨by omega, by omega⟩) ?_
        walk_at "go"
        refine d_I (show (0 : Int) < 2305843009213693951 by decide) ?_
        walk_at "go"
        refine d_mulI (.inr ⟨by decide, by decide⟩) ?_
        walk_at "go"
        dsimp only
        refine d_end (l' := l1) ?_ (by walk_at "sub")
        exact ⟨rfl, rfl, _, _, _, (p_mod _).1, (p_mod _).2, rfl⟩
      · rintro R' σ' l1 ⟨rfl, rfl, s, f, v, s0, s1, rfl⟩
        walk_at "go"
        exact fin _ _ _ _ _ hl
    walk_at "go"
    refine d_ixO (d := .list (ns.map .int)) (by rfl) fun v hv => ?_
    walk_at "go"
    refine d_lenL (ds := ns.map .int) (.mem (List.Mem.head _)) ?_
    walk_at "go"
    have hl1 : ∀ q ∈ l, InL ((v, .list (ns.map .int)) :: l') q.1 q.2 := fun q hq => (hl q hq).tail
    refine d_iteP (fun _ => ?_) (fun _ => ?_)
    · walk_at "go"
      refine d_I (show CPow 10 18 from ⟨by decide, by decide, by decide⟩) ?_
      walk_at "go"
      refine d_iteP (fun _ => ?_) (fun _ => ?_)
      · walk_at "go"
        refine d_I (show CPow 10 18 from ⟨by decide, by decide, by decide⟩) ?_
        walk_at "go"
        exact fin _ _ _ _ _ hl1
      · refine d_next ?_
        exact rest _ hl1
    · refine d_iteF ?_
      refine d_next ?_
      exact rest _ hl1
  unfold t__law_fresh
  refine RD.openPen fun ns i st => ?_
  walk_at "go"
  refine d_ixO (d := .int i) (by rfl) fun v hv => ?_
  cases hv
  walk_at "go"
  refine d_gSub ?_
  walk_at "go"
  refine d_setO (j := 1) (.int _) (by rfl) ?_
  walk_at "go"
  refine d_ixO (d := .list (ns.map .int)) (by rfl) fun v hv => ?_
  walk_at "go"
  refine d_newL (ds := []) (Nat.zero_le _) .nil fun e => ?_
  refine d_ne (d := .list (ns.map .int)) (e := .list []) (.mem (by walk_at "mem")) (.mem (by walk_at "mem")) (depth_ints ns) ?_
  walk_at "go"
  cases ns with
  | nil =>
    refine d_iteN rfl ?_
    refine d_next ?_
    exact mid _ _ _ _ _ _ (by walk_at "sub")
  | cons n ns =>
    refine d_iteY rfl ?_
    walk_at "go"
    refine d_ixO (d := .list ((n :: ns).map .int)) (by rfl) fun v hv => ?_
    walk_at "go"
    refine d_ixO (d := .list ((n :: ns).map .int)) (by rfl) fun v' hv' => ?_
    walk_at "go"
    refine d_lenL (ds := (n :: ns).map .int) (.mem (by walk_at "mem")) ?_
    refine d_I (show (0 : Int) < (((n :: ns).map PyData.int).length : Int) by simp only [List.map_cons, List.length_cons]; omega) ?_
    obtain ⟨d, hd, hm⟩ := atI_mod (xs := (n :: ns).map PyData.int) i (by simp)
    obtain ⟨c, rfl⟩ := mem_ints hm
    refine d_ixL (.mem (by walk_at "mem")) hd fun v2 hv2 => ?_
    cases hv2
    refine d_name (σ' := ?zs) ?zh ?_
    case zh => walk_at "set"
    exact mid _ _ _ _ _ _ (by walk_at "sub")
end
/-! ### how many values -/
theorem spPure_len {K : PySem.W.Frag} {n : Nat} {pre : List PyData → Prop} {post : List PyData → PyData → Prop} {vs : List V} {H : Hp} {Q : VK} {E : XK} (h : spPure K n pre post vs H Q E) : vs.length = n := by
  obtain ⟨_, _, _, _, _, _, hv, hn, _⟩ := h
  exact hv.len.trans hn
theorem spPen_len {K : PySem.W.Frag} {n : Nat} {pre : List PyData → Prop} {post : List PyData → PyData → Prop} {vs : List V} {H : Hp} {Q : VK} {E : XK} (h : spPen K n pre post vs H Q E) : vs.length = n + 1 := by
  obtain ⟨_, _, _, _, _, _, _, rfl, _, hv, hn, _⟩ := h
  exact congrArg (· + 1) (hv.len.trans hn)
theorem len__law_fresh {K : PySem.W.Frag} {vs : List V} {H : Hp} {Q : VK} {E : XK} (h : sp__law_fresh K vs H Q E) : vs.length = 1 := spPen_len h
theorem len__law_draw {K : PySem.W.Frag} {vs : List V} {H : Hp} {Q : VK} {E : XK} (h : sp__law_draw K vs H Q E) : vs.length = 2 := spPen_len h
end GL

/-! G6: drawn strings; signs. -/
namespace GL
open PySem PySem.Spec L2
open SX (S)
local macro_rules | `(tactic| walk_at "mem") => `(tactic| (first | exact List.Mem.head _ | exact List.Mem.tail _ (List.Mem.head _) | exact List.Mem.tail _ (List.Mem.tail _ (List.Mem.head _)) | ((repeat (first | exact List.Mem.head _ | apply List.Mem.tail)); done)))
local macro_rules | `(tactic| walk_at "inl") => `(tactic| (first | exact InL.int _ | exact InL.str _ | exact InL.bl _ | exact InL.non | (refine InL.mem ?zm; walk_at "mem") | assumption))
local macro_rules | `(tactic| walk_at "inls") => `(tactic| (repeat (first | exact InLs.nil | (refine InLs.cons ?zi ?_; case zi => walk_at "inl"))))
local macro_rules | `(tactic| walk_at "set") => `(tactic| (simp only [wipe, List.set_cons_succ, List.set_cons_zero]; rfl))
local macro_rules | `(tactic| walk_at "tails") => `(tactic| (first | exact sub_refl | exact sub_tail sub_refl | exact sub_tail (sub_tail sub_refl) | exact sub_nil | ((repeat (first | exact sub_refl | apply sub_tail)); done)))
local macro_rules | `(tactic| walk_at "sub") => `(tactic| (first | walk_at "tails" | ((repeat (refine sub_cons ?zi ?_; case zi => walk_at "inl")); walk_at "tails")))
local macro_rules | `(tactic| walk_at "g1") => `(tactic| (first
  | with_reducible refine d_seq ?_
  | with_reducible refine d_asg ?_
  | ((with_reducible refine d_name (σ' := ?zs) ?zh ?_); (case zh => walk_at "set"))
  | ((with_reducible refine d_var (v := ?zs) ?zh ?_); (case zh => rfl))
  | with_reducible refine d_C ?_
  | with_reducible refine d_op ?_
  | with_reducible refine d_cons ?_
  | with_reducible refine d_nil ?_
  | with_reducible refine d_cb ?_
  | with_reducible refine d_g ?_
  | with_reducible refine d_ifS ?_
  | with_reducible refine d_test ?_
  | with_reducible refine d_bl ?_
  | with_reducible refine d_addI ?_
  | with_reducible refine d_I0 ?_
  | with_reducible refine d_ret ?_
  | with_reducible refine d_retN ?_
  | with_reducible refine d_next ?_
  | with_reducible refine d_drop ?_
  | with_reducible refine d_and ?_
  | with_reducible refine d_or ?_
  | with_reducible refine d_not ?_
  | with_reducible refine d_andV ?_
  | with_reducible refine d_orV ?_
  | with_reducible refine d_notV ?_
  | with_reducible refine d_tru ?_
  | with_reducible refine d_truB ?_
  | with_reducible refine d_tif ?_
  | with_reducible refine d_iteT ?_
  | with_reducible refine d_iteF ?_
  | with_reducible refine d_iteNT ?_
  | with_reducible refine d_iteNF ?_
  | with_reducible refine d_eqI ?_
  | with_reducible refine d_neI ?_
  | with_reducible refine d_eqS ?_
  | with_reducible refine d_neS ?_
  | with_reducible refine d_eqB ?_
  | with_reducible refine d_neB ?_
  | with_reducible refine d_isN ?_
  | with_reducible refine d_notN ?_
  | with_reducible refine d_bm ?_
  | with_reducible refine d_tyS ?_
  | with_reducible refine d_tyO ?_
  | with_reducible refine d_find3 ?_
  | with_reducible refine d_tup ?_
  | with_reducible refine d_lst ?_
  | with_reducible refine d_for ?_
  | with_reducible refine d_iRng1 ?_
  | with_reducible refine d_gIt ?_
  | with_reducible refine d_lc ?_
  | with_reducible refine d_yes ?_
  | with_reducible refine d_tSl ?_
  | with_reducible refine d_noPart ?_
  | with_reducible refine d_part ?_
  | with_reducible refine d_int ?_
  | ((with_reducible refine d_wipe ?zh ?_); (case zh => rfl))
  | ((with_reducible refine d_aug (v := ?zs) ?zh ?_); (case zh => rfl))
  | with_reducible refine d_ipI ?_
  | ((with_reducible refine d_set (σ' := ?zs) ?zh ?_); (case zh => walk_at "set"))))
local macro_rules | `(tactic| walk_at "go") => `(tactic| (repeat walk_at "g1"))
theorem S_app (a b : List Nat) : S a ++ S b = S (a ++ b) := SX.S_cat a b
theorem S_tl (a : List Nat) : (S a).cps.toList = a := by simp
theorem S_len (a : List Nat) : (S a).length = a.length := SX.S_len a
theorem abc_S : ("abc" : Str) = S [97, 98, 99] := by decide +kernel
theorem emp_S : ("" : Str) = S [] := by decide +kernel
theorem line_big : 16777216 ≤ sizeLine := by rw [sizeLine_eq]; exact Nat.le_refl _
theorem joinL_ones : ∀ cs : List Nat, TL.joinL [] (cs.map fun c => [c]) = cs
  | [] => rfl
  | [a] => rfl
  | a :: b :: r => by
    show [a] ++ ([] ++ TL.joinL [] ((b :: r).map fun c => [c])) = a :: b :: r
    rw [joinL_ones (b :: r)]
    rfl
theorem join_signs (cs : List Nat) : Txt.join (S []) (cs.map fun c => S [c]) = S cs := by
  have h := SX.join_S [] (cs.map fun c => [c])
  rw [List.map_map, joinL_ones] at h
  exact h
theorem sum_ones (cs : List Nat) : ((cs.map fun c => S [c]).map (·.length)).sum = cs.length := by
  induction cs with
  | nil => rfl
  | cons a r ih =>
    simp only [List.map_cons, List.sum_cons, ih, S_len, List.length_cons, List.length_nil]
    omega
/-- the signs, from a's code on -/
def Signs (k : Nat) (cs : List Nat) : Prop := ∀ c ∈ cs, 97 ≤ c ∧ c < 97 + k
def sp__law_string (K : PySem.W.Frag) : Sp := spPen K 2 (fun ds => ∃ k m : Nat, ds = [.int k, .int m] ∧ 1 ≤ k ∧ k ≤ 3 ∧ m ≤ 1000000)
  (fun ds d => ∃ (k m : Nat) (cs : List Nat), ds = [.int k, .int m] ∧ d = .str (S cs) ∧ cs.length ≤ m ∧ Signs k cs)
def t__law_string (K : PySem.W.Frag) (W : WX) : TS := (tRet (tBM K "str" (gJoin K) (tC (.str "")) (tCons (tLc (iRng1 (tCons (tG (sp__law_draw K) W (tCons (tVar 0) (tCons (tOp (gAdd K) (tVar 2) (tC (.int 1))) tNil))) tNil)) (gName 3) tYes (tOp (rIx K) (tC (.str "abc")) (tG (sp__law_draw K) W0 (tCons (tVar 0) (tCons (tVar 1) tNil)))) [3]) tNil)))

section
variable {K : PySem.W.Frag} {W : WX}
theorem InLs.ints2 {l : List (V × PyData)} {A : List V} {D0 : Hp} {R : Res} {N : Addr → Prop} {H : Hp} {m n : Int} (at_ : At K D0 R l N H) (h : InLs l A [.int m, .int n]) : A = [.int m, .int n] := by
  cases h with
  | cons h t =>
    cases t with
    | cons h2 t =>
      cases t
      have z := (at_.dt h).dv; cases z
      have z := (at_.dt h2).dv; cases z
      rfl
theorem pure__law_string {vs : List V} {H : Hp} {Q : VK} {E : XK} (h : sp__law_string K vs H Q E) : t__law_string K W { nx := fun _ H' => Q .non H', rt := Q } (start ["pen", "signs", "most", "step"] vs) H := by
  obtain ⟨p, ws, D0, F, l, N, ds, rfl, A, hv, hn, ⟨k, m, rfl, k1, k3, hm⟩, kk⟩ := h
  obtain rfl := InLs.ints2 A hv
  refine (?_ : RD K D0 (star (pen K p) F) l (fun H => t__law_string K W _ [some (.ref p), some (.int k), some (.int m), none] H)) N H A
  unfold t__law_string
  walk_at "go"
  refine d_pen [.int (m + 1)] (.cons (.int _) .nil) rfl ⟨_, rfl, by omega, by omega⟩ fun v d hd hv => ?_
  obtain ⟨m', n, e, rfl, n0, n1⟩ := hd
  cases e
  cases hv
  refine RD.forget ?_
  refine d_rng1 (by omega) (by omega) ?_
  refine d_lcRange (fun i R' l' es => R' = star (pen K p) F ∧ l' = l ∧ ∃ cs : List Nat, es = cs.map (fun c => PyData.str (S [c])) ∧ cs.length = i ∧ Signs k cs) ?_ ?_ ?_
  · exact ⟨rfl, rfl, [], rfl, rfl, fun c h => nomatch h⟩
  · rintro i D R' l' es hi ⟨rfl, rfl, cs, rfl, rfl, sg⟩
    walk_at "go"
    refine d_pen2 [.int k] (.cons (.int _) .nil) rfl ⟨_, rfl, by omega, by omega⟩ fun v d hd hv => ?_
    obtain ⟨m', c, e, rfl, c0, c1⟩ := hd
    cases e
    cases hv
    refine RD.forget ?_
    rw [abc_S]
    have hc : atI (S [97, 98, 99]).cps.toList c = some (97 + c.toNat) := by
      have h3 : c = 0 ∨ c = 1 ∨ c = 2 := by omega
      rcases h3 with rfl | rfl | rfl <;> rfl
    refine d_ixS (by rw [S_len]; exact Nat.le_trans (by decide) line_big) hc ?_
    refine d_item (P := _) (l' := l') (d := .str (S [97 + c.toNat])) (.str _) ?_ ?_ (by walk_at "sub")
    · rw [List.length_map]; exact Nat.lt_of_lt_of_le (by omega) line_big
    · refine ⟨rfl, rfl, cs ++ [97 + c.toNat], by rw [List.map_append]; rfl, by rw [List.length_append]; rfl, ?_⟩
      intro x hx
      rcases List.mem_append.mp hx with hx | hx
      · exact sg x hx
      · have hx := List.mem_singleton.mp hx
        omega
  · rintro v R' l' es ⟨rfl, rfl, cs, rfl, hl, sg⟩
    walk_at "go"
    rw [emp_S]
    refine d_joinL (ys := cs.map fun c => S [c]) (.mem (by rw [List.map_map]; exact List.Mem.head _)) ?_ ?_
    · rw [sum_ones, List.length_map, S_len, List.length_nil]
      omega
    · rw [join_signs]
      refine RD.forget ?_
      refine RD.weak ?_ (kk (.str (S cs)) (.str (S cs)) ⟨k, m, cs, rfl, rfl, by omega, sg⟩ rfl)
      walk_at "sub"
end
/-! ### what is found from the left -/
/-- behind this much of a pattern: the places, and where the search goes on -/
inductive Gr (log : List Nat) : List Nat → List Nat → Nat → Prop
  | nil : Gr log [] [] 0
  | snoc {pre ps : List Nat} {i k c : Nat} (h : Gr log pre ps i) (h1 : i ≤ k) (h2 : log[k]? = some c) (h3 : ∀ v, i ≤ v → v < k → log[v]? ≠ some c) : Gr log (pre ++ [c]) (ps ++ [k]) (k + 1)
theorem Gr.len {log pre ps : List Nat} {i : Nat} (h : Gr log pre ps i) : ps.length = pre.length ∧ i ≤ log.length := by
  induction h with
  | nil => exact ⟨rfl, Nat.zero_le _⟩
  | snoc h h1 h2 h3 ih =>
    obtain ⟨hk, _⟩ := List.getElem?_eq_some_iff.mp h2
    exact ⟨by simp [ih.1], hk⟩
theorem drop_at {log : List Nat} {k c : Nat} (h : log[k]? = some c) : log.drop k = c :: log.drop (k + 1) := by
  obtain ⟨hk, e⟩ := List.getElem?_eq_some_iff.mp h
  rw [List.drop_eq_getElem_cons hk, e]
theorem sub_skip {log r : List Nat} {c : Nat} : ∀ (n i k : Nat), k = i + n → log[k]? = some c → (∀ v, i ≤ v → v < k → log[v]? ≠ some c) → ((c :: r).Sublist (log.drop i) ↔ r.Sublist (log.drop (k + 1)))
  | 0, i, k, e, h2, h3 => by
    have e' : k = i := by omega
    subst e'
    rw [drop_at h2]
    exact List.cons_sublist_cons
  | n + 1, i, k, e, h2, h3 => by
    obtain ⟨hk, _⟩ := List.getElem?_eq_some_iff.mp h2
    have hi : i < log.length := by omega
    have ih := sub_skip (r := r) n (i + 1) k (by omega) h2 (fun v a b => h3 v (by omega) b)
    rw [← ih, List.drop_eq_getElem_cons hi]
    have ne : log[i] ≠ c := fun z => h3 i (Nat.le_refl _) (by omega) (by rw [List.getElem?_eq_getElem hi, z])
    constructor
    · intro s
      cases s with
      | cons _ s => exact s
      | cons_cons _ s => exact absurd rfl ne
    · intro s
      exact s.cons _
theorem sub_fail {log r : List Nat} {c i : Nat} (h3 : ∀ v, i ≤ v → v < log.length → log[v]? ≠ some c) : ¬ (c :: r).Sublist (log.drop i) := by
  intro s
  have hm : c ∈ log.drop i := s.subset List.mem_cons_self
  obtain ⟨j, hj, e⟩ := List.getElem_of_mem hm
  rw [List.getElem_drop] at e
  rw [List.length_drop] at hj
  exact h3 (i + j) (by omega) (by omega) (by rw [List.getElem?_eq_getElem (by omega), e])
theorem getD_at {cs : List Nat} {v c : Nat} (hv : v < cs.length) : ((S cs).cps.getD v 0 = c) ↔ cs[v]? = some c := by
  have e : (S cs).cps.getD v 0 = cs[v] := by simp [Array.getD, hv]
  rw [e, List.getElem?_eq_getElem hv]
  exact ⟨fun h => by rw [h], fun h => Option.some.inj h⟩
theorem find_spec (cs : List Nat) (c i : Nat) (hi : i ≤ cs.length) : (Txt.find3 (S cs) (S [c]) (i : Int) = -1 ∧ ∀ v, i ≤ v → v < cs.length → cs[v]? ≠ some c) ∨
    ∃ k : Nat, Txt.find3 (S cs) (S [c]) (i : Int) = (k : Int) ∧ i ≤ k ∧ k < cs.length ∧ cs[k]? = some c ∧ ∀ v, i ≤ v → v < k → cs[v]? ≠ some c := by
  have ef : fromIndex (S cs).length (i : Int) = i := by
    unfold fromIndex
    rw [if_neg (by omega)]
    omega
  have hl := S_len cs
  rcases StrLaws.find3_spec (S cs) c (i : Int) with ⟨h1, h2⟩ | ⟨k, h1, h2, h3, h4, h5⟩
  · rw [ef] at h2
    exact .inl ⟨h1, fun v a b z => h2 v a (by rw [hl]; exact b) ((getD_at b).2 z)⟩
  · rw [ef] at h2 h5
    rw [hl] at h3
    exact .inr ⟨k, h1, h2, h3, (getD_at h3).1 h4, fun v a b z => h5 v a b ((getD_at (by omega)).2 z)⟩
def sp_positions (K : PySem.W.Frag) : Sp := spPure K 2 (fun ds => ∃ log pat : List Nat, ds = [.str (S log), .str (S pat)] ∧ log.length ≤ 1000000 ∧ pat.length ≤ 1000000)
  (fun ds d => ∃ log pat : List Nat, ds = [.str (S log), .str (S pat)] ∧ ((d = .none ∧ ¬ pat.Sublist log) ∨ ∃ (ps : List Nat) (i : Nat), d = .tuple (ps.map fun (k : Nat) => .int k) ∧ Gr log pat ps i ∧ pat.Sublist log))
def sp_contains (K : PySem.W.Frag) : Sp := spPure K 2 (fun ds => ∃ log pat : List Nat, ds = [.str (S log), .str (S pat)] ∧ log.length ≤ 1000000 ∧ pat.length ≤ 1000000)
  (fun ds d => ∃ (log pat : List Nat) (b : Bool), ds = [.str (S log), .str (S pat)] ∧ d = .bool b ∧ (b = true ↔ pat.Sublist log))
def stepP (pat : List Nat) (n : Nat) (c : Nat) : Nat := if pat[n]? = some c then n + 1 else n
theorem stepP_hit {pat : List Nat} {n c : Nat} (h : pat[n]? = some c) : stepP pat n c = n + 1 := if_pos h
theorem stepP_miss {pat : List Nat} {n c : Nat} (h : pat[n]? ≠ some c) : stepP pat n c = n := if_neg h
def progP (log pat : List Nat) : Nat := log.foldl (stepP pat) 0
def sp_progress_of (K : PySem.W.Frag) : Sp := spPure K 2 (fun ds => ∃ log pat : List Nat, ds = [.str (S log), .str (S pat)] ∧ log.length ≤ 1000000 ∧ pat.length ≤ 1000000)
  (fun ds d => ∃ log pat : List Nat, ds = [.str (S log), .str (S pat)] ∧ d = .int (progP log pat))
def t_positions (K : PySem.W.Frag) (W : WX) : TS := (tSeq (tAsg (tLst tNil) (gName 2))
  (tSeq (tAsg (tC (.int 0)) (gName 3))
  (tSeq (tFor (gIt K (tVar 1)) (gName 4) (tSeq (tAsg (tBM K "str" gFind3 (tVar 0) (tCons (tVar 4) (tCons (tVar 3) tNil))) (gName 5))
  (tSeq (tIfS (tTest (tOp gLt (tVar 5) (tC (.int 0)))) (tRet (tC .non)) tNext)
  (tSeq (tDrop (tBM K "list" rAppend (tVar 2) (tCons (tVar 5) tNil)))
  (tAsg (tOp (gAdd K) (tVar 5) (tC (.int 1))) (gName 3))))))
  (tRet (tCB (gTuple K) (tCons (tVar 2) tNil))))))

def t_contains (K : PySem.W.Frag) (W : WX) : TS := (tRet (tOp gNotN (tG (sp_positions K) W (tCons (tVar 0) (tCons (tVar 1) tNil))) (tC .non)))

def t_progress_of (K : PySem.W.Frag) (W : WX) : TS := (tSeq (tAsg (tC (.int 0)) (gName 2))
  (tSeq (tFor (gIt K (tVar 0)) (gName 3) (tIfS (tAnd (tTest (tOp gLt (tVar 2) (tCB (gLen K) (tCons (tVar 1) tNil)))) (tTest (tOp (gEq K) (tOp (rIx K) (tVar 1) (tVar 2)) (tVar 3)))) (tAug 2 (tC (.int 1)) (ipI fun i j => i + j)) tNext))
  (tRet (tVar 2))))

section
variable {K : PySem.W.Frag} {W : WX}
theorem InLs.str2 {l : List (V × PyData)} {A : List V} {D0 : Hp} {R : Res} {N : Addr → Prop} {H : Hp} {m n : Str} (at_ : At K D0 R l N H) (h : InLs l A [.str m, .str n]) : A = [.str m, .str n] := by
  cases h with
  | cons h t =>
    cases t with
    | cons h2 t =>
      cases t
      have z := (at_.dt h).dv; cases z
      have z := (at_.dt h2).dv; cases z
      rfl
theorem pure_contains {vs : List V} {H : Hp} {Q : VK} {E : XK} (h : sp_contains K vs H Q E) : t_contains K W { nx := fun _ H' => Q .non H', rt := Q } (start ["log", "pattern"] vs) H := by
  obtain ⟨D0, F, l, N, ds, A, hv, hn, ⟨log, pat, rfl, h1, h2⟩, kk⟩ := h
  obtain rfl := InLs.str2 A hv
  refine (?_ : RD K D0 F l (fun H => t_contains K W _ [some (.str (S log)), some (.str (S pat))] H)) N H A
  unfold t_contains
  walk_at "go"
  refine d_pure [.str (S log), .str (S pat)] (.cons (.str _) (.cons (.str _) .nil)) rfl ⟨log, pat, rfl, h1, h2⟩ fun v d hd hv => ?_
  obtain ⟨log', pat', e, hd⟩ := hd
  cases e
  walk_at "go"
  refine RD.forget ?_
  have nn : (v = .non) ↔ ¬ pat.Sublist log := by
    rcases hd with ⟨rfl, hs⟩ | ⟨ps, i, rfl, hg, hs⟩
    · exact ⟨fun _ => hs, fun _ => hv⟩
    · obtain ⟨a, rfl⟩ := hv
      exact ⟨fun z => (nomatch z), fun z => absurd hs z⟩
  refine RD.weak ?_ (kk (.bl (!decide (v = .non))) (.bool (!decide (v = .non))) ⟨log, pat, _, rfl, rfl, ?_⟩ rfl)
  · walk_at "sub"
  · rw [Bool.not_eq_true', decide_eq_false_iff_not, nn]
    exact Decidable.not_not
theorem pure_positions {vs : List V} {H : Hp} {Q : VK} {E : XK} (h : sp_positions K vs H Q E) : t_positions K W { nx := fun _ H' => Q .non H', rt := Q } (start ["log", "pattern", "found", "at", "sign", "place"] vs) H := by
  obtain ⟨D0, F, l, N, ds, A, hv, hn, ⟨log, pat, rfl, h1, h2⟩, kk⟩ := h
  obtain rfl := InLs.str2 A hv
  refine (?_ : RD K D0 F l (fun H => t_positions K W _ [some (.str (S log)), some (.str (S pat)), none, none, none, none] H)) N H A
  unfold t_positions
  walk_at "go"
  refine d_newO (ds := []) (Nat.zero_le _) .nil fun a => ?_
  walk_at "go"
  refine d_forStr (fun i R' σ' l' => l' = l ∧ ∃ (ps : List Nat) (j : Nat) (v4 v5 : Option V), R' = star (own K a (ps.map fun (k : Nat) => .int k)) F ∧ σ' = [some (.str (S log)), some (.str (S pat)), some (.ref a), some (.int j), v4, v5] ∧
    Gr log (pat.take i) ps j ∧ (pat.Sublist log ↔ (pat.drop i).Sublist (log.drop j))) ?_ ?_ ?_
  · exact ⟨rfl, [], 0, none, none, rfl, rfl, .nil, Iff.rfl⟩
  · rintro i c R' σ' l' hc ⟨rfl, ps, j, v4, v5, rfl, rfl, g, hs⟩
    rw [S_tl] at hc
    obtain ⟨hi, ec⟩ := List.getElem?_eq_some_iff.mp hc
    obtain ⟨gl, gj⟩ := g.len
    have hcp : pat.drop i = c :: pat.drop (i + 1) := drop_at hc
    walk_at "go"
    rcases find_spec log c j gj with ⟨e, hno⟩ | ⟨k, e, jk, kl, hk, hno⟩
    · rw [e]
      refine d_iteY (by decide) ?_
      walk_at "go"
      refine RD.freeze ?_
      refine RD.weak ?_ (kk .non .none ⟨log, pat, rfl, .inl ⟨rfl, ?_⟩⟩ rfl)
      · walk_at "sub"
      · rw [hs, hcp]
        exact sub_fail hno
    · rw [e]
      refine d_iteN (by simp) ?_
      walk_at "go"
      refine d_append (d := .int k) (.int _) ?_ ?_
      · rw [List.length_map, gl, List.length_take]
        exact Nat.lt_of_lt_of_le (by omega) line_big
      walk_at "go"
      dsimp only
      refine d_end (l' := l') ?_ (by walk_at "sub")
      refine ⟨rfl, ps ++ [k], k + 1, _, _, by rw [List.map_append]; rfl, rfl, ?_, ?_⟩
      · rw [List.take_succ, hc]
        exact .snoc g jk hk hno
      · rw [hs, hcp]
        exact sub_skip (k - j) j k (by omega) hk hno
  · rintro R' σ' l' ⟨rfl, ps, j, v4, v5, rfl, rfl, g, hs⟩
    rw [S_tl] at g hs
    rw [List.take_length] at g
    walk_at "go"
    refine d_tupleO fun v => RD.dv fun hv => ?_
    refine RD.freeze ?_
    refine RD.weak ?_ (kk v (.tuple (ps.map fun (k : Nat) => .int k)) ⟨log, pat, rfl, .inr ⟨ps, j, rfl, g, ?_⟩⟩ hv)
    · walk_at "sub"
    · rw [hs, List.drop_length]; exact List.nil_sublist _
theorem d_gLenS {z : List Nat} {D0 : Hp} {R : Res} {l : List (V × PyData)} {Q : VK} (hz : z.length ≤ 1000000) (k : RD K D0 R l (Q (.int z.length))) : RD K D0 R l (fun H => gLen K [.str (S z)] H Q) :=
  d_lenS (by rw [S_len]; exact Nat.le_trans (by omega) line_big) (by rw [S_len]; exact k)
theorem pure_progress_of {vs : List V} {H : Hp} {Q : VK} {E : XK} (h : sp_progress_of K vs H Q E) : t_progress_of K W { nx := fun _ H' => Q .non H', rt := Q } (start ["log", "pattern", "found", "sign"] vs) H := by
  obtain ⟨D0, F, l, N, ds, A, hv, hn, ⟨log, pat, rfl, h1, h2⟩, kk⟩ := h
  obtain rfl := InLs.str2 A hv
  refine (?_ : RD K D0 F l (fun H => t_progress_of K W _ [some (.str (S log)), some (.str (S pat)), none, none] H)) N H A
  unfold t_progress_of
  walk_at "go"
  refine d_forStr (fun i R' σ' l' => l' = l ∧ R' = F ∧ ∃ v3 : Option V, σ' = [some (.str (S log)), some (.str (S pat)), some (.int ((log.take i).foldl (stepP pat) 0 : Nat)), v3] ∧ (log.take i).foldl (stepP pat) 0 ≤ pat.length) ?_ ?_ ?_
  · exact ⟨rfl, rfl, none, rfl, Nat.zero_le _⟩
  · rintro i c R' σ' l' hc ⟨rfl, rfl, v3, rfl, hle⟩
    rw [S_tl] at hc
    have ht : (log.take (i + 1)).foldl (stepP pat) 0 = stepP pat ((log.take i).foldl (stepP pat) 0) c := by
      rw [List.take_succ, hc, List.foldl_append]; rfl
    walk_at "go"
    refine d_gLenS h2 ?_
    walk_at "go"
    refine d_iteP (fun hlt => ?_) (fun hge => ?_)
    · obtain ⟨x, hx⟩ : ∃ x, pat[(log.take i).foldl (stepP pat) 0]? = some x := ⟨_, List.getElem?_eq_getElem (by omega)⟩
      walk_at "go"
      refine d_ixS (c := x) (by rw [S_len]; exact Nat.le_trans (by omega) line_big) (atI_nat (by rw [S_tl]; exact hx)) ?_
      walk_at "go"
      refine d_iteP (fun he => ?_) (fun hne => ?_)
      · have ex : x = c := by have := SX.S_inj he; simpa using this
        walk_at "go"
        dsimp only
        refine d_end (l' := l') ?_ (by walk_at "sub")
        have hs : stepP pat ((log.take i).foldl (stepP pat) 0) c = (log.take i).foldl (stepP pat) 0 + 1 := stepP_hit (by rw [hx, ex])
        refine ⟨rfl, rfl, _, by rw [ht, hs]; rfl, by rw [ht, hs]; omega⟩
      · have ex : x ≠ c := fun z => hne (by rw [z])
        walk_at "go"
        dsimp only
        refine d_end (l' := l') ?_ (by walk_at "sub")
        have hs : stepP pat ((log.take i).foldl (stepP pat) 0) c = (log.take i).foldl (stepP pat) 0 := stepP_miss (by rw [hx]; exact fun z => ex (Option.some.inj z))
        refine ⟨rfl, rfl, _, by rw [ht, hs], by rw [ht, hs]; omega⟩
    · walk_at "go"
      dsimp only
      refine d_end (l' := l') ?_ (by walk_at "sub")
      have hs : stepP pat ((log.take i).foldl (stepP pat) 0) c = (log.take i).foldl (stepP pat) 0 := stepP_miss (by rw [List.getElem?_eq_none (by omega)]; exact fun z => nomatch z)
      refine ⟨rfl, rfl, _, by rw [ht, hs], by rw [ht, hs]; omega⟩
  · rintro R' σ' l' ⟨rfl, rfl, v3, rfl, hle⟩
    rw [S_tl, List.take_length]
    walk_at "go"
    refine RD.weak ?_ (kk (.int (progP log pat)) (.int (progP log pat)) ⟨log, pat, rfl, rfl⟩ rfl)
    walk_at "sub"
end
/-! ### the law's pen, the law's frame -/
def sp__law_pen (K : PySem.W.Frag) : Sp := fun vs H Q _ => ∃ a ns D0 F l N, vs = [.ref a] ∧ At K D0 F l N H ∧ SqL K H a (List.map V.int ns) ∧ ns.length ≤ 63 ∧ ∀ p, RD K D0 (star (pen K p) F) l (Q (.ref p))
def spLaw (K : PySem.W.Frag) : Sp := fun vs H Q _ => ∃ (a : Addr) (ns : List Int), vs = [.ref a] ∧ SqL K H a (ns.map V.int) ∧ ns.length ≤ 63 ∧ ∀ H', Q (.bl true) H'
def t__law_pen (K : PySem.W.Frag) (W : WX) : TS := (tRet (tLst (tCons (tCB (gList K) (tCons (tSl (gSl K) (tVar 0) tNoPart (tPart (tC (.int 63)))) tNil)) (tCons (tC (.int 0)) (tCons (tC (.int 0)) tNil)))))

theorem same_sqL {K : PySem.W.Frag} {H H' : Hp} {a : Addr} {xs : List V} (e : Same H H') (h : SqL K H a xs) : SqL K H' a xs := Same.seq e h
theorem cutV_ints (ns : List Int) (lo hi : Option Int) : ∃ ms : List Int, cutV (ns.map V.int) lo hi = ms.map V.int ∧ ms.length ≤ ns.length := by
  refine ⟨(ns.drop (HT.sIx ns.length 0 lo)).take (HT.sIx ns.length ns.length hi - HT.sIx ns.length 0 lo), ?_, ?_⟩
  · unfold cutV
    rw [List.length_map, List.map_take, List.map_drop]
  · rw [List.length_take, List.length_drop]
    omega
section
variable {K : PySem.W.Frag} {W : WX}
theorem pure__law_pen {vs : List V} {H : Hp} {Q : VK} {E : XK} (h : sp__law_pen K vs H Q E) : t__law_pen K W { nx := fun _ H' => Q .non H', rt := Q } (start ["script"] vs) H := by
  obtain ⟨a, ns, D0, F, l, N, rfl, A, hS, hl, k⟩ := h
  obtain ⟨ms, em, hm⟩ := cutV_ints ns none (some 63)
  unfold t__law_pen
  refine ⟨.ref a, rfl, ?_⟩
  refine ⟨63, rfl, ?_⟩
  refine .inl ⟨a, _, rfl, hS, fun p hp => ?_⟩
  rw [em]
  obtain ⟨A1, e1⟩ := A.new (.lst (ms.map V.int)) hp
  refine ⟨p, _, rfl, .inl (SqL.of upd_same), fun q hq => ?_⟩
  obtain ⟨A2, e2⟩ := A1.new (.lst (ms.map V.int)) hq
  refine ⟨Nat.le_trans (show 3 ≤ 16777216 by decide) line_big, fun r hr => ?_⟩
  have A3 := A2.newOwn (xs := [.ref q, .int 0, .int 0]) (ds := [.list (ms.map .int), .int 0, .int 0]) hr (.cons (.lst e2 (DtAll.ofInts ms)) (.cons (.int 0) (.cons (.int 0) .nil)))
  exact RD.closePen (k r) _ _ A3
/-- a law that begins by its pen -/
theorem law_start {D : Ends} {σ : St} {Q : VK} {H : Hp} {a : Addr} {ns : List Int} {W : WX} {rest : TS} {i : Nat} (h0 : σ[0]? = some (some (.ref a))) (hS : SqL K H a (ns.map V.int)) (hl : ns.length ≤ 63)
    (k : ∀ p, RD K (fun _ => none) (star (pen K p) emp) [] (fun H => rest D (σ.set i (some (.ref p))) H)) : tSeq (tAsg (tG (sp__law_pen K) W (tCons (tVar 0) tNil)) (gName i)) rest D σ H := by
  refine ⟨.ref a, h0, ?_⟩
  have A : At K (fun _ => none) emp [] (fun _ => False) H := ⟨fun _ h => h.elim, fun _ h => h, (fun _ _ h => by cases h), (fun _ h => absurd h List.not_mem_nil)⟩
  exact ⟨a, ns, fun _ => none, emp, [], fun _ => False, rfl, A, hS, hl, fun p => k p⟩
end
section
variable {K : PySem.W.Frag} {W : WX} {D0 : Hp} {R : Res} {l : List (V × PyData)} {Q : VK}
theorem d_contains {log pat : List Nat} {E : XK} (h1 : log.length ≤ 1000000) (h2 : pat.length ≤ 1000000) (k : ∀ b : Bool, (b = true ↔ pat.Sublist log) → RD K D0 R l (Q (.bl b))) : RD K D0 R l (fun H => sp_contains K [.str (S log), .str (S pat)] H Q E) := by
  refine d_pure [.str (S log), .str (S pat)] (.cons (.str _) (.cons (.str _) .nil)) rfl ⟨log, pat, rfl, h1, h2⟩ fun v d hd hv => ?_
  obtain ⟨log', pat', b, e, rfl, hb⟩ := hd
  cases e
  cases hv
  exact RD.forget (k b hb)
theorem d_containsY {log pat : List Nat} {E : XK} (h1 : log.length ≤ 1000000) (h2 : pat.length ≤ 1000000) (h : pat.Sublist log) (k : RD K D0 R l (Q (.bl true))) : RD K D0 R l (fun H => sp_contains K [.str (S log), .str (S pat)] H Q E) :=
  d_contains h1 h2 fun b hb => by
    have e : b = true := hb.2 h
    subst e
    exact k
theorem d_progress {log pat : List Nat} {E : XK} (h1 : log.length ≤ 1000000) (h2 : pat.length ≤ 1000000) (k : RD K D0 R l (Q (.int (progP log pat)))) : RD K D0 R l (fun H => sp_progress_of K [.str (S log), .str (S pat)] H Q E) := by
  refine d_pure [.str (S log), .str (S pat)] (.cons (.str _) (.cons (.str _) .nil)) rfl ⟨log, pat, rfl, h1, h2⟩ fun v d hd hv => ?_
  obtain ⟨log', pat', e, rfl⟩ := hd
  cases e
  cases hv
  exact RD.forget k
theorem d_string {p : Addr} {k m : Nat} {E : XK} (k1 : 1 ≤ k) (k3 : k ≤ 3) (hm : m ≤ 1000000) (kk : ∀ cs : List Nat, cs.length ≤ m → Signs k cs → RD K D0 (star (pen K p) R) l (Q (.str (S cs)))) : RD K D0 (star (pen K p) R) l (fun H => sp__law_string K [.ref p, .int k, .int m] H Q E) := by
  refine d_pen [.int k, .int m] (.cons (.int _) (.cons (.int _) .nil)) rfl ⟨k, m, rfl, k1, k3, hm⟩ fun v d hd hv => ?_
  obtain ⟨k', m', cs, e, rfl, hl, sg⟩ := hd
  have e1 : k' = k := by have := e; simp at this; omega
  have e2 : m' = m := by have := e; simp at this; omega
  subst e1 e2
  cases hv
  exact RD.forget (kk cs hl sg)
theorem d_draw {p : Addr} {m : Int} {E : XK} (h0 : 0 < m) (h1 : m < 1073741824) (kk : ∀ n : Int, 0 ≤ n → n < m → RD K D0 (star (pen K p) R) l (Q (.int n))) : RD K D0 (star (pen K p) R) l (fun H => sp__law_draw K [.ref p, .int m] H Q E) := by
  refine d_pen [.int m] (.cons (.int _) .nil) rfl ⟨m, rfl, h0, h1⟩ fun v d hd hv => ?_
  obtain ⟨m', n, e, rfl, n0, n1⟩ := hd
  cases e
  cases hv
  exact RD.forget (kk n n0 n1)
theorem d_draw2 {S' : Res} {p : Addr} {m : Int} {E : XK} (h0 : 0 < m) (h1 : m < 1073741824) (kk : ∀ n : Int, 0 ≤ n → n < m → RD K D0 (star S' (star (pen K p) R)) l (Q (.int n))) : RD K D0 (star S' (star (pen K p) R)) l (fun H => sp__law_draw K [.ref p, .int m] H Q E) :=
  RD.rot (d_draw h0 h1 fun n n0 n1 => RD.rot (kk n n0 n1))
theorem d_joinSigns {ds : List Nat} {x : V} (hx : InL l x (.list (ds.map fun c => .str (S [c])))) (h : ds.length ≤ 16777216) (k : RD K D0 R l (Q (.str (S ds)))) : RD K D0 R l (fun H => gJoin K (.str "") [x] H Q) := by
  refine d_joinL (ys := ds.map fun c => S [c]) (by rw [List.map_map]; exact hx) (by rw [sum_ones, emp_S, S_len]; simpa using h) ?_
  rw [emp_S, join_signs]
  exact k
theorem cutS_take {cs : List Nat} {n : Nat} (h : n ≤ cs.length) : cutS (S cs) none (some (n : Int)) = S (cs.take n) := by
  unfold cutS
  rw [HT.sIx_none, HT.sIx_nat, S_tl, S_len, Nat.min_eq_left h]
  rfl
theorem cutS_drop {cs : List Nat} {n : Nat} (h : n ≤ cs.length) : cutS (S cs) (some (n : Int)) none = S (cs.drop n) := by
  unfold cutS
  rw [HT.sIx_none, HT.sIx_nat, S_tl, S_len, Nat.min_eq_left h, List.take_of_length_le (by rw [List.length_drop]; omega)]
theorem progP_le (log pat : List Nat) : progP log pat ≤ pat.length := by
  suffices ∀ m, m ≤ pat.length → log.foldl (stepP pat) m ≤ pat.length from this 0 (Nat.zero_le _)
  induction log with
  | nil => exact fun m h => h
  | cons c cs ih =>
    intro m h
    rw [List.foldl_cons]
    refine ih _ ?_
    unfold stepP
    split
    · rename_i h2
      have := (List.getElem?_eq_some_iff.1 h2).1
      omega
    · exact h
theorem d_cat {a b : List Nat} (h : a.length + b.length ≤ 1000000) (k : RD K D0 R l (Q (.str (S (a ++ b))))) : RD K D0 R l (fun H => gAdd K (.str (S a)) (.str (S b)) H Q) :=
  d_addS (by rw [S_len, S_len]; exact Nat.le_trans (Nat.le_trans h (by decide)) line_big) (by rw [S_app]; exact k)
theorem d_len {a : List Nat} (h : a.length ≤ 1000000) (k : RD K D0 R l (Q (.int a.length))) : RD K D0 R l (fun H => gLen K [.str (S a)] H Q) :=
  d_lenS (by rw [S_len]; exact Nat.le_trans (Nat.le_trans h (by decide)) line_big) (by rw [S_len]; exact k)
theorem d_takeS {cs : List Nat} {n : Nat} (h : cs.length ≤ 1000000) (hn : n ≤ cs.length) (k : RD K D0 R l (Q (.str (S (cs.take n))))) : RD K D0 R l (fun H => gSl K (.str (S cs)) none (some (n : Int)) H Q) :=
  d_slS (by rw [S_len]; exact Nat.le_trans (Nat.le_trans h (by decide)) line_big) (by rw [cutS_take hn]; exact k)
theorem d_dropS {cs : List Nat} {n : Nat} (h : cs.length ≤ 1000000) (hn : n ≤ cs.length) (k : RD K D0 R l (Q (.str (S (cs.drop n))))) : RD K D0 R l (fun H => gSl K (.str (S cs)) (some (n : Int)) none H Q) :=
  d_slS (by rw [S_len]; exact Nat.le_trans (Nat.le_trans h (by decide)) line_big) (by rw [cutS_drop hn]; exact k)
/-- signs of a text, each kept or not -/
theorem d_pick {p : Addr} {cs : List Nat} {σ : L2.St} {i : Nat} (hl : cs.length ≤ 1000) (hp : (wipe σ [i])[1]? = some (some (.ref p)))
    (hi : i ≠ 1) (hi2 : i < σ.length) (kk : ∀ (v : V) (ds : List Nat), ds.Sublist cs → RD K D0 (star (pen K p) R) ((v, .list (ds.map fun c => .str (S [c]))) :: l) (Q v)) :
    RD K D0 (star (pen K p) R) l (fun H => wIt K (.str (S cs)) H fun J H1 => LcK (gName i) (tTest (tOp gGt (tG (sp__law_draw K) W0 (tCons (tVar 1) (tCons (tC (.int 3)) tNil))) (tC (.int 0)))) (tVar i) [i] σ Q J H1) := by
  have hw' : ∀ v : V, wipe ((wipe σ [i]).set i (some v)) [i] = wipe σ [i] := fun v => by
    show ((σ.set i none).set i (some v)).set i none = σ.set i none
    rw [List.set_set, List.set_set]
  have h1 : ∀ v : V, ((wipe σ [i]).set i (some v))[1]? = some (some (.ref p)) := fun v => by
    rw [List.getElem?_set_ne hi]; exact hp
  have h2 : ∀ v : V, ((wipe σ [i]).set i (some v))[i]? = some (some v) := fun v => by
    rw [List.getElem?_set_self]
    rw [wipe_length]; exact hi2
  refine d_lcStr (fun n R' l' es => R' = star (pen K p) R ∧ l' = l ∧ ∃ ds : List Nat, es = ds.map (fun c => PyData.str (S [c])) ∧ ds.Sublist (cs.take n)) ?_ ?_ ?_
  · exact ⟨rfl, rfl, [], rfl, List.nil_sublist _⟩
  · rintro n c D R' l' es hc ⟨rfl, rfl, ds, rfl, hs⟩
    rw [S_tl] at hc
    have hdl : ds.length ≤ 1000 := Nat.le_trans hs.length_le (by rw [List.length_take]; omega)
    refine d_name rfl ?_
    refine d_wipe (hw' _) ?_
    refine d_test (d_op (d_g (d_cons (d_var (h1 _) (d_cons (d_C (d_nil ?_)))))))
    refine d_draw2 (by decide) (by decide) fun m m0 m1 => ?_
    refine d_C (d_I0 (d_bl ?_))
    refine d_iteP (fun _ => ?_) (fun _ => ?_)
    · refine d_var (h2 _) ?_
      refine d_item (l' := l') (d := .str (S [c])) (.str _) ?_ ?_ (by walk_at "sub")
      · rw [List.length_map]; exact Nat.lt_of_lt_of_le (by omega) line_big
      · refine ⟨rfl, rfl, ds ++ [c], by rw [List.map_append]; rfl, ?_⟩
        rw [List.take_succ, hc]
        exact hs.append (List.Sublist.refl _)
    · refine d_noItem (l' := l') ?_ (by walk_at "sub")
      refine ⟨rfl, rfl, ds, rfl, hs.trans ?_⟩
      rw [List.take_succ]
      exact List.sublist_append_left _ _
  · rintro v R' l' es ⟨rfl, rfl, ds, rfl, hs⟩
    rw [S_tl, List.take_length] at hs
    exact kk v ds hs
end
section
variable {K : PySem.W.Frag} {vs : List V} {H : Hp} {Q : VK} {E : XK}
theorem len__law_string (h : sp__law_string K vs H Q E) : vs.length = 3 := spPen_len h
theorem len_positions (h : sp_positions K vs H Q E) : vs.length = 2 := spPure_len h
theorem len_contains (h : sp_contains K vs H Q E) : vs.length = 2 := spPure_len h
theorem len_progress_of (h : sp_progress_of K vs H Q E) : vs.length = 2 := spPure_len h
theorem len__law_pen (h : sp__law_pen K vs H Q E) : vs.length = 1 := by
  obtain ⟨_, _, _, _, _, _, rfl, _⟩ := h
  rfl
theorem len_law (h : spLaw K vs H Q E) : vs.length = 1 := by
  obtain ⟨_, _, rfl, _⟩ := h
  rfl
end
end GL

/-! G7: zip over lists, tuples, texts; list of a text; a text many times; isinstance; is of bools. -/
namespace GL
open PySem PySem.Spec L2
open PyProof.Rows hiding St
open SX (S)
theorem vals_back : ∀ {xs : List V} {us : List Value} {j : Nat} {u : Value}, Vals xs us → us[j]? = some u → ∃ x, xs[j]? = some x ∧ RelV x u
  | _, _, j, u, .nil, h => by simp at h
  | _, _, 0, u, .cons r _, h => by
    simp at h
    subst h
    exact ⟨_, rfl, r⟩
  | _, _, j + 1, u, .cons _ t, h => by
    simp at h
    simpa using vals_back t h
/-! ### what zip is asked to walk -/
inductive Sc where
  | lst (a : Addr)
  | tup (a : Addr)
  | txt (z : Str)
def Sc.v : Sc → V
  | .lst a => .ref a
  | .tup a => .ref a
  | .txt z => .str z
def ones (z : Str) : List V := z.cps.toList.map fun c => .str ⟨#[c]⟩
def Sc.has (K : PySem.W.Frag) (H : Hp) : Sc → List V → Prop
  | .lst a, xs => SqL K H a xs
  | .tup a, xs => SqT K H a xs
  | .txt z, xs => xs = ones z
def Sc.cell (it : Addr) (i : Nat) (h : Heap) : Sc → Prop
  | .lst a => h.IsListIter it a i
  | .tup a => h.IsTupleIter it a i
  | .txt z => ∃ t, h.IsStrIter it (strIterType z) z t i
def Sc.below (n : Nat) : Sc → Prop
  | .lst a => a < n
  | .tup a => a < n
  | .txt _ => True
section
variable {X : Cx} {pins : List (Addr × Obj)} {σ : L2.St} {H : Hp} {s : Shared} {A : Around}
theorem Sc.inj (I : Inv X pins σ H s) (c : Sc) {xs ys : List V} (h1 : c.has X.K H xs) (h2 : c.has X.K H ys) : xs = ys := by
  cases c with
  | lst a => exact I.list_inj h1 h2
  | tup a => exact I.tuple_inj h1 h2
  | txt z => exact Eq.trans h1 (Eq.symm h2)
theorem Sc.live (c : Sc) {it : Addr} {i : Nat} {h : Heap} (hc : c.cell it i h) : ∃ o, h.get? it = some o ∧ ∀ v, o.data ≠ .cell v := by
  cases c with
  | lst a => obtain ⟨o, e, _, d⟩ := hc; exact ⟨o, e, fun v q => by rw [d] at q; cases q⟩
  | tup a => obtain ⟨o, e, _, d⟩ := hc; exact ⟨o, e, fun v q => by rw [d] at q; cases q⟩
  | txt z => obtain ⟨t, o, e, _, d⟩ := hc; exact ⟨o, e, fun v q => by rw [d] at q; cases q⟩
theorem Sc.stay (c : Sc) {it : Addr} {i : Nat} {h h' : Heap} (hc : c.cell it i h) (k : ∀ o, h.get? it = some o → h'.get? it = some o) : c.cell it i h' := by
  cases c with
  | lst a => obtain ⟨o, e, r⟩ := hc; exact ⟨o, k o e, r⟩
  | tup a => obtain ⟨o, e, r⟩ := hc; exact ⟨o, k o e, r⟩
  | txt z => obtain ⟨t, o, e, r⟩ := hc; exact ⟨t, o, k o e, r⟩
/-- the source as the library's walks take it -/
structure Drawn1 (X : Cx) (A : Around) (c : Sc) (it n i : Nat) (xs : List V) (h : Heap) (fp : List Addr) (P : Nat → Value → Prop) (T : Nat → Heap → Prop) : Prop where
  d : Draws X.prog X.w A it fp xs.length P T
  st : T i h
  rel : ∀ j v, P j v → ∃ x, xs[j]? = some x ∧ RelV x v
  cell : ∀ j h', T j h' → c.cell it j h'
  mem : it ∈ fp
  lt : ∀ b ∈ fp, b = it ∨ b < n
theorem Sc.draws (hh : A.handled = none) (I : Inv X pins σ H s) (c : Sc) {it n i : Nat} {xs : List V} (hx : c.has X.K H xs) (hb : c.below n) (hn : n ≤ it) (hc : c.cell it i s.heap) : ∃ fp P T, Drawn1 X A c it n i xs s.heap fp P T := by
  cases c with
  | lst a =>
    obtain ⟨its, rv, p, _⟩ := I.list hx
    have e := Draws.list (prog := X.prog) (w := X.w) hh it a (Nat.ne_of_lt (Nat.lt_of_lt_of_le hb hn)) its.toArray
    have el : its.toArray.size = xs.length := by rw [List.size_toArray, rv.length]
    rw [el] at e
    refine ⟨_, _, _, e, ⟨hc, p.isList⟩, fun j v h => ?_, fun j h' t => t.1, List.mem_cons_self, fun b hb' => ?_⟩
    · exact vals_back rv (by simpa using h)
    · simp at hb'
      rcases hb' with rfl | rfl
      · exact .inl rfl
      · exact .inr hb
  | tup a =>
    obtain ⟨its, rv, p, _⟩ := I.tuple hx
    have e := Draws.tuple (prog := X.prog) (w := X.w) hh it a (Nat.ne_of_lt (Nat.lt_of_lt_of_le hb hn)) its.toArray
    have el : its.toArray.size = xs.length := by rw [List.size_toArray, rv.length]
    rw [el] at e
    refine ⟨_, _, _, e, ⟨hc, p⟩, fun j v h => ?_, fun j h' t => t.1, List.mem_cons_self, fun b hb' => ?_⟩
    · exact vals_back rv (by simpa using h)
    · simp at hb'
      rcases hb' with rfl | rfl
      · exact .inl rfl
      · exact .inr hb
  | txt z =>
    obtain ⟨t, hc⟩ := hc
    have e := Draws.text (prog := X.prog) (w := X.w) hh it z t
    have ex : xs = ones z := hx
    have el : z.cps.size = xs.length := by rw [ex]; simp [ones]
    rw [el] at e
    refine ⟨_, _, _, e, hc, fun j v h => ?_, fun j h' q => ⟨t, q⟩, List.mem_cons_self, fun b hb' => .inl (by simpa using hb')⟩
    obtain ⟨c, u, hc', rfl⟩ := h
    refine ⟨.str ⟨#[c]⟩, ?_, ⟨u, rfl⟩⟩
    rw [ex]
    simp [ones, hc']
/-- iter(v) of a source -/
theorem Sc.begins (I : Inv X pins σ H s) (c : Sc) {xs : List V} {u : Value} (hx : c.has X.K H xs) (r : RelV c.v u) :
    ∃ o Hd, Begins u o Hd ∧ Hd s.heap ∧ c.below s.heap.objs.size ∧ ∀ it h, h.get? it = some o → c.cell it 0 h := by
  cases c with
  | lst a =>
    cases (show u = Value.ref a from r)
    obtain ⟨its, rv, p, _⟩ := I.list hx
    exact ⟨_, _, begins_list a its.toArray, p.isList, p.lt, fun it h e => ⟨_, e, rfl, rfl⟩⟩
  | tup a =>
    cases (show u = Value.ref a from r)
    obtain ⟨its, rv, p, _⟩ := I.tuple hx
    obtain ⟨o, e, _⟩ := id p
    exact ⟨_, _, begins_tuple a its.toArray, p, Heap.lt_size e, fun it h e => ⟨_, e, rfl, rfl⟩⟩
  | txt z =>
    obtain ⟨t, q⟩ := (show ∃ t, u = Value.str z t from r)
    subst q
    exact ⟨_, _, begins_text z t, trivial, trivial, fun it h e => ⟨t, _, e, rfl, rfl⟩⟩
end
/-- zip(c1, c2): new pairs, as many as the shorter one has -/
def Itzg (K : PySem.W.Frag) (c1 c2 : Sc) : It :=
  ⟨fun i H => ∃ xs ys : List V, c1.has K H xs ∧ c2.has K H ys ∧ i < xs.length ∧ i < ys.length,
    fun i H v H' => ∃ T x y, v = .ref T ∧ H T = none ∧ H' = upd H T (.tup [x, y]) ∧ (∀ xs, c1.has K H xs → xs[i]? = some x) ∧ ∀ ys, c2.has K H ys → ys[i]? = some y,
    fun i H => ∃ xs ys : List V, c1.has K H xs ∧ c2.has K H ys ∧ i = min xs.length ys.length⟩
abbrev zfp (n : Nat) : List Addr := [n + 4, n + 2, n + 3, n, n + 1]
def zst (c1 c2 : Sc) (n i : Nat) (h : Heap) : Prop := IsZip h (n + 4) (n + 2) (n + 3) .none ∧ IsTupOf2 h (n + 2) (.ref n) (.ref (n + 1)) ∧ (∃ x y, IsTupOf2 h (n + 3) x y) ∧ c1.cell n i h ∧ c2.cell (n + 1) i h
theorem zsep {X : Cx} {A : Around} {c1 c2 : Sc} {n i j : Nat} {xs ys : List V} {h : Heap} {f1 f2 : List Addr} {P1 P2 : Nat → Value → Prop} {T1 T2 : Nat → Heap → Prop} (D1 : Drawn1 X A c1 n n i xs h f1 P1 T1) (D2 : Drawn1 X A c2 (n + 1) n i ys h f2 P2 T2) :
    ZipSep2 (n + 4) (n + 2) (n + 3) n (n + 1) f1 f2 := by
  have ne : ∀ a b : Nat, a ≠ b → (show Addr from a) ≠ (show Addr from b) := fun _ _ h => h
  have o1 : ∀ b : Nat, (b ≠ n ∧ n ≤ b) → (show Addr from b) ∉ f1 := fun b hb q => by
    rcases D1.lt _ q with e | e
    · exact hb.1 e
    · exact absurd (show b < n from e) (by omega)
  have o2 : ∀ b : Nat, (b ≠ n + 1 ∧ n ≤ b) → (show Addr from b) ∉ f2 := fun b hb q => by
    rcases D2.lt _ q with e | e
    · exact hb.1 e
    · exact absurd (show b < n from e) (by omega)
  exact ⟨ne _ _ (by omega), ne _ _ (by omega), ne _ _ (by omega), ne _ _ (by omega), D1.mem, o1 _ (by omega), o1 _ (by omega), ne _ _ (by omega), D2.mem, o2 _ (by omega), o2 _ (by omega), o2 _ (by omega), o1 _ (by omega)⟩
theorem turn_zipg {P : Program} {w : World} {K : PySem.W.Frag} {elts : List Expr} {kk : Nat} {tpos : Pos} {c1 c2 : Sc} {n : Nat} (b1 : c1.below n) (b2 : c2.below n) :
    Turn P w K (.Tuple elts kk tpos) (Itzg K c1 c2) (zfp n) (n + 4) (zst c1 c2 n) where
  mem := List.mem_cons_self
  obj := fun i h st c hc => by
    obtain ⟨hz, hTI, ⟨x, y, hTO⟩, h1, h2⟩ := st
    have q : c = n + 4 ∨ c = n + 2 ∨ c = n + 3 ∨ c = n ∨ c = n + 1 := by simpa using hc
    rcases q with rfl | rfl | rfl | rfl | rfl
    · exact ⟨_, hz, nofun⟩
    · exact ⟨_, hTI, nofun⟩
    · exact ⟨_, hTO, nofun⟩
    · exact c1.live h1
    · exact c2.live h2
  keep := fun i h h' st k => by
    obtain ⟨hz, hTI, ⟨x, y, hTO⟩, h1, h2⟩ := st
    refine ⟨k _ (by simp) _ hz, k _ (by simp) _ hTI, ⟨x, y, k _ (by simp) _ hTO⟩, c1.stay h1 fun o e => k _ (by simp) o e, c2.stay h2 fun o e => k _ (by simp) o e⟩
  item := by
    intro X hP hw hK hc i pins s σ H E I hf st hg
    subst hP hw hK
    have lv : ∀ c, c ∈ zfp n → ∃ o, s.heap.get? c = some o := fun c hcm => (by
      obtain ⟨hz, hTI, ⟨x, y, hTO⟩, h1, h2⟩ := st
      have q : c = n + 4 ∨ c = n + 2 ∨ c = n + 3 ∨ c = n ∨ c = n + 1 := by simpa using hcm
      rcases q with rfl | rfl | rfl | rfl | rfl
      · exact ⟨_, hz⟩
      · exact ⟨_, hTI⟩
      · exact ⟨_, hTO⟩
      · obtain ⟨o, e, _⟩ := c1.live h1; exact ⟨o, e⟩
      · obtain ⟨o, e, _⟩ := c2.live h2; exact ⟨o, e⟩)
    obtain ⟨hz, hTI, ⟨a0, b0, hTO⟩, h1, h2⟩ := st
    obtain ⟨xs, ys, hx, hy, l1, l2⟩ := hg
    have hh : X.A.in1.handled = none := I.ok.hd hc
    obtain ⟨f1, P1, T1, D1⟩ := c1.draws (A := X.A.in1) hh I hx b1 (Nat.le_refl _) h1
    obtain ⟨f2, P2, T2, D2⟩ := c2.draws (A := X.A.in1) hh I hy b2 (Nat.le_succ n) h2
    have W := GoesN.zip2 (elts := elts) (x1 := kk) (pos := tpos) (zsep (j := 0) D1 D2) D1.d D2.d
    refine W.goes i s _ E (Nat.lt_min.2 ⟨l1, l2⟩) ⟨hz, hTI, ⟨_, _, hTO⟩, D1.st, D2.st⟩ fun v h' tk hY st' hk _ => ?_
    obtain ⟨T, a, b, rfl, hT, p1, p2, hTup⟩ := hY
    obtain ⟨x, ex, rx⟩ := D1.rel _ _ p1
    obtain ⟨y, ey, ry⟩ := D2.rel _ _ p2
    have new : ObjOk X.prog X.w (upd H T (.tup [x, y])) h' T (.tup [x, y]) := ⟨by show 2 ≤ sizeLine; decide, [a, b], .cons rx (.cons ry .nil), hTup⟩
    have I1 : Inv X pins σ (upd H T (.tup [x, y])) { s with heap := h', toks := tk } :=
      I.turnedNew (t' := tk) (ch := [n + 4, n + 3, n, n + 1]) hk (fun c hcm => hf c (by
        have q : c = n + 4 ∨ c = n + 3 ∨ c = n ∨ c = n + 1 := by simpa using hcm
        rcases q with rfl | rfl | rfl | rfl <;> simp)) hT new
    refine ⟨.ref T, _, I1, rfl, ⟨T, x, y, rfl, I.hok.fresh hT, rfl, fun zs hz' => by rw [c1.inj I hz' hx]; exact ex, fun zs hz' => by rw [c2.inj I hz' hy]; exact ey⟩, ?_, fun c hcm => ?_⟩
    · obtain ⟨g1, g2, g3, g4, g5⟩ := st'
      exact ⟨g1, g2, g3, D1.cell _ _ g4, D2.cell _ _ g5⟩
    · obtain ⟨o, e⟩ := lv c hcm
      rw [upd_ne (Nat.ne_of_lt (Nat.lt_of_lt_of_le (Heap.lt_size e) hT))]
      exact (hf c hcm).1
  done := by
    intro X hP hw hK hc i pins s σ H E I hf st hg
    subst hP hw hK
    obtain ⟨hz, hTI, ⟨a0, b0, hTO⟩, h1, h2⟩ := st
    obtain ⟨xs, ys, hx, hy, rfl⟩ := hg
    have hh : X.A.in1.handled = none := I.ok.hd hc
    obtain ⟨f1, P1, T1, D1⟩ := c1.draws (A := X.A.in1) hh I hx b1 (Nat.le_refl _) h1
    obtain ⟨f2, P2, T2, D2⟩ := c2.draws (A := X.A.in1) hh I hy b2 (Nat.le_succ n) h2
    have W := GoesN.zip2 (elts := elts) (x1 := kk) (pos := tpos) (zsep (j := 0) D1 D2) D1.d D2.d
    refine W.stops s _ E ⟨hz, hTI, ⟨_, _, hTO⟩, D1.st, D2.st⟩ fun h' tk hk _ => ?_
    exact I.turnedL (t' := tk) (ch := [n + 4, n + 3, n, n + 1]) hk fun c hcm => hf c (by
      have q : c = n + 4 ∨ c = n + 3 ∨ c = n ∨ c = n + 1 := by simpa using hcm
      rcases q with rfl | rfl | rfl | rfl <;> simp)
  self := fun A i s Q E st h => wpAny_pyIter_zip st.1 h
def gZip (K : PySem.W.Frag) (ta : TA) : TI := fun σ H R => ta σ H fun vs H1 => ∃ (c1 c2 : Sc) (xs ys : List V), vs = [c1.v, c2.v] ∧ c1.has K H1 xs ∧ c2.has K H1 ys ∧ R (Itzg K c1 c2) H1
theorem pi_gzip {X : Cx} {e e2 : Expr} {ta : TA} {p pos tpos : Pos} {elts : List Expr} {kk : Nat} (hg : Gl X "zip") (hm : X.mg "zip" = none) (ha : PA X [e, e2] ta)
    (hs : starEach [e, e2] X.env = (false, eval e X.env) :: starEach [e2] X.env := by rfl) (hpl : (backTo pos (starEach [e2] X.env)).any (·.1) = false := by rfl) :
    PI X (.Tuple elts kk tpos) (.Call (.Name "zip" p) [e, e2] [] pos) (gZip X.K ta) := by
  constructor
  intro pins s σ H R I h
  refine Call_ ?_
  refine ld_blt I hg hm PyProof.Rows.boot_zip ?_
  refine PyProof.Rows.callWith_type1 ?_ hs hpl
  apply thn (ha.run pos pins s σ H _ I h)
  rintro us s1 ⟨vs, H1, I1, r1, c1, c2, xs, ys, rfl, hx, hy, q⟩
  obtain ⟨u1, u2, rfl, r1, r2⟩ := vals2 r1
  obtain ⟨o1, Hd1, B1, q1, b1, k1⟩ := c1.begins I1 hx r1
  obtain ⟨o2, Hd2, B2, q2, b2, k2⟩ := c2.begins I1 hy r2
  apply zip_begins2 B1 B2 q1 q2
  intro h' hz hTI hTO e1 e2 hsz hk
  apply wpAny_pyIter_zip hz
  refine ⟨_, zfp s1.heap.objs.size, zst c1 c2 s1.heap.objs.size, Itzg X.K c1 c2, H1, rfl, I1.kept (t' := s1.toks) hk, turn_zipg b1 b2, ⟨hz, hTI, ⟨_, _, hTO⟩, k1 _ _ e1, k2 _ _ e2⟩, fun c hcm => ?_, q⟩
  have hle : s1.heap.objs.size ≤ c := by
    have q : c = s1.heap.objs.size + 4 ∨ c = s1.heap.objs.size + 2 ∨ c = s1.heap.objs.size + 3 ∨ c = s1.heap.objs.size ∨ c = s1.heap.objs.size + 1 := by simpa using hcm
    rcases q with rfl | rfl | rfl | rfl | rfl
    · exact Nat.le_add_right _ _
    · exact Nat.le_add_right _ _
    · exact Nat.le_add_right _ _
    · exact Nat.le_refl _
    · exact Nat.le_add_right _ _
  exact I1.fpOk hle (I1.hok.fresh hle)
/-! ### list(text), text * n, isinstance, is -/
theorem vals_of_get : ∀ {xs : List V} {us : List Value}, xs.length = us.length → (∀ (j : Nat) (v : Value), us[j]? = some v → ∃ x, xs[j]? = some x ∧ RelV x v) → Vals xs us
  | [], [], _, _ => .nil
  | [], _ :: _, h, _ => by simp at h
  | _ :: _, [], h, _ => by simp at h
  | x :: xs, u :: us, h, k => by
    obtain ⟨y, ey, r⟩ := k 0 u rfl
    cases ey
    exact .cons r (vals_of_get (by simpa using h) fun j v e => k (j + 1) v e)
def gListA (K : PySem.W.Frag) : List V → Hp → VK → Prop := fun xs H Q => gList K xs H Q ∨ ∃ z : Str, xs = [.str z] ∧ z.length ≤ sizeLine ∧ ∀ l, H l = none → Q (.ref l) (upd H l (.lst (ones z)))
theorem call_glistA {X : Cx} (hc : X.calm = true) : CallR X (.type "list") (gListA X.K) := by
  intro pins s σ H xs us Q I r h
  rcases h with h | ⟨z, rfl, hz, q⟩
  · exact call_glist pins s σ H xs us Q I r h
  obtain ⟨u, rfl, ru⟩ := vals1 r
  obtain ⟨t, rfl⟩ := (show ∃ t, u = Value.str z t from ru)
  refine call_list_str (I.ok.hd hc) z t (fun h' tk acc c hk hS hacc => ?_) hz
  have hv : Vals (ones z) acc.toList := by
    refine vals_of_get (by rw [show acc.toList.length = acc.size from Array.length_toList, hacc.1]; exact (List.length_map _).trans Array.length_toList) fun j v e => ?_
    obtain ⟨c, u, hc', rfl⟩ := hacc.2 j v (by simpa using e)
    exact ⟨.str ⟨#[c]⟩, by simp [ones, hc'], ⟨u, rfl⟩⟩
  have hn : H s.heap.objs.size = none := I.hok.fresh (Nat.le_refl _)
  have new : ObjOk X.prog X.w (upd H s.heap.objs.size (.lst (ones z))) h' s.heap.objs.size (.lst (ones z)) :=
    ⟨Nat.le_trans (Nat.le_of_eq ((List.length_map _).trans Array.length_toList)) hz, acc.toList, c, hv, by simpa using hS⟩
  exact ⟨.ref _, _, I.laid (t' := tk) hk (Nat.le_refl _) new, rfl, q _ hn⟩
def gMulA : R2 := fun x y H Q => gMul x y H Q ∨ ∃ (z : Str) (n : Int), x = .str z ∧ y = .int n ∧ MulOk z n ∧ Q (.str (Txt.mul z n)) H
theorem op_gmulA {X : Cx} : OpR X (binaryOp .Mult) gMulA := by
  intro pins s σ H x y v u Q I rx ry h
  rcases h with h | ⟨z, n, rfl, rfl, hm, q⟩
  · exact op_gmul pins s σ H x y v u Q I rx ry h
  obtain ⟨t, rfl⟩ := (show ∃ t, v = Value.str z t from rx)
  obtain ⟨t2, rfl⟩ := (show ∃ t, u = Value.int n t from ry)
  exact SB.mul hm fun t' k => ⟨.str _, H, I.tok k, ⟨t', rfl⟩, q⟩
end GL

/-! G8: derived rules for G7's readings. -/
namespace GL
open PySem PySem.Spec L2
open SX (S)
local macro_rules | `(tactic| walk_at "mem") => `(tactic| (first | exact List.Mem.head _ | exact List.Mem.tail _ (List.Mem.head _) | exact List.Mem.tail _ (List.Mem.tail _ (List.Mem.head _)) | ((repeat (first | exact List.Mem.head _ | apply List.Mem.tail)); done)))
local macro_rules | `(tactic| walk_at "inl") => `(tactic| (first | exact InL.int _ | exact InL.str _ | exact InL.bl _ | exact InL.non | (refine InL.mem ?zm; walk_at "mem") | assumption))
local macro_rules | `(tactic| walk_at "inls") => `(tactic| (repeat (first | exact InLs.nil | (refine InLs.cons ?zi ?_; case zi => walk_at "inl"))))
local macro_rules | `(tactic| walk_at "set") => `(tactic| (simp only [wipe, List.set_cons_succ, List.set_cons_zero]; rfl))
local macro_rules | `(tactic| walk_at "tails") => `(tactic| (first | exact sub_refl | exact sub_tail sub_refl | exact sub_tail (sub_tail sub_refl) | exact sub_nil | ((repeat (first | exact sub_refl | apply sub_tail)); done)))
local macro_rules | `(tactic| walk_at "sub") => `(tactic| (first | walk_at "tails" | ((repeat (refine sub_cons ?zi ?_; case zi => walk_at "inl")); walk_at "tails")))
local macro_rules | `(tactic| walk_at "g1") => `(tactic| (first
  | with_reducible refine d_seq ?_
  | with_reducible refine d_asg ?_
  | ((with_reducible refine d_name (σ' := ?zs) ?zh ?_); (case zh => walk_at "set"))
  | ((with_reducible refine d_var (v := ?zs) ?zh ?_); (case zh => rfl))
  | with_reducible refine d_C ?_
  | with_reducible refine d_op ?_
  | with_reducible refine d_cons ?_
  | with_reducible refine d_nil ?_
  | with_reducible refine d_cb ?_
  | with_reducible refine d_g ?_
  | with_reducible refine d_ifS ?_
  | with_reducible refine d_test ?_
  | with_reducible refine d_bl ?_
  | with_reducible refine d_addI ?_
  | with_reducible refine d_I0 ?_
  | with_reducible refine d_ret ?_
  | with_reducible refine d_retN ?_
  | with_reducible refine d_next ?_
  | with_reducible refine d_drop ?_
  | with_reducible refine d_and ?_
  | with_reducible refine d_or ?_
  | with_reducible refine d_not ?_
  | with_reducible refine d_andV ?_
  | with_reducible refine d_orV ?_
  | with_reducible refine d_notV ?_
  | with_reducible refine d_tru ?_
  | with_reducible refine d_truB ?_
  | with_reducible refine d_tif ?_
  | with_reducible refine d_iteT ?_
  | with_reducible refine d_iteF ?_
  | with_reducible refine d_iteNT ?_
  | with_reducible refine d_iteNF ?_
  | with_reducible refine d_eqI ?_
  | with_reducible refine d_neI ?_
  | with_reducible refine d_eqS ?_
  | with_reducible refine d_neS ?_
  | with_reducible refine d_eqB ?_
  | with_reducible refine d_neB ?_
  | with_reducible refine d_isN ?_
  | with_reducible refine d_notN ?_
  | with_reducible refine d_bm ?_
  | with_reducible refine d_tyS ?_
  | with_reducible refine d_tyO ?_
  | with_reducible refine d_find3 ?_
  | with_reducible refine d_tup ?_
  | with_reducible refine d_lst ?_
  | with_reducible refine d_for ?_
  | with_reducible refine d_iRng1 ?_
  | with_reducible refine d_gIt ?_
  | with_reducible refine d_lc ?_
  | with_reducible refine d_yes ?_
  | with_reducible refine d_tSl ?_
  | with_reducible refine d_noPart ?_
  | with_reducible refine d_part ?_
  | with_reducible refine d_int ?_
  | ((with_reducible refine d_wipe ?zh ?_); (case zh => rfl))
  | ((with_reducible refine d_aug (v := ?zs) ?zh ?_); (case zh => rfl))
  | with_reducible refine d_ipI ?_
  | ((with_reducible refine d_set (σ' := ?zs) ?zh ?_); (case zh => walk_at "set"))))
local macro_rules | `(tactic| walk_at "go") => `(tactic| (repeat walk_at "g1"))
def kPar (i j : Nat) (vs : List V) (D : Ends) (σ : L2.St) (H1 : Hp) : Prop := ∃ v w, vs = [v, w] ∧ D.nx ((σ.set i (some v)).set j (some w)) H1
theorem dt_ones {K : PySem.W.Frag} {H : Hp} : ∀ cs : List Nat, DtAll K H (cs.map fun c => V.str ⟨#[c]⟩) (cs.map fun c => PyData.str ⟨#[c]⟩)
  | [] => .nil
  | c :: cs => .cons (.str _) (dt_ones cs)
/-- the name of the data's type (the plain ones) -/
def tyD : PyData → String
  | .none => "NoneType"
  | .bool _ => "bool"
  | .int _ => "int"
  | .str _ => "str"
  | .list _ => "list"
  | .tuple _ => "tuple"
  | _ => ""
theorem Dt.ty {K : PySem.W.Frag} {H : Hp} {x : V} {d : PyData} (h : Dt K H x d) : ∃ t, TyX K H x (.type t) ∧ t = tyD d := by
  cases h with
  | non => exact ⟨_, .base .non, rfl⟩
  | bl b => exact ⟨_, .base (.bl b), rfl⟩
  | int i => exact ⟨_, .base (.int i), rfl⟩
  | str x => exact ⟨_, .base (.str x), rfl⟩
  | lst e _ => exact ⟨_, .base (.lst e), rfl⟩
  | tup e _ =>
    rcases e with (e | ⟨o, e⟩) | ⟨o, its, n, e, c, _⟩
    · exact ⟨_, .base (.tup e), rfl⟩
    · exact ⟨_, .fTuple e, rfl⟩
    · exact ⟨_, .kTuple e c, rfl⟩
section
variable {K : PySem.W.Frag} {D0 : Hp} {R : Res} {l : List (V × PyData)} {σ : L2.St} {D : Ends} {Q : VK}
def kZip (K : PySem.W.Frag) (vs : List V) (H1 : Hp) (Ri : It → Hp → Prop) : Prop := ∃ (c1 c2 : Sc) (xs ys : List V), vs = [c1.v, c2.v] ∧ c1.has K H1 xs ∧ c2.has K H1 ys ∧ Ri (Itzg K c1 c2) H1
theorem d_gZip {ta : TA} {Ri : It → Hp → Prop} (k : RD K D0 R l (fun H => ta σ H fun vs H1 => kZip K vs H1 Ri)) : RD K D0 R l (fun H => gZip K ta σ H Ri) := k
theorem d_gcons {t : TG} {u : TGs} {v : V} {r : List V} {Qn : L2.St → Hp → Prop} (k : RD K D0 R l (fun H => t v σ H fun σ' H' => u r σ' H' Qn)) : RD K D0 R l (fun H => gCons t u (v :: r) σ H Qn) := fun N H A => ⟨v, r, rfl, k N H A⟩
theorem d_gnil {Qn : L2.St → Hp → Prop} (k : RD K D0 R l (Qn σ)) : RD K D0 R l (fun H => gNil [] σ H Qn) := fun N H A => ⟨rfl, k N H A⟩
/-- for a, b in zip(a tuple, a text) -/
theorem d_forZipTS {g : TGs} {tb : TS} {v : V} {z : Str} {ds : List PyData} (hv : InL l v (.tuple ds)) (P : Nat → Res → L2.St → List (V × PyData) → Prop) (hkeep : ∀ i R' σ' l', P i R' σ' l' → InL l' v (.tuple ds)) (h0 : P 0 R σ l)
    (hs : ∀ i d x c R' σ' l', ds[i]? = some d → z.cps.toList[i]? = some c → Dv x d → P i R' σ' l' → RD K D0 R' ((x, d) :: l') (fun H => g [x, .str ⟨#[c]⟩] σ' H fun σ2 H2 => tb { D with nx := Cont K D0 (P (i + 1)), ct := Cont K D0 (P (i + 1)), bk := D.nx } σ2 H2))
    (hd : ∀ R' σ' l', P (min ds.length z.cps.toList.length) R' σ' l' → RD K D0 R' l' (fun H => D.nx σ' H)) :
    RD K D0 R l (fun H => kZip K [v, .str z] H fun J H1 => ForK (gTup K 2 g) tb D σ J H1) := fun N H A => by
  obtain ⟨a, xs, rfl, ha, hd0⟩ := (A.dt hv).tuple
  have hl : ∀ {i R' σ' l' N' H'}, P i R' σ' l' → At K D0 R' l' N' H' → ∃ xs', SqT K H' a xs' ∧ DtAll K (off H' N') xs' ds := fun p A' => by
    obtain ⟨a', xs', e, h', d'⟩ := (A'.dt (hkeep _ _ _ _ p)).tuple
    cases e
    exact ⟨xs', same_sqT off_same h', d'⟩
  have lz : (ones z).length = z.cps.toList.length := List.length_map _
  refine ⟨.tup a, .txt z, xs, ones z, rfl, same_sqT off_same ha, rfl, fun i m σ H => m = min ds.length z.cps.toList.length - i ∧ i ≤ min ds.length z.cps.toList.length ∧ Cont K D0 (P i) σ H, ⟨_, rfl, Nat.zero_le _, R, l, N, h0, A⟩, ?_⟩
  rintro i m σ' H' ⟨rfl, hi, R', l', N', p, A'⟩
  obtain ⟨xs', hq, d'⟩ := hl p A'
  by_cases hlt : i < min ds.length z.cps.toList.length
  · have l1 : i < ds.length := by omega
    have l2 : i < z.cps.toList.length := by omega
    refine .inr ⟨⟨xs', ones z, hq, rfl, by rw [d'.len]; exact l1, by rw [lz]; exact l2⟩, Cont K D0 (P (i + 1)), fun σ2 H2 p => ⟨min ds.length z.cps.toList.length - (i + 1), by omega, rfl, hlt, p⟩, ?_⟩
    rintro u H2 ⟨T, x, y, rfl, hT, rfl, hx, hy⟩
    obtain ⟨d, e1, e2⟩ := d'.get (hx xs' hq)
    have ey := hy (ones z) rfl
    obtain ⟨c, hc⟩ : ∃ c, z.cps.toList[i]? = some c := ⟨_, List.getElem?_eq_getElem l2⟩
    have ey2 : y = .str ⟨#[c]⟩ := by
      rw [show (ones z)[i]? = (z.cps.toList[i]?).map (fun c => V.str ⟨#[c]⟩) from List.getElem?_map .., hc] at ey
      exact (Option.some.inj ey).symm
    subst ey2
    obtain ⟨A2, e⟩ := A'.new (.tup [x, .str ⟨#[c]⟩]) hT
    have e3 : Dt K (off (upd H' T (.tup [x, .str ⟨#[c]⟩])) N') x d := by
      have A3 := (A'.facts e2).new (.tup [x, .str ⟨#[c]⟩]) hT
      exact A3.1.dt (.mem List.mem_cons_self)
    have r := hs i d x c R' σ' l' e1 hc e2.dv p N' _ (A2.facts e3)
    exact ⟨T, [x, .str ⟨#[c]⟩], rfl, .inl (.inl upd_same), rfl, r⟩
  · have e : i = min ds.length z.cps.toList.length := by omega
    subst e
    exact .inl ⟨⟨xs', ones z, hq, rfl, by rw [d'.len, lz]⟩, hd R' σ' l' p N' H' A'⟩
/-! ### list(text), text * n, isinstance, is, a, b = .. -/
theorem d_listT {z : Str} (hz : z.length ≤ sizeLine) (k : ∀ v, RD K D0 R ((v, .list (z.cps.toList.map fun c => .str ⟨#[c]⟩)) :: l) (Q v)) : RD K D0 R l (fun H => gListA K [.str z] H Q) :=
  fun N H A => .inr ⟨z, rfl, hz, RD.new (fun D p _ e => .lst e (dt_ones _)) k N H A⟩
theorem d_mulIA {i j : Int} (c : CMul i j) (k : RD K D0 R l (Q (.int (i * j)))) : RD K D0 R l (fun H => gMulA (.int i) (.int j) H Q) := fun N H A => .inl (d_mulI c k N H A)
theorem mulN {cs : List Nat} {n : Nat} (h : cs.length * n ≤ 1000000) (hn : n ≤ 1000000) : MulOk (S cs) (n : Int) ∧ Txt.mul (S cs) (n : Int) = S (List.replicate n cs).flatten := by
  have hl : (S cs).length = cs.length := S_len cs
  have hc : (n : Int).toNat = n := rfl
  refine ⟨⟨?_, ?_, ?_⟩, ?_⟩
  · have h1 : ¬ ((n : Int) < -(2 ^ 63 : Int)) := by omega
    have h2 : ¬ ((n : Int) ≥ 2 ^ 63) := by omega
    rw [decide_eq_false h1, decide_eq_false h2]
    rfl
  · intro a _
    rw [hl]
    have hm : (cs.length : Int) * (n : Int) ≤ 2 ^ 63 - 1 := by
      have : ((cs.length * n : Nat) : Int) ≤ 1000000 := by omega
      rw [Int.natCast_mul] at this
      omega
    have := Int.le_ediv_of_mul_le (show (0 : Int) < n by omega) hm
    omega
  · intro _ _
    rw [hl, hc]
    have h3 : ¬ (cs.length * n > sizeLine) := Nat.not_lt.2 (Nat.le_trans (Nat.le_trans h (by decide)) line_big)
    exact decide_eq_false h3
  · unfold Txt.mul
    have hf : ∀ (m : Nat) (acc : List Nat), ((List.replicate m (S cs).cps).foldl (· ++ ·) acc.toArray) = (acc ++ (List.replicate m cs).flatten).toArray := by
      intro m
      induction m with
      | zero => intro acc; simp
      | succ m ih =>
        intro acc
        rw [List.replicate_succ, List.foldl_cons, List.replicate_succ, List.flatten_cons]
        have e : acc.toArray ++ (S cs).cps = (acc ++ cs).toArray := by
          show acc.toArray ++ cs.toArray = _
          simp
        rw [e, ih, List.append_assoc]
    rw [hc]
    by_cases h1 : (n : Int) < 1
    · rw [if_pos h1]
      have : n = 0 := by omega
      subst this
      rfl
    · rw [if_neg h1]
      by_cases h2 : ((n : Int) == 1 || (S cs).length == 0) = true
      · rw [if_pos h2]
        rcases Bool.or_eq_true_iff.1 h2 with q | q
        · have q2 : (n : Int) = 1 := by simpa using q
          have : n = 1 := by omega
          subst this
          simp
        · have : cs = [] := by
            rw [hl] at q
            exact List.length_eq_zero_iff.1 (by simpa using q)
          subst this
          simp
      · rw [if_neg h2]
        exact congrArg Str.mk (by simpa using hf n [])
theorem d_mulS {cs : List Nat} {n : Nat} (h : cs.length * n ≤ 1000000) (hn : n ≤ 1000000) (k : RD K D0 R l (Q (.str (S (List.replicate n cs).flatten)))) : RD K D0 R l (fun H => gMulA (.str (S cs)) (.int (n : Int)) H Q) :=
  fun N H A => .inr ⟨S cs, n, rfl, rfl, (mulN h hn).1, by rw [(mulN h hn).2]; exact k N H A⟩
theorem d_isB {a b : Bool} (k : RD K D0 R l (Q (.bl (decide (a = b))))) : RD K D0 R l (fun H => L2.rIsB (.bl a) (.bl b) H Q) := fun N H A => ⟨a, b, rfl, rfl, k N H A⟩
theorem d_notB {a b : Bool} (k : RD K D0 R l (Q (.bl (!decide (a = b))))) : RD K D0 R l (fun H => L2.rNotB (.bl a) (.bl b) H Q) := fun N H A => ⟨a, b, rfl, rfl, k N H A⟩
theorem d_par {i j : Nat} {ta : TA} (k : RD K D0 R l (fun H => ta σ H fun vs H1 => kPar i j vs D σ H1)) : RD K D0 R l (fun H => tPar i j ta D σ H) := k
theorem d_kPar {i j : Nat} {v w : V} (k : RD K D0 R l (fun H => D.nx ((σ.set i (some v)).set j (some w)) H)) : RD K D0 R l (fun H => kPar i j [v, w] D σ H) := fun N H A => ⟨v, w, rfl, k N H A⟩
/-- isinstance(x, T) -/
theorem d_isi {x : V} {d : PyData} {n : String} {b : Bool} (hx : InL l x d) (hk : ∀ t, t = tyD d → PySem.W.kitOne K (.type t) (.type n) = some b) (k : RD K D0 R l (Q (.bl b))) : RD K D0 R l (fun H => rIsi K [x, .ty n] H Q) := fun N H A => by
  obtain ⟨t, ht, e⟩ := (A.dH hx).ty
  exact ⟨x, .ty n, .type t, .type n, b, rfl, .ty n, ht, hk t e, k N H A⟩
theorem d_repr {x : V} {d : PyData} (hx : InL l x d) (h1 : d.showable = true) (h2 : d.depth ≤ 60) (h3 : d.shown.length ≤ sizeLine) (h4 : d.hasDict = false) (k : RD K D0 R l (Q (.str d.shown))) : RD K D0 R l (fun H => rRepr K [x] H Q) :=
  fun N H A => ⟨x, d, rfl, (A.dH hx).dp, h1, h4, h2, h3, k N H A⟩
theorem d_un {r : V → Hp → VK → Prop} {t : TE} (k : RD K D0 R l (fun H => t σ H fun x H1 => r x H1 Q)) : RD K D0 R l (fun H => tUn r t σ H Q) := k
theorem d_negI {i : Int} (k : RD K D0 R l (Q (.int (-i)))) : RD K D0 R l (fun H => gNeg (.int i) H Q) := fun N H A => ⟨i, rfl, k N H A⟩
theorem d_takeA {cs : List Nat} {n : Nat} (h : cs.length ≤ 1000000) (k : RD K D0 R l (Q (.str (S (cs.take n))))) : RD K D0 R l (fun H => gSl K (.str (S cs)) none (some (n : Int)) H Q) := by
  have e : cutS (S cs) none (some (n : Int)) = S (cs.take n) := by
    unfold cutS
    rw [HT.sIx_none, HT.sIx_nat, S_tl, S_len]
    by_cases hn : n ≤ cs.length
    · rw [Nat.min_eq_left hn]
      rfl
    · rw [Nat.min_eq_right (by omega), List.take_of_length_le (show cs.length ≤ n by omega)]
      show S ((cs.drop 0).take (cs.length - 0)) = S cs
      simp
  exact d_slS (by rw [S_len]; exact Nat.le_trans (Nat.le_trans h (by decide)) line_big) (by rw [e]; exact k)
theorem d_lcTup {v : V} {ds : List PyData} {g : TG} {tt : TT} {te : TE} {vs : List Nat} (hv : InL l v (.tuple ds)) (P : Nat → Res → List (V × PyData) → List PyData → Prop) (hkeep : ∀ i R' l' es, P i R' l' es → InL l' v (.tuple ds)) (h0 : P 0 R l [])
    (hs : ∀ i d x D R' l' es, ds[i]? = some d → Dv x d → P i R' l' es → RD K D0 (star (own K D es) R') ((x, d) :: l') (fun H => g x (wipe σ vs) H fun σ2 H2 => kWipe σ2 vs σ H2 fun H2 => tt σ2 H2 fun b H3 =>
      if b = true then te σ2 H3 fun y H4 => kItem D y H4 (ContC K D0 D (P (i + 1))) else ContC K D0 D (P (i + 1)) H3))
    (hd : ∀ v R' l' es, P ds.length R' l' es → RD K D0 R' ((v, .list es) :: l') (Q v)) :
    RD K D0 R l (fun H => wIt K v H fun J H1 => LcK g tt te vs σ Q J H1) := fun N H A => by
  obtain ⟨a, xs, rfl, ha, hd0⟩ := (A.dt hv).tuple
  have hl : ∀ {i D R' l' es N' H'}, P i R' l' es → At K D0 (star (own K D es) R') l' N' H' → ∃ xs', SqT K H' a xs' ∧ DtAll K (off H' N') xs' ds := fun p A' => by
    obtain ⟨a', xs', e, h', d'⟩ := (A'.dt (hkeep _ _ _ _ p)).tuple
    cases e
    exact ⟨xs', same_sqT off_same h', d'⟩
  refine .inr (.inl ⟨a, rfl, ⟨xs, same_sqT off_same ha⟩, fun D hD => ⟨fun i m H => m = ds.length - i ∧ i ≤ ds.length ∧ ContC K D0 D (P i) H, ⟨_, rfl, Nat.zero_le _, R, l, [], _, h0, A.newOwn hD .nil⟩, ?_⟩⟩)
  rintro i m H' ⟨rfl, hi, R', l', es, N', p, A'⟩
  obtain ⟨xs', hq, d'⟩ := hl p A'
  by_cases hlt : i < ds.length
  · have hx : i < xs'.length := by rw [d'.len]; exact hlt
    refine .inr ⟨⟨xs', xs'[i], hq, by simp [hx]⟩, ContC K D0 D (P (i + 1)), fun H2 p => ⟨ds.length - (i + 1), by omega, rfl, hlt, p⟩, ?_⟩
    rintro x H2 ⟨rfl, hy⟩
    obtain ⟨d, e1, e2⟩ := d'.get (hy xs' hq)
    exact hs i d x D R' l' es e1 e2.dv p N' _ (A'.facts e2)
  · have e : i = ds.length := by omega
    subst e
    obtain ⟨N2, A2⟩ := A'.freeze
    exact .inl ⟨⟨xs', hq, by rw [d'.len]; exact Nat.le_refl _⟩, hd (.ref D) R' l' es p N2 H' A2⟩
/-- signs of a text, each kept or not: any test that draws alone -/
theorem d_pickG {p : Addr} {cs : List Nat} {i j : Nat} {tt : TT} (ht : ∀ (R2 : Res) (σ2 : L2.St) (l2 : List (V × PyData)) (Qb : Bool → Hp → Prop), σ2[j]? = some (some (.ref p)) → (∀ b, RD K D0 (star R2 (star (pen K p) R)) l2 (Qb b)) → RD K D0 (star R2 (star (pen K p) R)) l2 (fun H => tt σ2 H Qb))
    (hl : cs.length ≤ 1000) (hp : (wipe σ [i])[j]? = some (some (.ref p))) (hi : i ≠ j) (hi2 : i < σ.length) (kk : ∀ (v : V) (ds : List Nat), ds.Sublist cs → RD K D0 (star (pen K p) R) ((v, .list (ds.map fun c => .str (S [c]))) :: l) (Q v)) :
    RD K D0 (star (pen K p) R) l (fun H => wIt K (.str (S cs)) H fun J H1 => LcK (gName i) tt (tVar i) [i] σ Q J H1) := by
  have hw' : ∀ v : V, wipe ((wipe σ [i]).set i (some v)) [i] = wipe σ [i] := fun v => by
    show ((σ.set i none).set i (some v)).set i none = σ.set i none
    rw [List.set_set, List.set_set]
  have h1 : ∀ v : V, ((wipe σ [i]).set i (some v))[j]? = some (some (.ref p)) := fun v => by
    rw [List.getElem?_set_ne hi]; exact hp
  have h2 : ∀ v : V, ((wipe σ [i]).set i (some v))[i]? = some (some v) := fun v => by
    rw [List.getElem?_set_self]
    rw [wipe_length]; exact hi2
  refine d_lcStr (fun n R' l' es => R' = star (pen K p) R ∧ l' = l ∧ ∃ ds : List Nat, es = ds.map (fun c => PyData.str (S [c])) ∧ ds.Sublist (cs.take n)) ?_ ?_ ?_
  · exact ⟨rfl, rfl, [], rfl, List.nil_sublist _⟩
  · rintro n c D R' l' es hc ⟨rfl, rfl, ds, rfl, hs⟩
    rw [S_tl] at hc
    have hdl : ds.length ≤ 1000 := Nat.le_trans hs.length_le (by rw [List.length_take]; omega)
    refine d_name rfl ?_
    refine d_wipe (hw' _) ?_
    refine ht _ _ _ _ (h1 _) fun b => ?_
    refine d_ite (fun _ => ?_) (fun _ => ?_)
    · refine d_var (h2 _) ?_
      refine d_item (l' := l') (d := .str (S [c])) (.str _) ?_ ?_ (by walk_at "sub")
      · rw [List.length_map]; exact Nat.lt_of_lt_of_le (by omega) line_big
      · refine ⟨rfl, rfl, ds ++ [c], by rw [List.map_append]; rfl, ?_⟩
        rw [List.take_succ, hc]
        exact hs.append (List.Sublist.refl _)
    · refine d_noItem (l' := l') ?_ (by walk_at "sub")
      refine ⟨rfl, rfl, ds, rfl, hs.trans ?_⟩
      rw [List.take_succ]
      exact List.sublist_append_left _ _
  · rintro v R' l' es ⟨rfl, rfl, ds, rfl, hs⟩
    rw [S_tl, List.take_length] at hs
    exact kk v ds hs
theorem d_positions {log pat : List Nat} {E : XK} (h1 : log.length ≤ 1000000) (h2 : pat.length ≤ 1000000) (k1 : ¬ pat.Sublist log → RD K D0 R l (Q .non))
    (k2 : ∀ (v : V) (ps : List Nat) (i : Nat), (∃ a, v = .ref a) → Gr log pat ps i → pat.Sublist log → RD K D0 R ((v, .tuple (ps.map fun (k : Nat) => .int k)) :: l) (Q v)) : RD K D0 R l (fun H => sp_positions K [.str (S log), .str (S pat)] H Q E) := by
  refine d_pure [.str (S log), .str (S pat)] (.cons (.str _) (.cons (.str _) .nil)) rfl ⟨log, pat, rfl, h1, h2⟩ fun v d hd hv => ?_
  obtain ⟨log', pat', e, h⟩ := hd
  cases e
  rcases h with ⟨rfl, hn⟩ | ⟨ps, i, rfl, hg, hs⟩
  · cases hv
    exact RD.forget (k1 hn)
  · exact k2 v ps i hv hg hs
theorem cutS_mid {cs : List Nat} {a b : Nat} : cutS (S cs) (some (a : Int)) (some (b : Int)) = S ((cs.drop a).take (b - a)) := by
  unfold cutS
  rw [HT.sIx_nat, HT.sIx_nat, S_tl, S_len]
  have e : (cs.drop (min a cs.length)).take (min b cs.length - min a cs.length) = (cs.drop a).take (b - a) := by
    by_cases ha : a ≤ cs.length
    · rw [Nat.min_eq_left ha]
      by_cases hb : b ≤ cs.length
      · rw [Nat.min_eq_left hb]
      · rw [Nat.min_eq_right (by omega), List.take_of_length_le (by rw [List.length_drop]; omega), List.take_of_length_le (by rw [List.length_drop]; omega)]
    · have h1 : min a cs.length = cs.length := Nat.min_eq_right (by omega)
      rw [h1, List.drop_of_length_le (Nat.le_refl _), List.drop_of_length_le (show cs.length ≤ a by omega)]
      simp
  rw [e]
theorem d_midS {cs : List Nat} {a b : Nat} (h : cs.length ≤ 1000000) (k : RD K D0 R l (Q (.str (S ((cs.drop a).take (b - a)))))) : RD K D0 R l (fun H => gSl K (.str (S cs)) (some (a : Int)) (some (b : Int)) H Q) :=
  d_slS (by rw [S_len]; exact Nat.le_trans (Nat.le_trans h (by decide)) line_big) (by rw [cutS_mid]; exact k)
theorem d_atS {cs : List Nat} {i : Int} {c : Nat} (h : cs.length ≤ 1000000) (hi : atI cs i = some c) (k : RD K D0 R l (Q (.str (S [c])))) : RD K D0 R l (fun H => rIx K (.str (S cs)) (.int i) H Q) :=
  d_ixS (by rw [S_len]; exact Nat.le_trans (Nat.le_trans h (by decide)) line_big) (by rw [S_tl]; exact hi) k
theorem depth_signs (cs : List Nat) : (PyData.list (cs.map fun c => PyData.str (S [c]))).depth ≤ 60 := by
  have h : PyData.depthAll (cs.map fun c => PyData.str (S [c])) = 0 := by
    induction cs with
    | nil => simp only [List.map_nil, PyData.depthAll]
    | cons c cs ih => simp only [List.map_cons, PyData.depthAll, PyData.depth, ih]; rfl
  simp only [PyData.depth, h]
  omega
theorem eqv_signs (cs : List Nat) : PyData.eqvAll (cs.map fun c => PyData.str (S [c])) (cs.map fun c => PyData.str (S [c])) = true := by
  induction cs with
  | nil => simp only [List.map_nil, PyData.eqvAll]
  | cons c cs ih => simp only [List.map_cons, PyData.eqvAll, PyData.eqv, ih, beq_self_eq_true, Bool.and_self]
end
end GL

/-! G9: own exceptions over ValueError with a field: what the head tells of them, raise, except as, the field. -/
namespace GL
open PySem PySem.Spec L2
open PyProof.Rows hiding St
/-! ### more that the head tells -/
def hookX (n : Nat) (fa : List He.Fa) (fn : List He.DefD) (ex : PySem.W.Frag → Bool) : PySem.W.Hook where
  α := He.AlD × Bool
  obs := fun s => (He.obsDG n fa fn s.heap.get?, ex (He.frG s.heap.get? (He.asD s.heap.get? n)))
  val := fun _ => (He.valD fn, true)
  says := fun _ h => ∃ K : PySem.W.Frag, K.In h ∧ He.SaysD fa fn K ∧ ex K = true
  of := fun _ _ e => ⟨_, He.frG_in, congrArg Prod.fst e, congrArg Prod.snd e⟩
  keeps := fun _ _ _ ⟨K, hK, c⟩ k => ⟨K, PySem.W.Frag.In.keeps hK k, c⟩
def obsX (n : Nat) (fa : List He.Fa) (fn : List He.DefD) (ex : PySem.W.Frag → Bool) (g : Addr → Option Obj) : He.AlD × Bool := (He.obsDG n fa fn g, ex (He.frG g (He.asD g n)))
theorem obsX_eq {n : Nat} {fa : List He.Fa} {fn : List He.DefD} {ex : PySem.W.Frag → Bool} {g : Addr → Option Obj} {s : Shared} (h : ∀ a, g a = s.heap.get? a) : obsX n fa fn ex g = (hookX n fa fn ex).obs s := by
  have e : g = s.heap.get? := funext h
  rw [e]
  rfl
def clsVE (K : PySem.W.Frag) (C : Addr) : Bool := match K.lookup C with
  | some ⟨.type "type", _, .cls cd, sl⟩ => (match cd.mro, sl.toList with
    | .ref D :: bm, [_, _, _, _, some (.builtin n), _] => (D == C && n == "ValueError.__new__") && ((!cd.hasDel && cd.hasDict) && PySem.HandSPX.refsVE bm)
    | _, _ => false)
  | _ => false
theorem clsVE_ok {K : PySem.W.Frag} {C : Addr} (h : clsVE K C = true) :
    ∃ nm q N bs bm sn sub ab col dd k0 k1 k2 k3 k5, K.lookup C = some (excClassObj nm q C N bs bm true sn sub ab col dd k0 k1 k2 k3 k5 "ValueError.__new__") ∧ PySem.HandSPX.refsVE bm = true := by
  unfold clsVE at h
  split at h
  · rename_i dd cd sl ho
    split at h
    · rename_i D bm k0 k1 k2 k3 n k5 e1 e2
      obtain ⟨nm, bs, mro, ns, qn, hd, sn, sub, ab, col, del⟩ := cd
      obtain ⟨sl⟩ := sl
      dsimp only at e1 e2 h
      subst e1 e2
      simp only [Bool.and_eq_true, beq_iff_eq, Bool.not_eq_true'] at h
      obtain ⟨⟨rfl, rfl⟩, ⟨rfl, rfl⟩, hb⟩ := h
      exact ⟨nm, qn, ns, bs, bm, sn, sub, ab, col, dd, k0, k1, k2, k3, k5, ho, hb⟩
    · cases h
  · cases h
/-- the class x (at C), over ValueError, keeps its one argument in the field n -/
structure ExT (K : PySem.W.Frag) (C fI : Addr) (n : Str) : Prop where
  T : OexC K C
  X : XfC K C
  no : PySem.W.findIn K (.ref C) n = some none
  iC : PySem.W.findIn K (.ref C) "__init__" = some (some (.ref fI))
  tI : PySem.W.typeIn K (.ref fI) = some (.type "function")
  te : PySem.W.exmOne K (.ref C) (.ref C) = some true
def exT (x n : Str) (K : PySem.W.Frag) : Bool :=
  (clsVE K (He.ga K x) && (xfB K (He.ga K x) && PySem.W.keepIn K (.ref (He.ga K x)))) &&
  ((decide (PySem.W.findIn K (.ref (He.ga K x)) "__setattr__" = some (some (.builtin "object.__setattr__"))) && decide (PySem.W.typeIn K (.ref (He.ga K x)) = some (.type "type"))) &&
  ((decide (PySem.W.findIn K (.ref (He.ga K x)) n = some none) && decide (PySem.W.findIn K (.ref (He.ga K x)) "__init__" = some (some (.ref (He.ma K (He.ga K x) "__init__"))))) &&
  (decide (PySem.W.typeIn K (.ref (He.ma K (He.ga K x) "__init__")) = some (.type "function")) && decide (PySem.W.exmOne K (.ref (He.ga K x)) (.ref (He.ga K x)) = some true))))
theorem exT_ok {K : PySem.W.Frag} {x n : Str} (h : exT x n K = true) : ExT K (He.ga K x) (He.ma K (He.ga K x) "__init__") n := by
  unfold exT at h
  simp only [Bool.and_eq_true, decide_eq_true_eq] at h
  obtain ⟨⟨h1, h2, h3⟩, ⟨h4, h5⟩, ⟨h6, h7⟩, h8, h9⟩ := h
  have X := xfB_ok h2
  exact ⟨⟨clsVE_ok h1, h4, X.exC, h5, h3⟩, X, h6, h7, h8, h9⟩
/-! ### its __init__ -/
def spInit (C : Addr) (n : Str) : Sp := fun vs H Q _ => ∃ a y, vs = [.ref a, y] ∧ H a = some (exo a C none) ∧ ∀ dx, H dx = none → dx ≠ a → Q .non (upd (upd H dx (exd dx [(n, y)])) a (exo a C (some dx)))
section
variable {P : Program} {w : World} {K : PySem.W.Frag} {mg : Str → Option Value} {base : Heap} {f C fI : Addr} {fd : FuncData} {n : Str}
theorem pure_init {vs : List V} {H : Hp} {Q : VK} {E : XK} {s1 s2 : Str} (T : ExT K C fI n) (h : spInit C n vs H Q E) :
    tOst K n (tVar 0) (tVar 1) { nx := fun _ H' => Q .non H', rt := Q } (start [s1, s2] vs) H := by
  obtain ⟨a, y, rfl, ha, k⟩ := h
  exact ⟨y, rfl, .ref a, rfl, a, C, rfl, T.T, T.no, .inl ⟨ha, fun dx hd ne => k dx hd ne⟩⟩
theorem len_init {vs : List V} {H : Hp} {Q : VK} {E : XK} (h : spInit C n vs H Q E) : vs.length = 2 := by
  obtain ⟨_, _, rfl, _⟩ := h
  rfl
end
section
variable {X : Cx} {C fI : Addr} {n x : Str} {W : WX} {fdI : FuncData} {ps : List Str} {e : Expr} {ta : TA} {p pos pos2 : Pos} {k : Nat}
def tRz (C : Addr) (n : Str) (W : WX) (ta : TA) : TS := fun _ σ H => tMkO C (spInit C n) [] ta σ H fun cls d H' => W cls d σ H'
theorem g_raise (T : ExT X.K C fI n) (F1 : FnOk X.prog X.w X.K X.mg X.base CX0 k fI fdI ps (spInit C n)) (hr : Room (k + 1) X.A) (hb : Binds X.K fdI ps []) (hc : X.calm = true) (tk : Takes X W) (hg : Gl X x) (hm : X.mg x = some (.ref C)) (ha : PA X [e] ta)
    (hdb : (x == ("__debug__" : Str)) = false := by decide) (he : starEach [e] X.env = (false, eval e X.env) :: starEach [] X.env := by rfl) (hpl : (backTo pos (starEach [] X.env)).any (·.1) = false := by rfl) :
    PS X (.Raise (some (.Call (.Name x p) [e] [] pos)) none pos2) (tRz C n W ta) :=
  ps_raise hc tk (pmk_oex T.T T.iC T.tI F1 hr hb .nil pass0 hg hm ha hdb he hpl)
end
/-! ### derived -/
/-- at dx: an exception's own fields -/
def xdo (dx : Addr) (fs : List (Str × V)) : Res where
  h := fun N D H => (∀ b, N b ↔ b = dx) ∧ H dx = some (.xd fs)
  st := fun ⟨e, h⟩ _ k => ⟨e, (k dx ((e dx).2 rfl)).trans h⟩
section
variable {K : PySem.W.Frag} {D0 : Hp} {R : Res} {l : List (V × PyData)} {σ : L2.St} {D : Ends} {Q : VK}
theorem At.newX {N : Addr → Prop} {H : Hp} (A : At K D0 R l N H) {p : Addr} {fs : List (Str × V)} (hp : H p = none) : At K D0 (star (xdo p fs) R) l (fun b => b = p ∨ N b) (upd H p (.xd fs)) := by
  have away : ∀ b, N b → b ≠ p := fun b hb z => A.nn b hb (z ▸ hp)
  have sm : Same (off H N) (off (upd H p (.xd fs)) fun b => b = p ∨ N b) := fun b u h => by
    by_cases hb : N b
    · unfold off at h
      rw [if_pos hb] at h
      cases h
    · rw [off_ne hb] at h
      have nb : b ≠ p := ne_of_none h hp
      have nn : ¬ (b = p ∨ N b) := fun z => z.elim nb hb
      rw [off_ne nn, upd_ne nb]
      exact h
  have rest : R.h N (off (upd H p (.xd fs)) fun b => b = p ∨ N b) (upd H p (.xd fs)) := R.st A.r sm fun b hb => upd_ne (away b hb)
  refine ⟨?_, ⟨fun b => b = p, N, fun b => Iff.rfl, fun b x y => away b y x, ⟨fun b => Iff.rfl, upd_same⟩, rest⟩, A.d0.trans sm, fun q hq => (A.f q hq).mono sm⟩
  intro b hb
  by_cases z : b = p
  · rw [z]
    exact ⟨_, upd_same, fun _ z => by cases z⟩
  · rw [upd_ne z]
    exact A.nt b (hb.resolve_left z)
theorem At.xd {N : Addr → Prop} {H : Hp} {p : Addr} {fs : List (Str × V)} (A : At K D0 (star (xdo p fs) R) l N H) : H p = some (.xd fs) := by
  obtain ⟨_, _, _, _, ⟨_, h⟩, _⟩ := A.r
  exact h
/-- the exception is forgotten -/
theorem At.dropX {N : Addr → Prop} {H : Hp} {p : Addr} {fs : List (Str × V)} (A : At K D0 (star (xdo p fs) R) l N H) : ∃ N', At K D0 R l N' H := by
  obtain ⟨N1, N2, e, dj, ⟨e1, hx⟩, h2⟩ := A.r
  have sm : Same (off H N) (off H N2) := fun b u h => by
    by_cases hb : N b
    · unfold off at h
      rw [if_pos hb] at h
      cases h
    · rw [off_ne hb] at h
      rw [off_ne fun z => hb ((e b).2 (.inr z))]
      exact h
  exact ⟨N2, fun b hb => A.nt b ((e b).2 (.inr hb)), R.st h2 sm fun _ _ => rfl, A.d0.trans sm, fun q hq => (A.f q hq).mono sm⟩
theorem RD.dropX {p : Addr} {fs : List (Str × V)} {T : Hp → Prop} (k : RD K D0 R l T) : RD K D0 (star (xdo p fs) R) l T := fun N H A => by
  obtain ⟨N', A'⟩ := A.dropX
  exact k N' H A'
def kRz (C : Addr) (n : Str) (vs : List V) (H1 : Hp) (Q : XK) : Prop := vs.length ≤ 1000 ∧ ∀ a, H1 a = none → spInit C n (.ref a :: (vs ++ [])) (upd H1 a (exo a C none))
  (fun v H2 => v = .non ∧ ∃ (d : Addr) (fs : List (Str × V)), H2 a = some (exo a C (some d)) ∧ H2 d = some (exd d fs) ∧ H1 d = none ∧ Q (.ref C) (some d) (upd (del H2 a) d (.xd fs))) (fun _ _ _ => False)
theorem d_rz {C : Addr} {n : Str} {W : WX} {ta : TA} (k : RD K D0 R l (fun H => ta σ H fun vs H1 => kRz C n vs H1 fun cls d H' => W cls d σ H')) : RD K D0 R l (fun H => tRz C n W ta D σ H) := k
theorem d_kRz {C : Addr} {n : Str} {v : V} {Qx : XK} (k : ∀ d, RD K D0 (star (xdo d [(n, v)]) R) l (Qx (.ref C) (some d))) : RD K D0 R l (fun H => kRz C n [v] H Qx) := fun N H A => by
  refine ⟨Nat.le_of_lt (show 1 < 1000 by decide), fun a ha => ⟨a, v, rfl, upd_same, fun dx hd ne => ⟨rfl, dx, [(n, v)], upd_same, ?_, ?_, ?_⟩⟩⟩
  · rw [upd_ne ne, upd_same]
  · rw [upd_ne ne] at hd
    exact hd
  · have hd' : H dx = none := by rw [upd_ne ne] at hd; exact hd
    have e : upd (del (upd (upd (upd H a (exo a C none)) dx (exd dx [(n, v)])) a (exo a C (some dx))) a) dx (.xd [(n, v)]) = upd H dx (.xd [(n, v)]) := by
      funext b
      by_cases h1 : b = dx
      · rw [h1, upd_same, upd_same]
      · rw [upd_ne h1, upd_ne h1]
        by_cases h2 : b = a
        · rw [h2, del_same, ha]
        · rw [del_ne h2, upd_ne h2, upd_ne h1, upd_ne h2]
    rw [e]
    exact k dx _ _ (A.newX hd')
/-- e.n in the suite -/
theorem d_xf {a C dd : Addr} {n : Str} {v : V} {te : TE} (h : ∀ {N H}, At K D0 (star (xdo dd [(n, v)]) R) l N H → True) (k : RD K D0 (star (xdo dd [(n, v)]) R) l (Q v)) (hx : ∀ {Q' : VK}, RD K D0 (star (xdo dd [(n, v)]) R) l (Q' (.ref a)) → RD K D0 (star (xdo dd [(n, v)]) R) l (fun H => te σ H Q')) :
    RD K D0 (star (xdo dd [(n, v)]) R) l (fun H => tXf a (.ref C) (some dd) C n te σ H Q) :=
  hx (Q' := fun x H1 => x = .ref a ∧ Value.ref C = .ref C ∧ ∃ (d2 : Addr) (fs : List (Str × V)) (v : V), some dd = some d2 ∧ H1 d2 = some (.xd fs) ∧ fs.lookup n = some v ∧ Q v H1)
    fun N H A => ⟨rfl, rfl, dd, [(n, v)], v, rfl, A.xd, by simp [List.lookup], k N H A⟩
end
end GL

/-! G10: repr of data or of an empty dict; try in readings. -/
namespace GL
open PySem PySem.Spec L2
open PyProof.Rows hiding St
def gShow (K : PySem.W.Frag) : List V → Hp → VK → Prop := fun vs H Q => rRepr K vs H Q ∨ ∃ a, vs = [.ref a] ∧ H a = some (.dK []) ∧ Q (.str "{}") H
theorem call_show {X : Cx} (hg : NoG X.A) (hu : X.A.units + 64 < cLine) : CallR X (.builtin "repr") (gShow X.K) := by
  intro pins s σ H xs us Q I r h
  rcases h with h | ⟨a, rfl, ha, q⟩
  · exact call_repr hg hu pins s σ H xs us Q I r h
  obtain ⟨u, rfl, ru⟩ := vals1 r
  cases (show u = Value.ref a from ru)
  obtain ⟨_, hm, vs, kv, o, es, ep, e1, e2, e3, e4⟩ := (show ObjOk X.prog X.w H s.heap a (.dK []) from I.hok a _ ha)
  have ev : vs = [] := by cases kv; rfl
  subst ev
  have ee : es.toList = [] := by
    have z := e4.2.1
    generalize es.toList = es' at z ⊢
    cases es' with
    | nil => rfl
    | cons x r => cases z
  have rd : Reads s.heap (.ref a) (.dict []) [a] := .dict (kvs := []) (as := []) (bs := []) e1 e2.1 e3 (by rw [ee]; exact ReadsAll.nil) (by rw [ee]; exact ReadsAll.nil)
  have sh : (PyData.dict []).shown = "{}" := by decide +kernel
  have dz : (PyData.dict []).depth ≤ 60 := by decide +kernel
  refine repr_of_reads' rd (by decide +kernel) (fun _ z => ?_) hg (by omega) (fun _ _ z => z) (fun h' t tk k => ?_) (by rw [sh]; exact Nat.le_trans (by decide) line_big)
  · have z' : sysModules = a := by simpa using z
    rw [← z'] at hm
    simp at hm
  · rw [sh]
    exact ⟨.str "{}", H, I.kept (t' := tk) k, ⟨t, rfl⟩, q⟩
def tTry (K : PySem.W.Frag) (C : Addr) (i : Nat) (tb : WX → TS) (ts : Addr → Value → Option Addr → TS) (W : WX) : TS := fun D σ H => tb (wAs K (.ref C) i ts W D) D σ H
/-- at p: this object, and nothing else is said of it -/
def fxo (p : Addr) (o : HO) : Res where
  h := fun N D H => (∀ b, N b ↔ b = p) ∧ H p = some o
  st := fun ⟨e, h⟩ _ k => ⟨e, (k p ((e p).2 rfl)).trans h⟩
section
variable {K : PySem.W.Frag} {D0 : Hp} {R : Res} {l : List (V × PyData)} {σ : L2.St} {D : Ends} {Q : VK}
theorem d_try {C : Addr} {i : Nat} {tb : WX → TS} {ts : Addr → Value → Option Addr → TS} {W : WX} (k : RD K D0 R l (fun H => tb (wAs K (.ref C) i ts W D) D σ H)) : RD K D0 R l (fun H => tTry K C i tb ts W D σ H) := k
theorem d_caught {C d : Addr} {i : Nat} {ts : Addr → Value → Option Addr → TS} {W : WX} (te : PySem.W.exmOne K (.ref C) (.ref C) = some true)
    (k : ∀ a, RD K D0 R l (fun H => ts a (.ref C) (some d) { nx := fun σ' H' => D.nx (σ'.set i none) H', rt := D.rt, bk := fun σ' H' => D.bk (σ'.set i none) H', ct := fun σ' H' => D.ct (σ'.set i none) H' } (σ.set i (some (.ref a))) H)) :
    RD K D0 R l (fun H => wAs K (.ref C) i ts W D (.ref C) (some d) σ H) := fun N H A => ⟨true, te, fun _ a _ => k a N H A, fun z => by cases z⟩
def kXf (a : Addr) (cls : Value) (d : Option Addr) (C : Addr) (f : Str) (x : V) (H1 : Hp) (Q : VK) : Prop := x = .ref a ∧ cls = .ref C ∧ ∃ (dd : Addr) (fs : List (Str × V)) (v : V), d = some dd ∧ H1 dd = some (.xd fs) ∧ fs.lookup f = some v ∧ Q v H1
theorem d_tXf {a : Addr} {cls : Value} {d : Option Addr} {C : Addr} {f : Str} {te : TE} (k : RD K D0 R l (fun H => te σ H fun x H1 => kXf a cls d C f x H1 Q)) : RD K D0 R l (fun H => tXf a cls d C f te σ H Q) := k
theorem d_kXf {a C dd : Addr} {n : Str} {v : V} (k : RD K D0 (star (xdo dd [(n, v)]) R) l (Q v)) : RD K D0 (star (xdo dd [(n, v)]) R) l (fun H => kXf a (.ref C) (some dd) C n (.ref a) H Q) :=
  fun N H A => ⟨rfl, rfl, dd, [(n, v)], v, rfl, A.xd, by simp [List.lookup], k N H A⟩
theorem d_show {v : V} {z : Str} (h : ∀ (N : Addr → Prop) (H : Hp) (Q' : VK), At K D0 R l N H → Q' (.str z) H → gShow K [v] H Q') (k : RD K D0 R l (Q (.str z))) : RD K D0 R l (fun H => gShow K [v] H Q) := fun N H A => h N H Q A (k N H A)
theorem d_ty {v : V} {t n : String} {b : Bool} (h : ∀ (N : Addr → Prop) (H : Hp), At K D0 R l N H → TyX K H v (.type t)) (hk : PySem.W.kitOne K (.type t) (.type n) = some b) (k : RD K D0 R l (Q (.bl b))) : RD K D0 R l (fun H => rIsi K [v, .ty n] H Q) :=
  fun N H A => ⟨v, .ty n, .type t, .type n, b, rfl, .ty n, h N H A, hk, k N H A⟩
theorem At.newF {N : Addr → Prop} {H : Hp} (A : At K D0 R l N H) {p : Addr} {o : HO} (ho : NotTup o) (hp : H p = none) : At K D0 (star (fxo p o) R) l (fun b => b = p ∨ N b) (upd H p o) := by
  have away : ∀ b, N b → b ≠ p := fun b hb z => A.nn b hb (z ▸ hp)
  have sm : Same (off H N) (off (upd H p o) fun b => b = p ∨ N b) := fun b u h => by
    by_cases hb : N b
    · unfold off at h
      rw [if_pos hb] at h
      cases h
    · rw [off_ne hb] at h
      have nb : b ≠ p := ne_of_none h hp
      have nn : ¬ (b = p ∨ N b) := fun z => z.elim nb hb
      rw [off_ne nn, upd_ne nb]
      exact h
  have rest : R.h N (off (upd H p o) fun b => b = p ∨ N b) (upd H p o) := R.st A.r sm fun b hb => upd_ne (away b hb)
  refine ⟨?_, ⟨fun b => b = p, N, fun b => Iff.rfl, fun b x y => away b y x, ⟨fun b => Iff.rfl, upd_same⟩, rest⟩, A.d0.trans sm, fun q hq => (A.f q hq).mono sm⟩
  intro b hb
  by_cases z : b = p
  · rw [z]
    exact ⟨_, upd_same, ho⟩
  · rw [upd_ne z]
    exact A.nt b (hb.resolve_left z)
theorem At.fx {N : Addr → Prop} {H : Hp} {p : Addr} {o : HO} (A : At K D0 (star (fxo p o) R) l N H) : H p = some o := by
  obtain ⟨_, _, _, _, ⟨_, h⟩, _⟩ := A.r
  exact h
theorem At.second {N : Addr → Prop} {H : Hp} {P S : Res} (A : At K D0 (star P (star S R)) l N H) : ∃ N', S.h N' (off H N) H := by
  obtain ⟨_, _, _, _, _, _, N2, _, _, h, _⟩ := A.r
  exact ⟨_, h⟩
theorem At.third {N : Addr → Prop} {H : Hp} {P S U : Res} (A : At K D0 (star P (star S (star U R))) l N H) : ∃ N', U.h N' (off H N) H := by
  obtain ⟨_, _, _, _, _, _, _, _, _, _, _, N2, _, _, h, _⟩ := A.r
  exact ⟨_, h⟩
/-- {} -/
theorem d_dnewP {P : Res} (k : ∀ q, RD K D0 (star P (star (fxo q (.dK [])) R)) l (Q (.ref q))) : RD K D0 (star P R) l (fun H => tDNewK σ H Q) := fun N H A q hq => RD.rot (k q) _ _ (A.newF (fun _ z => by cases z) hq)
/-- a list that is only indexed -/
theorem d_newV {P : Res} {vs : List V} (hl : vs.length ≤ sizeLine) (k : ∀ a, RD K D0 (star P (star (fxo a (.lst vs)) R)) l (Q (.ref a))) : RD K D0 (star P R) l (fun H => kLst vs H Q) := fun N H A => ⟨hl, fun a ha => RD.rot (k a) _ _ (A.newF (fun _ z => by cases z) ha)⟩
theorem d_ixV {P : Res} {a : Addr} {vs : List V} {n : Int} {v : V} (hv : atI vs n = some v) (k : RD K D0 (star P (star (fxo a (.lst vs)) R)) l (Q v)) : RD K D0 (star P (star (fxo a (.lst vs)) R)) l (fun H => rIx K (.ref a) (.int n) H Q) := fun N H A => by
  obtain ⟨_, _, h⟩ := A.second
  exact .inl ⟨a, vs, n, v, rfl, rfl, SqL.of h, hv, k N H A⟩
end
end GL

/-! G11: own exceptions with one field over any plain built-in error. -/
namespace PySem
namespace GLX
open PySem.W PySem.Calls PyProof.Rows PySem.HandSPX
section
open Builtin Builtin.ObjectAttr
variable {prog : Program} {w : World} {A : Around} {E : Value → Shared → Prop} {R : Result → Shared → Prop} {hp : Heap} {g : Array GenState} {d : Drawn} {t : Nat} {os : OsState} {B : String} {bmB : List Value}
theorem tail_some {l : List Value} (SF : StoreFacts B bmB "object.__setattr__" "object") (e : excTail bmB l = true) : l.isEmpty = false := by
  cases l with
  | cons x r => rfl
  | nil =>
    have z : ([] : List Value) = bmB := beq_iff_eq.mp e
    have h := SF.hasOwner
    rw [← z] at h
    exact absurd h (by decide)
/-- the first field of a fresh exception -/
theorem first_store {K : W.Frag} {f : Str} {tk : Tok} {v : Value} {x C : Addr} {fv : Array Value} {cd : ClassData} (SF : StoreFacts B bmB "object.__setattr__" "object") (KI : K.In hp)
    (hx : hp.get? x = some { cls := .ref C, data := .fields fv }) (hcd : W.clsIn K C = some cd) (tl : excTail bmB cd.mro = true) (dct : cd.hasDict = true) (own : W.findIn K (.ref C) f = some none)
    (k : ∀ h2 tk2 dx, (∀ b o, b ≠ x → hp.get? b = some o → h2.get? b = some o) → hp.objs.size ≤ dx → dx ≠ x →
      h2.get? x = some { cls := .ref C, dict := some dx, data := .fields fv } → h2.Ns1 dx (fun y => if y = f then some v else none) → R (.ok (.ret .none)) ⟨h2, g, d, tk2, os⟩) :
    codeAny (model prog w) A (.call (.builtin "object.__setattr__") ⟨[.ref x, .str f tk, v], []⟩) R ⟨hp, g, d, t, os⟩ := by
  have at_ : W.InstAt hp x { cls := .ref C, data := .fields fv } C none :=
    ⟨hx, rfl, rfl, trivial⟩
  have obj : cd.mro.contains (.type "object") = true :=
    (excTail_contains "object" _ tl).trans SF.hasOwner
  have x_old : x ≠ hp.objs.size :=
    Nat.ne_of_lt (Heap.lt_size hx)
  have inM : W.mroIn K C (.type "object") = some true := by
    unfold W.mroIn
    rw [hcd, Option.bind_some, if_neg (by rw [tail_some SF tl]; decide), obj]
  have isO : W.Looks (model prog w) hp (isInstance (.ref x) (.type "object")) true :=
    at_.type.andThen (W.looks_mroIn KI inM)
  have OF := F.store_object
  apply codeAny_call_builtin OF.slot.plain OF.entry
  apply @W.check_slot (model prog w) _ _ ⟨hp, g, d, t, os⟩ "object.__setattr__" "object" "__setattr__" (.ref x) [.str f tk, v] [] _ OF.kind OF.split isO (OF.args (.ref x) (.str f tk) v)
  have mr : W.Looks (model prog w) hp (mroOf (.ref C)) cd.mro :=
    (W.looks_clsIn KI hcd).andThen .now
  have tk0 : W.Looks (model prog w) hp (storeTaker? none) none :=
    .now
  have cl : W.Looks (model prog w) hp (classData C) cd :=
    W.looks_clsIn KI hcd
  rw [W.osa_eq, refuse_eq]
  apply wpAny_bind
  apply wpAny_bind
  apply at_.type.at
  apply wpAny_bind
  apply mr.at
  rw [excTail_pass _ (SF.passes _) _ tl]
  apply wpAny_pure
  apply wpAny_bind
  apply at_.type.at
  apply wpAny_bind
  apply (W.looks_findIn KI own).at
  apply wpAny_bind
  apply tk0.at
  show wpAny _ _ (storeInOwnDict (.ref x) (.ref C) (.str f tk) f v false) _ _ _
  obtain ⟨c1, c2, c3, c4, c5, c6, c7, c8, c9, c10, c11⟩ := cd
  have dct : c6 = true := dct
  subst dct
  unfold storeInOwnDict
  unfold ownDictForStores
  repeat (first
    | with_reducible refine store_in_new ?_ ?_
    | with_reducible refine wpAny_loadPart_at hx ?_
    | with_reducible refine cl.at ?_
    | wp_step)
  · have here : ((hp.push { cls := .type "dict", data := .dict #[] }).get? hp.objs.size) = some { cls := .type "dict", data := .dict #[] } :=
      Heap.get?_push_at rfl rfl
    exact ⟨_, #[], _, (Heap.get?_update_ne _ _ _ _ x_old.symm).trans here, rfl, fun e he => absurd he (by simp), fun _ => rfl⟩
  · intro h2 tk2 nsx same
    have hx2 : (hp.push { cls := .type "dict", data := .dict #[] }).get? x = some { cls := .ref C, data := .fields fv } :=
      Heap.get?_push_of_some _ hx
    have upx := Heap.get?_update_self (fun o => { o with dict := some hp.objs.size }) hx2 rfl
    refine k h2 tk2 hp.objs.size (fun b o hb ho => ?_) (Nat.le_refl _) x_old.symm ?_ nsx
    · have old := Heap.get?_push_of_some { cls := .type "dict", data := .dict #[] } ho
      exact (same.2 b (Nat.ne_of_lt (Heap.lt_size ho))).trans ((Heap.get?_update_ne _ _ _ _ hb).trans old)
    · exact (same.2 x x_old).trans upx
end
end GLX
end PySem
namespace GL
open PySem PySem.Spec L2
open PyProof.Rows hiding St
/-- the class at C over the built-in error B (mro bmB), one field n kept by its own __init__ at fI -/
structure ExB (B newId : String) (bmB : List Value) (K : PySem.W.Frag) (C fI : Addr) (n : Str) : Prop where
  cls : ∃ nm q N bs bm sn sub ab col dd k0 k1 k2 k3 k5, K.lookup C = some (excClassObj nm q C N bs bm true sn sub ab col dd k0 k1 k2 k3 k5 newId) ∧ PySem.W.excTail bmB bm = true
  sa : PySem.W.findIn K (.ref C) "__setattr__" = some (some (.builtin "object.__setattr__"))
  tyC : PySem.W.typeIn K (.ref C) = some (.type "type")
  kC : PySem.W.keepIn K (.ref C) = true
  X : XfC K C
  no : PySem.W.findIn K (.ref C) n = some none
  iC : PySem.W.findIn K (.ref C) "__init__" = some (some (.ref fI))
  tI : PySem.W.typeIn K (.ref fI) = some (.type "function")
  te : PySem.W.exmOne K (.ref C) (.ref C) = some true
theorem ExB.data {B newId : String} {bmB : List Value} {K : PySem.W.Frag} {C fI : Addr} {n : Str} (T : ExB B newId bmB K C fI n) : ∃ cd, PySem.W.clsIn K C = some cd ∧ PySem.W.excTail bmB cd.mro = true ∧ cd.hasDict = true := by
  obtain ⟨nm, q, N, bs, bm, sn, sub, ab, col, dd, k0, k1, k2, k3, k5, e, tl⟩ := T.cls
  refine ⟨_, by unfold PySem.W.clsIn; rw [e], ?_, rfl⟩
  exact tl
section
variable {X : Cx} {pins : List (Addr × Obj)} {σ : L2.St} {H : Hp} {s : Shared} {a C fI : Addr} {n : Str} {B newId initId : String} {bmB : List Value}
theorem ostB {y : V} {u : Value} {Q : Unit → Shared → Prop} {E : Value → Shared → Prop} {A : Around} (SF : StoreFacts B bmB "object.__setattr__" "object") (T : ExB B newId bmB X.K C fI n) (I : Inv X pins σ H s) (ha : H a = some (exo a C none)) (ry : RelV y u)
    (k : ∀ dx s', H dx = none → dx ≠ a → Inv X pins σ (upd (upd H dx (exd dx [(n, y)])) a (exo a C (some dx))) s' → Q () s') : wpAny (model X.prog X.w) A (setAttr (.ref a) n u) Q E s := by
  obtain ⟨cd, hcd, tl, dct⟩ := T.data
  obtain ⟨t1, at_a⟩ := exo_at I.hok ha
  obtain ⟨hp, g, d, t, os⟩ := s
  apply PySem.W.set_plain I.kIn (ox := { cls := .ref C, dict := none, data := .fields #[.ref t1, .none, .none, .none, .bool false, .none] }) (od := none) ⟨at_a, rfl, rfl, trivial⟩ T.sa
  apply PySem.GLX.first_store SF I.kIn at_a hcd tl dct T.no
  intro h2 tk2 dx keep ge ne hx2 ns2
  have fr : H dx = none := I.hok.fresh ge
  have nx : ∀ {b : Addr} {o : Obj}, hp.get? b = some o → b ≠ dx :=
    fun q => Nat.ne_of_lt (Nat.lt_of_lt_of_le (Heap.lt_size q) ge)
  have off_a : ∀ {b : Addr}, H b = none → b ≠ a := fun z q => by
    subst q
    rw [ha] at z
    cases z
  have new_at : ∀ {b : Addr} {o : HO}, H b = some o → o ≠ exo a C none → upd (upd H dx (exd dx [(n, y)])) a (exo a C (some dx)) b = some o := fun {b o} q z => by
    have hb : b ≠ a := fun e => z (by subst e; exact Option.some.inj (q.symm.trans ha))
    rw [upd_ne hb, upd_ne (ne_of_none q fr)]
    exact q
  have U : Un X.fs [] H (upd (upd H dx (exd dx [(n, y)])) a (exo a C (some dx))) hp h2 := by
    constructor
    · intro b o q z _ _
      exact keep b o (off_a z) q
    · intro b o q z _ _
      exact ⟨o.slots, keep b o (off_a z) q⟩
    · intro b o q z _
      rw [upd_ne (off_a z), upd_ne (nx q)]
      exact z
    · intro b o q _
      by_cases hb : b = a
      · subst hb
        exact ⟨_, hx2⟩
      · exact ⟨o, keep b o hb q⟩
    · intro b xs q
      exact new_at q (Ne.symm exo_tup)
    · intro b o xs q
      exact new_at q (Ne.symm exo_frz)
    · intro b ps q
      exact ⟨#[], by simpa using new_at q (Ne.symm exo_tbl)⟩
  refine k dx _ fr ne (I.un (t' := tk2) U fun b o q => ?_)
  by_cases hb : b = a
  · subst hb
    rw [upd_same] at q
    cases q
    exact exo_ok hx2
  rw [upd_ne hb] at q
  by_cases hd : b = dx
  · subst hd
    rw [upd_same] at q
    cases q
    exact exd_ok ns2 (relO_put (fs := []) ry fun _ => trivial)
  rw [upd_ne hd] at q
  refine (I.hok b o q).stay (fun c v hc z => keep c v ?_ z) (fun c hc => new_at hc (Ne.symm exo_own)) fun c xs hc => new_at hc (Ne.symm exo_tup)
  rcases hc with rfl | hc
  · exact hb
  · exact fun e => by
      subst e
      exact exo_own (Option.some.inj (ha.symm.trans hc))
def tOstB (K : PySem.W.Frag) (C : Addr) (n : Str) (to te : TE) : TS := fun D σ H => te σ H fun y H1 => to σ H1 fun x H2 => ∃ a, x = .ref a ∧ H2 a = some (exo a C none) ∧
  ∀ dx, H2 dx = none → dx ≠ a → D.nx σ (upd (upd H2 dx (exd dx [(n, y)])) a (exo a C (some dx)))
theorem ps_ostB {o e : Expr} {to te : TE} {p' pos : Pos} (SF : StoreFacts B bmB "object.__setattr__" "object") (T : ExB B newId bmB X.K C fI n) (ho : PE X o to) (he : PE X e te) (hs : swapsWith e (some (.Attribute o n p')) pos.line X.env = pure false := by rfl) :
    PS X (.Assign [.Attribute o n p'] e pos) (tOstB X.K C n to te) := by
  constructor
  intro pins s σ H D I h
  refine plainObj_wpAny_Assign_Attribute (thn (he.run pins s σ H _ I h) ?_) hs
  rintro v s1 ⟨y, H1, I1, r1, q1⟩
  refine thn (ho.run pins s1 σ H1 _ I1 q1) ?_
  rintro u s2 ⟨x, H2, I2, r2, a, rfl, ha, q⟩
  obtain rfl : u = Value.ref a := r2
  exact ostB SF T I2 ha r1 fun dx s' hd ne J => ⟨σ, _, J, q dx hd ne⟩
/-- C(e, ..), C's own __init__ keeping sp -/
theorem pmkB {CX : CXT} {x : Str} {k : Nat} {fdI : FuncData} {ps : List Str} {sp : Sp} {e : Expr} {es : List Expr} {ta : TA} {p pos : Pos} (FB : ExcBaseFacts B newId initId bmB) (T : ExB B newId bmB X.K C fI n) (F1 : FnOk X.prog X.w X.K X.mg X.base CX k fI fdI ps sp)
    (hr : Room (k + 1) X.A) (hb : Binds X.K fdI ps []) (hx : Passes CX X (fun _ _ _ => False)) (hg : Gl X x) (hm : X.mg x = some (.ref C)) (ha : PA X (e :: es) ta)
    (hdb : (x == ("__debug__" : Str)) = false := by decide) (he : starEach (e :: es) X.env = (false, eval e X.env) :: starEach es X.env := by rfl) (hpl : (backTo pos (starEach es X.env)).any (·.1) = false := by rfl) :
    PMk X (.Call (.Name x p) (e :: es) [] pos) (tMkO C sp [] ta) := by
  intro pins s σ H Q I h
  obtain ⟨nm, q, N, bs, bm, sn, sub, ab, col, dd, k0, k1, k2, k3, k5, hC, tl⟩ := T.cls
  apply wpAny_Call_Name_kw
  apply ld_glob I hg hm _ hdb
  apply PySem.W.callWith_K (h₀ := X.base) I.ok.mod.kin T.kC _ he hpl
  apply thn (ha.run pos pins s σ H _ I h)
  rintro us s1 ⟨vs, H1, I1, r1, hz, q1⟩
  refine ⟨I1.kIn, ?_⟩
  obtain ⟨hp, g, dr, tk, os⟩ := s1
  have up : hp.objs.size ≤ hp.objs.size + 1 := Nat.le_succ _
  have fr : H1 (hp.objs.size + 1) = none := I1.hok.fresh up
  have made : ∀ b o, hp.get? b = some o → ((hp.push (PySem.W.kdv_tup us)).push (PySem.HandSPX.excO C hp.objs.size)).get? b = some o :=
    fun b o e => Heap.get?_push_of_some _ (Heap.get?_push_of_some _ e)
  have there : ((hp.push (PySem.W.kdv_tup us)).push (PySem.HandSPX.excO C hp.objs.size)).get? (hp.objs.size + 1) = some (PySem.HandSPX.excO C hp.objs.size) := by
    heap_get
  have J : Inv X pins σ (upd H1 (hp.objs.size + 1) (exo (hp.objs.size + 1) C none)) ⟨(hp.push (PySem.W.kdv_tup us)).push (PySem.HandSPX.excO C hp.objs.size), g, dr, tk, os⟩ :=
    I1.laid (t' := tk) made up (exo_ok there)
  have sp1 := q1 (hp.objs.size + 1) fr
  rw [List.append_nil] at sp1
  have rv : Vals (V.ref (hp.objs.size + 1) :: vs) (Value.ref (hp.objs.size + 1) :: us) := .cons rfl r1
  have hlen : (Value.ref (hp.objs.size + 1) :: us).length = ps.length := rv.length.symm.trans (F1.len _ _ _ _ sp1)
  have hus : us.length ≤ sizeLine := by
    rw [← r1.length, sizeLine_eq]
    omega
  have bnd := hb ⟨(hp.push (PySem.W.kdv_tup us)).push (PySem.HandSPX.excO C hp.objs.size), g, dr, tk, os⟩ (Value.ref (hp.objs.size + 1) :: us) J.kIn (by rw [List.append_nil]; exact hlen)
  rw [List.append_nil] at bnd
  apply wpAny_call
  apply PySem.HandSPX.call_own FB (fun Y => PySem.W.excTail_contains Y bm tl) (I1.kIn _ _ hC) (PySem.W.looks_findIn I1.kIn T.iC) (fun self => PySem.W.bind_fn I1.kIn self T.tI) hus
  apply codeAny_mono (F1.run _ X.stack _ _ ⟨Value.ref (hp.objs.size + 1) :: us, []⟩ _ _ _ (fun _ _ _ => False) (hr.make C us []) (J.env0.make C us []) bnd rv sp1)
  intro r s' h'
  cases r with
  | error er => exact hx pins σ _ _ er s' J h'
  | ok fl => cases fl with
    | next => exact h'.elim
    | brk => exact h'.elim
    | cont => exact h'.elim
    | ret u =>
      obtain ⟨v, H2, e1, e2, un, hok, r3, rfl, d2, fs, ea, ed, hd, q2⟩ := h'
      obtain ⟨h2, g2, dr2, t2, os2⟩ := s'
      exact ⟨r3, mk_end (raises_own T.X.exC T.tyC) I1 up made un hok e1 e2 ea ed hd q2⟩
/-- raise C(e) -/
theorem g_raiseB {W : WX} {x : Str} {k : Nat} {fdI : FuncData} {ps : List Str} {e : Expr} {ta : TA} {p pos pos2 : Pos} (FB : ExcBaseFacts B newId initId bmB) (T : ExB B newId bmB X.K C fI n) (F1 : FnOk X.prog X.w X.K X.mg X.base CX0 k fI fdI ps (spInit C n))
    (hr : Room (k + 1) X.A) (hb : Binds X.K fdI ps []) (hc : X.calm = true) (tk : Takes X W) (hg : Gl X x) (hm : X.mg x = some (.ref C)) (ha : PA X [e] ta)
    (hdb : (x == ("__debug__" : Str)) = false := by decide) (he : starEach [e] X.env = (false, eval e X.env) :: starEach [] X.env := by rfl) (hpl : (backTo pos (starEach [] X.env)).any (·.1) = false := by rfl) :
    PS X (.Raise (some (.Call (.Name x p) [e] [] pos)) none pos2) (tRz C n W ta) :=
  ps_raise hc tk (pmkB FB T F1 hr hb pass0 hg hm ha hdb he hpl)
theorem pure_initB {K : PySem.W.Frag} {vs : List V} {H : Hp} {Q : VK} {E : XK} {s1 s2 : Str} (h : spInit C n vs H Q E) :
    tOstB K C n (tVar 0) (tVar 1) { nx := fun _ H' => Q .non H', rt := Q } (start [s1, s2] vs) H := by
  obtain ⟨a, y, rfl, ha, k⟩ := h
  exact ⟨y, rfl, .ref a, rfl, a, rfl, ha, k⟩
end
end GL
namespace GL
open PySem PySem.Spec L2
open PyProof.Rows hiding St
def clsB (newId : String) (bmB : List Value) (K : PySem.W.Frag) (C : Addr) : Bool := match K.lookup C with
  | some ⟨.type "type", _, .cls cd, sl⟩ => (match cd.mro, sl.toList with
    | .ref D :: bm, [_, _, _, _, some (.builtin n), _] => (D == C && n == newId) && ((!cd.hasDel && cd.hasDict) && PySem.W.excTail bmB bm)
    | _, _ => false)
  | _ => false
theorem clsB_ok {newId : String} {bmB : List Value} {K : PySem.W.Frag} {C : Addr} (h : clsB newId bmB K C = true) :
    ∃ nm q N bs bm sn sub ab col dd k0 k1 k2 k3 k5, K.lookup C = some (excClassObj nm q C N bs bm true sn sub ab col dd k0 k1 k2 k3 k5 newId) ∧ PySem.W.excTail bmB bm = true := by
  unfold clsB at h
  split at h
  · rename_i dd cd sl ho
    split at h
    · rename_i D bm k0 k1 k2 k3 n k5 e1 e2
      obtain ⟨nm, bs, mro, ns, qn, hd, sn, sub, ab, col, del⟩ := cd
      obtain ⟨sl⟩ := sl
      dsimp only at e1 e2 h
      subst e1 e2
      simp only [Bool.and_eq_true, beq_iff_eq, Bool.not_eq_true'] at h
      obtain ⟨⟨rfl, rfl⟩, ⟨rfl, rfl⟩, hb⟩ := h
      exact ⟨nm, qn, ns, bs, bm, sn, sub, ab, col, dd, k0, k1, k2, k3, k5, ho, hb⟩
    · cases h
  · cases h
def exB (newId : String) (bmB : List Value) (x n : Str) (K : PySem.W.Frag) : Bool :=
  (clsB newId bmB K (He.ga K x) && (xfB K (He.ga K x) && PySem.W.keepIn K (.ref (He.ga K x)))) &&
  ((decide (PySem.W.findIn K (.ref (He.ga K x)) "__setattr__" = some (some (.builtin "object.__setattr__"))) && decide (PySem.W.typeIn K (.ref (He.ga K x)) = some (.type "type"))) &&
  ((decide (PySem.W.findIn K (.ref (He.ga K x)) n = some none) && decide (PySem.W.findIn K (.ref (He.ga K x)) "__init__" = some (some (.ref (He.ma K (He.ga K x) "__init__"))))) &&
  (decide (PySem.W.typeIn K (.ref (He.ma K (He.ga K x) "__init__")) = some (.type "function")) && decide (PySem.W.exmOne K (.ref (He.ga K x)) (.ref (He.ga K x)) = some true))))
theorem exB_ok {B newId : String} {bmB : List Value} {K : PySem.W.Frag} {x n : Str} (h : exB newId bmB x n K = true) : ExB B newId bmB K (He.ga K x) (He.ma K (He.ga K x) "__init__") n := by
  unfold exB at h
  simp only [Bool.and_eq_true, decide_eq_true_eq] at h
  obtain ⟨⟨h1, h2, h3⟩, ⟨h4, h5⟩, ⟨h6, h7⟩, h8, h9⟩ := h
  exact ⟨clsB_ok h1, h4, h5, h3, xfB_ok h2, h6, h7, h8, h9⟩
abbrev bmLE : List Value := [.type "LookupError", .type "Exception", .type "BaseException", .type "object"]
abbrev bmRE : List Value := [.type "RuntimeError", .type "Exception", .type "BaseException", .type "object"]
abbrev bmOE : List Value := [.type "OverflowError", .type "ArithmeticError", .type "Exception", .type "BaseException", .type "object"]
end GL

/-! G13: try with several clauses, each with or without a name. -/
namespace GL
open PySem PySem.Spec L2
open PyProof.Rows hiding St
/-- the suite's ends, the name's slot emptied behind it -/
def endsOf : Option Nat → Ends → Ends
  | none, D => D
  | some i, D => { nx := fun σ' H' => D.nx (σ'.set i none) H', rt := D.rt, bk := fun σ' H' => D.bk (σ'.set i none) H', ct := fun σ' H' => D.ct (σ'.set i none) H' }
def slotOf (a : Addr) : Option Nat → L2.St → L2.St
  | none, σ => σ
  | some i, σ => σ.set i (some (.ref a))
abbrev Cl : Type := Value × Option Nat × (Addr → Value → Option Addr → TS)
def wMix (K : PySem.W.Frag) (Wout : WX) (D : Ends) : List Cl → WX
  | [] => Wout
  | (c, o, ts) :: r => fun cls d σ H => ∃ b, PySem.W.exmOne K cls c = some b ∧
      (b = true → ∀ a, H a = none → ts a cls d (endsOf o D) (slotOf a o σ) H) ∧
      (b = false → wMix K Wout D r cls d σ H)
inductive ClsOk (X : Cx) : List ExceptHandler → List Cl → Prop
  | nil : ClsOk X [] []
  | plain {x : Str} {c : Value} {ts : Addr → Value → Option Addr → TS} {b0 : Stmt} {su : List Stmt} {np ps : Pos} {hs : List ExceptHandler} {l : List Cl} (hc : Names X x c)
      (run : ∀ (e : Addr) (ob : Obj) (cls : Value) (d : Option Addr) (pn : List (Addr × Obj)), Zc cls d ob → (∃ vs, ob.data = .fields vs) → PSs (X.suite e ((e, ob) :: pn)) (b0 :: su) (ts e cls d))
      (rest : ClsOk X hs l) : ClsOk X (.ExceptHandler (some (.Name x np)) none (b0 :: su) ps :: hs) ((c, none, ts) :: l)
  | named {x n : Str} {i : Nat} {c : Value} {ts : Addr → Value → Option Addr → TS} {b0 : Stmt} {su : List Stmt} {np ps : Pos} {hs : List ExceptHandler} {l : List Cl} (hN : X.N.Nodup) (hi : X.N[i]? = some n) (hl : X.env.kindOf n = some .local) (hc : Names X x c)
      (run : ∀ (e : Addr) (ob : Obj) (cls : Value) (d : Option Addr) (pn : List (Addr × Obj)), Zc cls d ob → (∃ vs, ob.data = .fields vs) → PSs (X.suite e ((e, ob) :: pn)) (b0 :: su) (ts e cls d))
      (rest : ClsOk X hs l) : ClsOk X (.ExceptHandler (some (.Name x np)) (some n) (b0 :: su) ps :: hs) ((c, some i, ts) :: l)
section
variable {X : Cx} {body : List Stmt} {h0 : ExceptHandler} {hs : List ExceptHandler} {l : List Cl} {pos : Pos} {tb : WX → TS} {Wout : WX}
theorem ps_mix (st : X.stack = X.env :: X.outer) (fr : X.env.frame = some X.env.locals) (tk : Takes X Wout)
    (hb : ∀ (W : WX) (pn : List (Addr × Obj)) (xe : Value → Shared → Prop), Takes (X.tr pn xe) W → PassesOwn (model X.prog X.w) X.A X.env xe → PSs (X.tr pn xe) body (tb W)) (cl : ClsOk X (h0 :: hs) l) :
    PS X (.Try body (h0 :: hs) [] [] pos) (fun D σ H => tb (wMix X.K Wout D l) D σ H) := by
  constructor
  intro pins s σ H D I h
  have lim := I.ok
  have frames : X.A.frames = some (X.env :: X.outer) := by
    rw [lim.frames, st]
  apply wpAny_Try_except
  have B1 := hb (wMix X.K Wout D l) (X.pn ++ pins)
    (fun e s1 => wpAny (model X.prog X.w) X.A (noteFrame e X.env) (fun _ s2 => wpAny (model X.prog X.w) X.A (setFlight e none)
      (fun _ s3 => wpAny (model X.prog X.w) X.A (handleBy e X.env (h0 :: hs)) (SP X pins D) X.xe s3) X.xe s2) X.xe s1)
  refine wpAny_mono ((B1 (fun u s' air => ?_) PassesOwn.looking).run [] s σ H D (I.toTry _) h) (fun f s1 sp => ?_) fun _ _ z => z
  · obtain ⟨e, B, sI, pins2, σ2, H2, cls, d, rfl, J0, nb, up, sky, new, os, bare, w⟩ := air
    have J : Inv X pins σ2 H2 sI := J0.ofTry lim
    rw [show X.stack = X.env :: X.outer from st] at sky
    show wpAny (model X.prog X.w) X.A (noteFrame (.ref e) X.env) _ _ _
    apply Sky.land Zc.steady frames fr sky
    intro g3 fly up3
    have J3 : Inv X pins σ2 H2 { s' with heap := g3 } :=
      J.landed nb fly.1 (up.trans up3) os bare
    obtain ⟨ob, vs, at3, z3, dt3⟩ := fly.there
    have out : e ∉ frs (X.env :: X.outer) := fun hm => by
      obtain ⟨_, ob', at', nf⟩ := fly.2.2.1.mem hm
      rw [at3] at at'
      cases at'
      exact nf _ dt3
    have notL : e ≠ X.env.locals := fun z =>
      out (List.mem_filterMap.2 ⟨X.env, List.mem_cons_self, by rw [fr, z]⟩)
    have notF : e ∉ X.fs := fun hm => by
      obtain ⟨x, hx, q⟩ := List.mem_filterMap.1 hm
      exact out (List.mem_filterMap.2 ⟨x, List.mem_cons_of_mem _ hx, q⟩)
    have S3 := J3.suite at3 dt3 new notL notF
    have looks : PySem.W.Looks (model X.prog X.w) g3 (typeOf (.ref e)) cls := fun A Q E s k q =>
      wpAny_typeOf_ref (k _ _ at3) (by rw [z3.1]; exact q)
    have ask : ∀ {x : Str} {c : Value} {np : Pos} {Q : Value → Shared → Prop} {E : Value → Shared → Prop}, Names X x c → Q c { s' with heap := g3 } →
        wpAny (model X.prog X.w) (X.A.mark (some (.ref e))) (eval (.Name x np) X.env) Q E { s' with heap := g3 } := fun nm q => by
      obtain ⟨gl, db, m | ⟨m, v, nn⟩⟩ := nm
      · exact ld_glob (X := X.suite e ((e, ob) :: (X.pn ++ pins))) S3 gl m q db
      · exact ld_blt (X := X.suite e ((e, ob) :: (X.pn ++ pins))) S3 gl m v q nn db
    have walk : ∀ {hs' : List ExceptHandler} {l' : List Cl}, ClsOk X hs' l' → wMix X.K Wout D l' cls d σ2 H2 →
        wpAny (model X.prog X.w) X.A (handleBy (.ref e) X.env hs') (SP X pins D) X.xe { s' with heap := g3 } := by
      intro hs' l' ok
      induction ok with
      | nil =>
        intro w
        apply wpAny_handleBy_nil
        obtain ⟨_, _, _, ob2, vs2, T, oT, ts2, a1, _, a3, a4, _⟩ := id fly
        unfold PySem.passOn
        apply wpAny_bind
        apply wpAny_field a1 a3 a4
        have nn : ¬ ((Value.ref T == Value.none) = true) := by
          simp
        rw [if_neg nn]
        have last : wpAny (model X.prog X.w) X.A (setFlight (.ref e) X.env.frame) (fun _ s4 => wpAny (model X.prog X.w) X.A (throw (.ref e) : Sem Flow) (SP X pins D) X.xe s4) X.xe
            { s' with heap := g3 } := by
          rw [fr]
          apply HandSPX.setFlight_upZ fly
          intro g4 held up4
          apply wpAny_throw
          apply tk
          exact ⟨e, B, sI, pins, σ2, H2, cls, d, rfl, J, nb, (up.trans up3).trans up4, .inr (.inr (by rw [st]; exact held)), new, os, bare, w⟩
        first
          | exact wpAny_bind (wpAny_pure (wpAny_bind last))
          | exact wpAny_bind last
      | plain nm run rest ih =>
        rintro ⟨b, hb1, yes, no⟩
        have M := PySem.W.exm_one (M := model X.prog X.w) J3.kIn looks hb1
        refine wpAny_handleBy_cons (codeAny_handlers_test (ask nm (M.here ?_))) (by intro q; cases q)
        cases b with
        | false => exact ih (no rfl)
        | true =>
          apply codeAny_handlers_suite
          apply HandSPX.lands_againZ fly
          intro g4 fly4 up4
          have J4 : Inv X pins σ2 H2 { s' with heap := g4 } :=
            J.landed nb fly4.1 ((up.trans up3).trans up4) os bare
          obtain ⟨ob4, vs4, at4, z4, dt4⟩ := fly4.there
          have S4 := J4.suite at4 dt4 new notL notF
          refine wpAny_mono ((run e ob4 cls d (X.pn ++ pins) z4 ⟨_, dt4⟩).run [] _ _ H2 _ S4 (yes rfl e new)) (fun f s6 sp => ?_) (fun _ _ z => False.elim z)
          cases f with
          | ret u =>
            obtain ⟨v6, σ6, H6, S6, r6, q6⟩ := sp
            exact ⟨v6, σ6, H6, S6.unsuite lim, r6, q6⟩
          | next =>
            obtain ⟨σ6, H6, S6, q6⟩ := sp
            exact ⟨σ6, H6, S6.unsuite lim, q6⟩
          | brk =>
            obtain ⟨σ6, H6, S6, q6⟩ := sp
            exact ⟨σ6, H6, S6.unsuite lim, q6⟩
          | cont =>
            obtain ⟨σ6, H6, S6, q6⟩ := sp
            exact ⟨σ6, H6, S6.unsuite lim, q6⟩
      | @named x n i c ts b0 su np ps hs2 l2 hN hi hl nm run rest ih =>
        rintro ⟨b, hb1, yes, no⟩
        have M := PySem.W.exm_one (M := model X.prog X.w) J3.kIn looks hb1
        refine wpAny_handleBy_cons (codeAny_handlers_test (ask nm (M.here ?_))) (by intro q; cases q)
        cases b with
        | false => exact ih (no rfl)
        | true =>
          apply codeAny_handlers_suite_as
          apply HandSPX.lands_againZ fly
          intro g4 fly4 up4
          have J4 : Inv X pins σ2 H2 { s' with heap := g4 } :=
            J.landed nb fly4.1 ((up.trans up3).trans up4) os bare
          obtain ⟨ob4, vs4, at4, z4, dt4⟩ := fly4.there
          have S4 := J4.suite at4 dt4 new notL notF
          refine store_ok (X := X.suite e ((e, ob4) :: (X.pn ++ pins))) (v := .ref e) S4 hN hi (.inl hl) rfl (fun s5 S5 => ?_) (.inr hl)
          refine wpAny_mono ((run e ob4 cls d (X.pn ++ pins) z4 ⟨_, dt4⟩).run [] s5 _ H2 _ S5 (yes rfl e new)) (fun f s6 sp => ?_) (fun _ _ z => False.elim z)
          have tidy : ∀ {σ6 : L2.St} {H6 : Hp} {Q : Shared → Prop}, Inv (X.suite e ((e, ob4) :: (X.pn ++ pins))) [] σ6 H6 s6 → (∀ s7, Inv X pins (σ6.set i none) H6 s7 → Q s7) →
              wpAny (model X.prog X.w) X.A (do bindName X.env n .none; unbindBehindTheSuite X.env n ps) (fun _ s7 => Q s7) X.xe s6 :=
            fun S6 hq => gone_ok (S6.unsuite lim) hN hi hl hq
          cases f with
          | ret u =>
            obtain ⟨v6, σ6, H6, S6, r6, q6⟩ := sp
            exact tidy S6 fun s7 J7 => ⟨v6, _, H6, J7, r6, q6⟩
          | next =>
            obtain ⟨σ6, H6, S6, q6⟩ := sp
            exact tidy S6 fun s7 J7 => ⟨_, H6, J7, q6⟩
          | brk =>
            obtain ⟨σ6, H6, S6, q6⟩ := sp
            exact tidy S6 fun s7 J7 => ⟨_, H6, J7, q6⟩
          | cont =>
            obtain ⟨σ6, H6, S6, q6⟩ := sp
            exact tidy S6 fun s7 J7 => ⟨_, H6, J7, q6⟩
    exact walk cl w
  · cases f with
    | ret u =>
      obtain ⟨v, σ2, H2, J2, r, q⟩ := sp
      exact ⟨v, σ2, H2, J2.ofTry lim, r, q⟩
    | next =>
      obtain ⟨σ2, H2, J2, q⟩ := sp
      exact wpAny_execs_nil ⟨σ2, H2, J2.ofTry lim, q⟩
    | brk =>
      obtain ⟨σ2, H2, J2, q⟩ := sp
      exact ⟨σ2, H2, J2.ofTry lim, q⟩
    | cont =>
      obtain ⟨σ2, H2, J2, q⟩ := sp
      exact ⟨σ2, H2, J2.ofTry lim, q⟩
def tMix (K : PySem.W.Frag) (tb : WX → TS) (l : List Cl) (W : WX) : TS := fun D σ H => tb (wMix K W D l) D σ H
end
end GL

/-! G12: sorted of a list or a tuple's data, any length. -/
namespace GL
open PySem PySem.Spec L2
open PyProof.Rows hiding St
open PySem.W (EachIs AllAlike Sortable dataLe)
def byD : V × PyData → PyData := fun p => p.2
def gSorted (K : PySem.W.Frag) : List V → Hp → VK → Prop := fun vs H Q => ∃ (a : Addr) (ps : List (V × PyData)), vs = [.ref a] ∧ SqL K H a (ps.map (·.1)) ∧ (∀ p ∈ ps, Dp K H p.1 p.2) ∧ AllAlike (ps.map byD) ∧ Sortable (ps.map byD) ∧ (∀ p ∈ ps, p.2.depth ≤ 60) ∧
  ∀ q, H q = none → Q (.ref q) (upd H q (.lst ((ps.mergeSort (dataLe false byD)).map (·.1))))
theorem each_of : ∀ {ps : List (V × PyData)} {us : List Value}, Vals (ps.map (·.1)) us → EachIs (fun u (p : V × PyData) => RelV p.1 u) us ps
  | [], _, h => by
    cases h
    exact .nil
  | p :: ps, _, h => by
    cases h with
    | cons r t => exact .cons r (each_of t)
theorem vals_each : ∀ {ps : List (V × PyData)} {us : List Value}, EachIs (fun u (p : V × PyData) => RelV p.1 u) us ps → Vals (ps.map (·.1)) us
  | _, _, .nil => .nil
  | _, _, .cons r t => .cons r (vals_each t)
theorem each_in {α β : Type} {R S : α → β → Prop} : ∀ {us : List α} {ps : List β}, EachIs R us ps → (∀ u p, p ∈ ps → R u p → S u p) → EachIs S us ps
  | _, _, .nil, _ => .nil
  | _, _, .cons r t, h => .cons (h _ _ List.mem_cons_self r) (each_in t fun u p hp => h u p (List.mem_cons_of_mem _ hp))
theorem call_gsorted {X : Cx} (hu : X.A.units + 64 < cLine) : CallR X (.builtin "sorted") (gSorted X.K) := by
  intro pins s σ H xs us Q I r h
  obtain ⟨a, ps, rfl, hq, hd, al, so, dp, q⟩ := h
  obtain ⟨u, rfl, ru⟩ := vals1 r
  cases (show u = Value.ref a from ru)
  obtain ⟨its, rv, pl, hz⟩ := I.list hq
  have e := each_of rv
  have er := each_in (S := fun v p => ∃ as, Reads s.heap v (byD p) as) e fun u p hp r => Dp.reads I p.2 p.1 u (hd p hp) r
  have hlen : ps.length ≤ sizeLine := by simpa using hz
  refine PySem.W.sorted_data pl.isList e er al so hlen (fun p hp => ?_) fun out hl eo => ?_
  · have := dp p hp
    show X.A.units + 2 + p.2.depth < cLine
    omega
  obtain ⟨n, at_⟩ := sortedAll_at s.heap its out.toArray
  have ov := vals_each eo
  have ol : ((ps.mergeSort (dataLe false byD)).map (·.1)).length ≤ sizeLine := by
    rw [List.length_map, List.length_mergeSort]
    exact hlen
  have new : ObjOk X.prog X.w (upd H (s.heap.objs.size + 1) (.lst ((ps.mergeSort (dataLe false byD)).map (·.1)))) (PyProof.Rows.sortedAll s.heap its out.toArray) (s.heap.objs.size + 1) (.lst ((ps.mergeSort (dataLe false byD)).map (·.1))) :=
    ⟨ol, out, n, ov, at_⟩
  have J := I.laid (t' := s.toks) (fun b u => sortedAll_old) (Nat.le_succ _) new
  exact ⟨.ref _, _, J, rfl, q _ (I.hok.fresh (Nat.le_succ _))⟩
section
variable {K : PySem.W.Frag} {D0 : Hp} {R : Res} {l : List (V × PyData)} {σ : L2.St} {D : Ends} {Q : VK}
theorem dt_pairs {H : Hp} : ∀ {xs : List V} {ds : List PyData}, DtAll K H xs ds → ∃ ps : List (V × PyData), ps.map (·.1) = xs ∧ ps.map byD = ds ∧ ∀ p ∈ ps, Dt K H p.1 p.2
  | _, _, .nil => ⟨[], rfl, rfl, fun p hp => by cases hp⟩
  | _, _, .cons (v := v) (d := d) a b => by
    obtain ⟨ps, e1, e2, h⟩ := dt_pairs b
    refine ⟨(v, d) :: ps, by rw [List.map_cons, e1], by rw [List.map_cons, e2]; rfl, fun p hp => ?_⟩
    rcases List.mem_cons.1 hp with rfl | hp
    · exact a
    · exact h p hp
theorem pairs_dt {H : Hp} : ∀ {ps : List (V × PyData)}, (∀ p ∈ ps, Dt K H p.1 p.2) → DtAll K H (ps.map (·.1)) (ps.map byD)
  | [], _ => .nil
  | p :: ps, h => .cons (h p List.mem_cons_self) (pairs_dt fun q hq => h q (List.mem_cons_of_mem _ hq))
/-- sorted(xs) of a list -/
theorem d_sorted {x : V} {ds : List PyData} (hx : InL l x (.list ds)) (al : AllAlike ds) (so : Sortable ds) (dp : ∀ d ∈ ds, d.depth ≤ 60) (k : ∀ v, RD K D0 R ((v, .list (ds.mergeSort (dataLe false id))) :: l) (Q v)) : RD K D0 R l (fun H => gSorted K [x] H Q) := fun N H A => by
  obtain ⟨a, xs, rfl, ha, hd⟩ := (A.dt hx).list
  obtain ⟨ps, rfl, rfl, hp⟩ := dt_pairs hd
  refine ⟨a, ps, rfl, SqL.of (off_same a _ ha), fun p hm => ((hp p hm).mono off_same).dp, al, so, fun p hm => dp _ (List.mem_map.2 ⟨p, hm, rfl⟩), fun q hq => ?_⟩
  obtain ⟨A', e⟩ := A.new (.lst ((ps.mergeSort (dataLe false byD)).map (·.1))) hq
  have hp2 : ∀ p ∈ ps, Dt K (off (upd H q (.lst ((ps.mergeSort (dataLe false byD)).map (·.1)))) N) p.1 p.2 := fun p hm =>
    ((A.facts (hp p hm)).new (.lst ((ps.mergeSort (dataLe false byD)).map (·.1))) hq).1.dt (.mem List.mem_cons_self)
  have hs : DtAll K (off (upd H q (.lst ((ps.mergeSort (dataLe false byD)).map (·.1)))) N) ((ps.mergeSort (dataLe false byD)).map (·.1)) ((ps.mergeSort (dataLe false byD)).map byD) :=
    pairs_dt fun p hm => hp2 p ((List.mergeSort_perm _ _).mem_iff.1 hm)
  have em : (ps.mergeSort (dataLe false byD)).map byD = (ps.map byD).mergeSort (dataLe false id) := List.map_mergeSort fun _ _ _ _ => rfl
  rw [em] at hs
  exact k _ N _ (A'.facts (.lst e hs))
end
end GL

/-! G14: objects owned by name (instances, dicts), tuples that stand by name. -/
namespace GL
open PySem PySem.Spec L2
open PyProof.Rows hiding St
/-- these objects, each as it says, and no others, are owned -/
def objs (L : List (Addr × HO)) : Res where
  h := fun N D H => (∀ b, N b ↔ ∃ o, (b, o) ∈ L) ∧ ∀ p ∈ L, H p.1 = some p.2
  st := fun ⟨e, h⟩ _ k => ⟨e, fun p hp => (k p.1 ((e p.1).2 ⟨p.2, hp⟩)).trans (h p hp)⟩
def putO (L : List (Addr × HO)) (a : Addr) (o : HO) : List (Addr × HO) := L.map fun p => if p.1 = a then (a, o) else p
section
variable {K : PySem.W.Frag} {D0 D1 : Hp} {R : Res} {l : List (V × PyData)} {σ : L2.St} {D : Ends} {Q : VK} {L : List (Addr × HO)} {T : Hp → Prop}
theorem At.ob {N : Addr → Prop} {H : Hp} (A : At K D0 (star (objs L) R) l N H) {a : Addr} {o : HO} (hp : (a, o) ∈ L) : H a = some o := by
  obtain ⟨_, _, _, _, ⟨_, h⟩, _⟩ := A.r
  exact h _ hp
theorem off_grow {N N' : Addr → Prop} {H H' : Hp} (h : ∀ b, ¬ N b → H b ≠ none → ¬ N' b ∧ H' b = H b) : Same (off H N) (off H' N') := fun b u e => by
  by_cases hb : N b
  · unfold off at e
    rw [if_pos hb] at e
    cases e
  · rw [off_ne hb] at e
    obtain ⟨h1, h2⟩ := h b hb (by rw [e]; exact fun z => by cases z)
    rw [off_ne h1, h2]
    exact e
theorem At.newOb {N : Addr → Prop} {H : Hp} (A : At K D0 (star (objs L) R) l N H) {p : Addr} {o : HO} (ho : NotTup o) (hp : H p = none) : At K D0 (star (objs ((p, o) :: L)) R) l (fun b => b = p ∨ N b) (upd H p o) := by
  have away : ∀ b, N b → b ≠ p := fun b hb z => A.nn b hb (z ▸ hp)
  have sm : Same (off H N) (off (upd H p o) fun b => b = p ∨ N b) := off_grow fun b hb nb => by
    have z : b ≠ p := fun e => nb (e ▸ hp)
    exact ⟨fun q => q.elim z hb, upd_ne z⟩
  obtain ⟨N1, N2, e, dj, ⟨e1, h1⟩, h2⟩ := A.r
  refine ⟨?_, ⟨fun b => b = p ∨ N1 b, N2, ?_, ?_, ⟨?_, ?_⟩, R.st h2 sm fun b hb => upd_ne (away b ((e b).2 (.inr hb)))⟩, A.d0.trans sm, fun q hq => (A.f q hq).mono sm⟩
  · intro b hb
    by_cases z : b = p
    · rw [z]
      exact ⟨_, upd_same, ho⟩
    · rw [upd_ne z]
      exact A.nt b (hb.resolve_left z)
  · intro b
    show (b = p ∨ N b) ↔ (b = p ∨ N1 b) ∨ N2 b
    rw [e b, or_assoc]
  · rintro b (rfl | hb) h
    · exact away _ ((e _).2 (.inr h)) rfl
    · exact dj b hb h
  · intro b
    constructor
    · rintro (rfl | hb)
      · exact ⟨o, List.mem_cons_self⟩
      · obtain ⟨u, hu⟩ := (e1 b).1 hb
        exact ⟨u, List.mem_cons_of_mem _ hu⟩
    · rintro ⟨u, hu⟩
      rcases List.mem_cons.1 hu with z | hu
      · exact .inl (congrArg Prod.fst z)
      · exact .inr ((e1 b).2 ⟨u, hu⟩)
  · intro q hq
    rcases List.mem_cons.1 hq with rfl | hq
    · exact upd_same
    · rw [upd_ne (away _ ((e _).2 (.inl ((e1 _).2 ⟨q.2, hq⟩))))]
      exact h1 q hq
theorem At.setOb {N : Addr → Prop} {H : Hp} (A : At K D0 (star (objs L) R) l N H) {a : Addr} {o1 o : HO} (ho : NotTup o) (ha : (a, o1) ∈ L) : At K D0 (star (objs (putO L a o)) R) l N (upd H a o) := by
  obtain ⟨N1, N2, e, dj, ⟨e1, h1⟩, h2⟩ := A.r
  have n1 : N1 a := (e1 a).2 ⟨o1, ha⟩
  have na : N a := (e a).2 (.inl n1)
  have sm : Same (off H N) (off (upd H a o) N) := off_grow fun b hb _ => ⟨hb, upd_ne fun z => hb (z ▸ na)⟩
  refine ⟨?_, ⟨N1, N2, e, dj, ⟨?_, ?_⟩, R.st h2 sm fun b hb => upd_ne fun z => dj a n1 (z ▸ hb)⟩, A.d0.trans sm, fun q hq => (A.f q hq).mono sm⟩
  · intro b hb
    by_cases z : b = a
    · rw [z]
      exact ⟨_, upd_same, ho⟩
    · rw [upd_ne z]
      exact A.nt b hb
  · intro b
    rw [e1 b]
    unfold putO
    constructor
    · rintro ⟨u, hu⟩
      by_cases z : b = a
      · exact ⟨o, List.mem_map.2 ⟨(b, u), hu, by rw [if_pos z, z]⟩⟩
      · exact ⟨u, List.mem_map.2 ⟨(b, u), hu, by rw [if_neg z]⟩⟩
    · rintro ⟨u, hu⟩
      obtain ⟨q, hq, eq⟩ := List.mem_map.1 hu
      by_cases z : q.1 = a
      · rw [if_pos z] at eq
        have eb : a = b := congrArg Prod.fst eq
        exact ⟨q.2, by rw [← eb, ← z]; exact hq⟩
      · rw [if_neg z] at eq
        exact ⟨u, eq ▸ hq⟩
  · intro q hq
    unfold putO at hq
    obtain ⟨r, hr, rfl⟩ := List.mem_map.1 hq
    by_cases z : r.1 = a
    · rw [if_pos z]
      exact upd_same
    · rw [if_neg z, upd_ne z]
      exact h1 r hr
/-- what stands by name -/
theorem At.fixed {N : Addr → Prop} {H : Hp} (A : At K D0 R l N H) {b : Addr} {o : HO} (h : D0 b = some o) : H b = some o := off_same b o (A.d0 b o h)
theorem At.lessD {N : Addr → Prop} {H : Hp} (A : At K D1 R l N H) (h : Same D0 D1) : At K D0 R l N H := ⟨A.nt, A.r, h.trans A.d0, A.f⟩
theorem RD.moreD (h : Same D0 D1) (k : RD K D0 R l T) : RD K D1 R l T := fun N H A => k N H (A.lessD h)
theorem same_upd {q : Addr} {o : HO} (h : D0 q = none) : Same D0 (upd D0 q o) := fun b u e => by
  rw [upd_ne (ne_of_none e h)]
  exact e
/-- a new tuple, known by name too -/
theorem d_newTD {xs : List V} {ds : List PyData} (hl : xs.length ≤ sizeLine) (hx : InLs l xs ds) (k : ∀ q, D0 q = none → RD K (upd D0 q (.tup xs)) R ((.ref q, .tuple ds) :: l) (Q (.ref q))) : RD K D0 R l (fun H => kTup xs H Q) := fun N H A => by
  refine ⟨hl, fun q hq => ?_⟩
  have dq : D0 q = none := by
    cases e : D0 q with
    | none => rfl
    | some u => exact absurd (A.fixed e) (by rw [hq]; exact fun z => by cases z)
  obtain ⟨A', e⟩ := A.new (.tup xs) hq
  have A2 : At K (upd D0 q (.tup xs)) R l N (upd H q (.tup xs)) := ⟨A'.nt, A'.r, fun b u h => by
    by_cases z : b = q
    · subst z
      rw [upd_same] at h
      cases h
      exact e
    · rw [upd_ne z] at h
      exact A'.d0 b u h, A'.f⟩
  exact k q dq N _ (A2.facts (.tup (.inl (.inl e)) (A'.dts hx)))
/-! ### an instance's fields -/
def kFld (K : PySem.W.Frag) (f : Str) (x : V) (H1 : Hp) (Q : VK) : Prop := ∃ a C dx fs v, x = .ref a ∧ H1 a = some (.ins C dx fs) ∧ Cls K C ∧ NoAttr K C f ∧ fs.lookup f = some v ∧ Q v H1
theorem d_tFld {te : TE} {f : Str} (k : RD K D0 R l (fun H => te σ H fun x H1 => kFld K f x H1 Q)) : RD K D0 R l (fun H => tFld K te f σ H Q) := k
theorem d_fld {a C dx : Addr} {fs : List (Str × V)} {f : Str} {v : V} (ha : (a, .ins C dx fs) ∈ L) (c : Cls K C) (n : NoAttr K C f) (hf : fs.lookup f = some v) (k : RD K D0 (star (objs L) R) l (Q v)) : RD K D0 (star (objs L) R) l (fun H => kFld K f (.ref a) H Q) :=
  fun N H A => ⟨a, C, dx, fs, v, rfl, A.ob ha, c, n, hf, k N H A⟩
def kPutF (K : PySem.W.Frag) (f : Str) (y x : V) (H2 : Hp) (Qn : Hp → Prop) : Prop := ∃ a C dx fs, x = .ref a ∧ H2 a = some (.ins C dx fs) ∧ Cls K C ∧ NoAttr K C f ∧ fs.length < 1000 ∧ Qn (upd H2 a (.ins C dx (putF f y fs)))
theorem d_sFld {ta tv : TE} {f : Str} (k : RD K D0 R l (fun H => tv σ H fun y H1 => ta σ H1 fun x H2 => kPutF K f y x H2 fun H3 => D.nx σ H3)) : RD K D0 R l (fun H => sFld K ta tv f D σ H) := k
theorem d_putF {a C dx : Addr} {fs : List (Str × V)} {f : Str} {y : V} {Qn : Hp → Prop} (ha : (a, .ins C dx fs) ∈ L) (c : Cls K C) (n : NoAttr K C f) (hl : fs.length < 1000) (k : RD K D0 (star (objs (putO L a (.ins C dx (putF f y fs)))) R) l Qn) :
    RD K D0 (star (objs L) R) l (fun H => kPutF K f y (.ref a) H Qn) := fun N H A => ⟨a, C, dx, fs, rfl, A.ob ha, c, n, hl, k N _ (A.setOb (fun _ z => by cases z) ha)⟩
/-! ### dicts -/
theorem At.ob_ne {N : Addr → Prop} {H : Hp} (A : At K D0 (star (objs L) R) l N H) {q : Addr} (hq : H q = none) : ∀ p ∈ L, q ≠ p.1 := fun p hp z => by
  have h := A.ob (a := p.1) (o := p.2) hp
  rw [← z, hq] at h
  cases h
theorem d_dnewT (k : ∀ q, (∀ p ∈ L, q ≠ p.1) → RD K D0 (star (objs ((q, .dT []) :: L)) R) l (Q (.ref q))) : RD K D0 (star (objs L) R) l (fun H => tDNewT σ H Q) := fun N H A q hq => k q (A.ob_ne hq) _ _ (A.newOb (fun _ z => by cases z) hq)
theorem d_dnewK (k : ∀ q, (∀ p ∈ L, q ≠ p.1) → RD K D0 (star (objs ((q, .dK []) :: L)) R) l (Q (.ref q))) : RD K D0 (star (objs L) R) l (fun H => tDNewK σ H Q) := fun N H A q hq => k q (A.ob_ne hq) _ _ (A.newOb (fun _ z => by cases z) hq)
def kDIn (neg : Bool) (y x : V) (H : Hp) (Q : VK) : Prop := ∃ a o, x = .ref a ∧ DGet H a y o ∧ Q (.bl (if neg then !o.isSome else o.isSome)) H
theorem d_tDIn {ty td : TE} (k : RD K D0 R l (fun H => ty σ H fun y H1 => td σ H1 fun x H2 => kDIn false y x H2 Q)) : RD K D0 R l (fun H => tDIn ty td σ H Q) := k
theorem d_tDNotIn {ty td : TE} (k : RD K D0 R l (fun H => ty σ H fun y H1 => td σ H1 fun x H2 => kDIn true y x H2 Q)) : RD K D0 R l (fun H => tDNotIn ty td σ H Q) := k
theorem d_dinT {neg : Bool} {a b : Addr} {kvs : List (List Key × V)} {ks : List Key} (ha : (a, .dT kvs) ∈ L) (hb : D0 b = some (.tup (ks.map kV))) (k : RD K D0 (star (objs L) R) l (Q (.bl (if neg then !(valV kvs ks).isSome else (valV kvs ks).isSome)))) :
    RD K D0 (star (objs L) R) l (fun H => kDIn neg (.ref b) (.ref a) H Q) := fun N H A => ⟨a, valV kvs ks, rfl, .t (A.ob ha) (A.fixed hb), k N H A⟩
theorem d_dinK {neg : Bool} {a : Addr} {kvs : List (Key × V)} {key : Key} (ha : (a, .dK kvs) ∈ L) (k : RD K D0 (star (objs L) R) l (Q (.bl (if neg then !(valV kvs key).isSome else (valV kvs key).isSome)))) :
    RD K D0 (star (objs L) R) l (fun H => kDIn neg (kV key) (.ref a) H Q) := fun N H A => ⟨a, valV kvs key, rfl, .k (A.ob ha), k N H A⟩
def kDPut (v x y : V) (H : Hp) (Qn : Hp → Prop) : Prop := ∃ a H4, x = .ref a ∧ DPut H a y v H4 ∧ Qn H4
theorem d_sDPut {td ty tv : TE} (k : RD K D0 R l (fun H => tv σ H fun v H1 => td σ H1 fun x H2 => ty σ H2 fun y H3 => kDPut v x y H3 fun H4 => D.nx σ H4)) : RD K D0 R l (fun H => sDPut td ty tv D σ H) := k
theorem d_putT {a b : Addr} {kvs : List (List Key × V)} {ks : List Key} {v : V} {Qn : Hp → Prop} (ha : (a, .dT kvs) ∈ L) (hb : D0 b = some (.tup (ks.map kV))) (hl : kvs.length < sizeLine) (k : RD K D0 (star (objs (putO L a (.dT (putK kvs ks v)))) R) l Qn) :
    RD K D0 (star (objs L) R) l (fun H => kDPut v (.ref a) (.ref b) H Qn) := fun N H A => ⟨a, _, rfl, .t (A.ob ha) (A.fixed hb) hl, k N _ (A.setOb (fun _ z => by cases z) ha)⟩
theorem d_putK {a : Addr} {kvs : List (Key × V)} {key : Key} {v : V} {Qn : Hp → Prop} (ha : (a, .dK kvs) ∈ L) (hl : kvs.length < sizeLine) (k : RD K D0 (star (objs (putO L a (.dK (putK kvs key v)))) R) l Qn) :
    RD K D0 (star (objs L) R) l (fun H => kDPut v (.ref a) (kV key) H Qn) := fun N H A => ⟨a, _, rfl, .k (A.ob ha) hl, k N _ (A.setOb (fun _ z => by cases z) ha)⟩
theorem RD.objs {L' : List (Addr × HO)} (e : ∀ p, p ∈ L ↔ p ∈ L') (k : RD K D0 (star (objs L') R) l T) : RD K D0 (star (objs L) R) l T := RD.res (S := star (GL.objs L') R) (fun h => by
  obtain ⟨N1, N2, a, dj, ⟨b, c⟩, h2⟩ := h
  exact ⟨N1, N2, a, dj, ⟨fun x => (b x).trans ⟨fun ⟨o, h⟩ => ⟨o, (e _).1 h⟩, fun ⟨o, h⟩ => ⟨o, (e _).2 h⟩⟩, fun p hp => c p ((e p).2 hp)⟩, h2⟩) k
end
end GL

/-! G15: sorted of a dict by tuples. -/
namespace GL
open PySem PySem.Spec L2
open PyProof.Rows hiding St
open PySem.W (EachIs AllAlike Sortable dataLe)
def kD : Key → PyData
  | .inl i => .int i
  | .inr s => .str s
def keyD (q : Addr × List Key) : PyData := .tuple (q.2.map kD)
def gSortedT : List V → Hp → VK → Prop := fun xs H Q => ∃ (d : Addr) (kvs : List (List Key × V)), xs = [.ref d] ∧ H d = some (.dT kvs) ∧ AllAlike (kvs.map fun kv => .tuple (kv.1.map kD)) ∧ Sortable (kvs.map fun kv => .tuple (kv.1.map kD)) ∧
  ∀ (p : Addr) (bs : List (Addr × List Key)), bs.map (·.2) = kvs.map (·.1) → (∀ q ∈ bs, H q.1 = some (.tup (q.2.map kV))) → H p = none → Q (.ref p) (upd H p (.lst ((bs.mergeSort (dataLe false keyD)).map fun q => .ref q.1)))
theorem kD_dp {K : PySem.W.Frag} {H : Hp} : ∀ ks : List Key, DtAll K H (ks.map kV) (ks.map kD)
  | [] => .nil
  | .inl i :: ks => .cons (.int i) (kD_dp ks)
  | .inr s :: ks => .cons (.str s) (kD_dp ks)
theorem kD_reads {h : Heap} : ∀ {ks : List Key} {us : List Value}, Vals (ks.map kV) us → ReadsAll h us (ks.map kD) []
  | [], _, r => by
    cases r
    exact .nil
  | .inl i :: ks, _, r => by
    cases r with
    | cons a t =>
      obtain ⟨tk, rfl⟩ := (show ∃ tk, _ = Value.int i tk from a)
      exact .cons (as := []) (.int i tk) (kD_reads t)
  | .inr s :: ks, _, r => by
    cases r with
    | cons a t =>
      obtain ⟨tk, rfl⟩ := (show ∃ tk, _ = Value.str s tk from a)
      exact .cons (as := []) (.str s tk) (kD_reads t)
theorem kD_depth : ∀ ks : List Key, PyData.depthAll (ks.map kD) = 0
  | [] => by simp [PyData.depthAll]
  | .inl i :: ks => by simp [PyData.depthAll, PyData.depth, kD, kD_depth ks]
  | .inr s :: ks => by simp [PyData.depthAll, PyData.depth, kD, kD_depth ks]
theorem keyD_depth (q : Addr × List Key) : (keyD q).depth ≤ 1 := by
  unfold keyD
  simp only [PyData.depth, kD_depth]
  omega
theorem each_refs : ∀ (bs : List (Addr × List Key)), EachIs (fun v (q : Addr × List Key) => v = Value.ref q.1) (bs.map fun q => Value.ref q.1) bs
  | [] => .nil
  | _ :: bs => .cons rfl (each_refs bs)
theorem refs_each : ∀ {bs : List (Addr × List Key)} {us : List Value}, EachIs (fun v (q : Addr × List Key) => v = Value.ref q.1) us bs → Vals (bs.map fun q => V.ref q.1) us
  | _, _, .nil => .nil
  | _, _, .cons e t => .cons e (refs_each t)
theorem call_gsortedT {X : Cx} (hc : X.calm = true) (hu : X.A.units + 64 < cLine) : CallR X (.builtin "sorted") gSortedT := by
  intro pins s σ H xs us Q I r h
  obtain ⟨d, kvs, rfl, hd, al, so, q⟩ := h
  obtain ⟨u, rfl, ru⟩ := vals1 r
  cases (show u = Value.ref d from ru)
  obtain ⟨hz, sysm, ks, pr, o, es, ep, ho, ex, hdt, he, nd⟩ := (show ObjOk X.prog X.w H s.heap d (.dT kvs) from I.hok d _ hd)
  have n1 : es.size = ks.length := size_of_entries he
  have n2 : kvs.length = ks.length := Paired.length pr
  apply Calls.call_function_entry PyProof.Rows.kind_sorted PyProof.Rows.plain_sorted PyProof.Rows.entry_sorted (PyProof.Rows.args_sorted1 _)
  unfold Builtin.«sorted»
  apply wpAny_bind (m := checkCount "sorted" 1 1 _)
  apply wpAny_pure
  apply wpAny_bind
  apply PySem.W.kdu_collect (A := X.A.in1) (kdl_raw sysm ex hdt) (I.ok.hd hc) ho (by omega)
  intro h' tk acc keep items
  have bs0 : acc.toList = (ks.map fun x => (x.2.1, x.1)).map fun q => Value.ref q.1 := by
    rw [List.map_map]
    apply List.ext_getElem?
    intro j
    rw [List.getElem?_map]
    have len : acc.toList.length = ks.length := by
      rw [show acc.toList.length = acc.size from Array.length_toList, items.1]
      exact n1
    by_cases hj : j < ks.length
    · obtain ⟨v, hv⟩ : ∃ v, acc.toList[j]? = some v := ⟨_, List.getElem?_eq_getElem (by omega)⟩
      obtain ⟨en, e1, e2⟩ := items.2 j v (by rw [← Array.getElem?_toList]; exact hv)
      have at_ := entry_at he j
      rw [e1, List.getElem?_eq_getElem hj] at at_
      have ee : en = entryOfKey (tupleKind (mixKind X.prog X.w)) ks[j] := Option.some.inj at_
      rw [hv, List.getElem?_eq_getElem hj, e2, ee]
      rfl
    · rw [List.getElem?_eq_none (by omega), List.getElem?_eq_none (by omega)]
      rfl
  generalize hb : (ks.map fun x => (x.2.1, x.1)) = bs at bs0
  have keysEq : bs.map (·.2) = kvs.map (·.1) := by
    rw [← hb, List.map_map]
    clear hb bs0 al so q hz n1 n2 he nd hd
    induction pr with
    | nil => rfl
    | cons h t ih => rw [List.map_cons, List.map_cons, ih]; rw [h.1]; rfl
  have tups : ∀ x ∈ bs, H x.1 = some (.tup (x.2.map kV)) := by
    rw [← hb]
    clear keysEq hb bs0 al so q hz n1 n2 he nd hd
    intro x hx
    obtain ⟨y, hy, rfl⟩ := List.mem_map.1 hx
    induction pr with
    | nil => cases hy
    | cons h t ih =>
      rcases List.mem_cons.1 hy with rfl | hy
      · show H _ = some (.tup (_ : List V))
        rw [h.2.1, h.1]
      · exact ih hy (List.mem_map.2 ⟨y, hy, rfl⟩)
  have lb : bs.length = ks.length := by rw [← hb, List.length_map]
  have size : bs.length ≤ sizeLine := by omega
  have I1 : Inv X pins σ H { s with heap := h', toks := tk } := I.kept keep
  apply wpAny_bind
  refine wpAny_newList ?_ (by rw [bs0, List.length_map]; exact size)
  have here : (h'.push (seqObj "list" acc.toList.toArray 0)).get? h'.objs.size = some (seqObj "list" acc.toList.toArray 0) :=
    Heap.get?_push_size _ rfl
  show wpAny _ _ _ _ _ { s with heap := h'.push (seqObj "list" acc.toList.toArray 0), toks := tk }
  have dat : bs.map keyD = kvs.map fun kv => .tuple (kv.1.map kD) := by
    have e1 : bs.map keyD = (bs.map (·.2)).map fun k => PyData.tuple (k.map kD) := by
      rw [List.map_map]
      rfl
    rw [e1, keysEq, List.map_map]
    rfl
  have rd : EachIs (fun v (x : Addr × List Key) => ∃ as, Reads (h'.push (seqObj "list" acc.toList.toArray 0)) v (keyD x) as ∧ h'.objs.size ∉ as) acc.toList bs := by
    rw [bs0]
    refine each_in (each_refs bs) fun v x hx e => ?_
    subst e
    obtain ⟨_, its, rv, ob, a1, a2, n, a3⟩ := (show ObjOk X.prog X.w H s.heap x.1 (.tup (x.2.map kV)) from I.hok _ _ (tups x hx))
    exact ⟨[], .tuple (Heap.get?_push_of_some _ (keep _ _ a1)) a2 a3 (kD_reads rv), List.not_mem_nil⟩
  have ev : EachIs (fun v (x : Addr × List Key) => v = Value.ref x.1) acc.toList bs := by
    rw [bs0]
    exact each_refs bs
  apply wpAny_bind
  apply wpAny_holding
  have fin := PySem.W.list_sort_data (prog := X.prog) (w := X.w) (A := X.A.in1) (E := X.xe) (s := { s with heap := h'.push (seqObj "list" acc.toList.toArray 0), toks := tk }) (enc := keyD) here ev rd (by rw [dat]; exact al) (by rw [dat]; exact so) size
    (fun x _ => by have := keyD_depth x; show X.A.units + 1 + 1 + (keyD x).depth < cLine; omega)
    (Q := fun _ s2 => EP X pins σ Q (.ref h'.objs.size) s2) (fun out len eo => by
      obtain ⟨c, at_⟩ := sortedHeap_at (out := out.toArray) here
      have ov := refs_each eo
      have ol : ((bs.mergeSort (dataLe false keyD)).map fun q => V.ref q.1).length ≤ sizeLine := by
        rw [List.length_map, List.length_mergeSort]
        exact size
      have new : ObjOk X.prog X.w (upd H h'.objs.size (.lst ((bs.mergeSort (dataLe false keyD)).map fun q => V.ref q.1))) (PyProof.Rows.sortedHeap (h'.push (seqObj "list" acc.toList.toArray 0)) h'.objs.size acc.toList out.toArray) h'.objs.size
          (.lst ((bs.mergeSort (dataLe false keyD)).map fun q => V.ref q.1)) := ⟨ol, out, c, ov, at_⟩
      have J := I1.laid (t' := tk) (h' := PyProof.Rows.sortedHeap (h'.push (seqObj "list" acc.toList.toArray 0)) h'.objs.size acc.toList out.toArray) (fun b o e => by
        have lt := Heap.lt_size e
        rw [sortedHeap_old (Nat.ne_of_lt lt) (by rw [Heap.size_push]; exact Nat.lt_succ_of_lt lt)]
        exact Heap.get?_push_of_some _ e) (Nat.le_refl _) new
      exact ⟨.ref _, _, J, rfl, q _ _ keysEq tups (I1.hok.fresh (Nat.le_refl _))⟩)
  refine wpAny_mono fin (fun _ s2 x => ?_) fun _ _ e => e
  exact wpAny_pure ⟨_, rfl, x⟩
end GL

/-! G16: del d[k] of a dict by tuples; sorted of it, derived. -/
namespace GL
open PySem PySem.Spec L2
open PyProof.Rows hiding St
open PySem.W (EachIs AllAlike Sortable dataLe)
section
variable {K : Type} [DecidableEq K] {prog : Program} {w : World} {knd : HeapKind prog w K}
theorem meetsDel {d b : Addr} {k : K} :
    MeetsIn prog w (Builtin.«dict.__delitem__» ⟨[.ref d, .ref b], []⟩) (fun A R s => ∃ xs p, knd.room A.in1 ∧ knd.is s.heap k b ∧ s.heap.DictOfH knd d xs ∧ xs.length ≤ sizeLine ∧ atKey xs k = some p ∧
      ∀ h' tk, h'.DictOfH knd d (DT.dropH xs k) → Heap.SameBut d s.heap h' → R (.ok (.ret .none)) { s with heap := h', toks := tk }) :=
  .of_wp fun A R s ⟨xs, p, room, key, dict, sz, there, go⟩ => by
    unfold Builtin.«dict.__delitem__»
    apply wpAny_bind
    unfold Builtin.Dict.dictSlotArgs
    apply wpAny_bind
    apply wpAny_notOrdered_dict dict.typeIs
    show wpAny _ _ (pure (Value.ref d, Value.ref b)) _ _ s
    apply wpAny_pure
    show wpAny _ _ (Builtin.Dict.takeOut d (.ref b) >>= _) _ _ s
    apply wpAny_bind
    apply DT.takeH room key dict sz
    · intro no
      rw [there] at no
      cases no
    · intro p2 e _ _ h' dict' same
      exact wpAny_bind (wpAny_letGo (wpAny_pure ⟨.none, rfl, go h' _ dict' same⟩))
end
section
variable {X : Cx} {pins : List (Addr × Obj)} {σ : L2.St} {H : Hp} {s : Shared} {A : Around} {a b : Addr} {kvs : List (List Key × V)} {ks : List Key}
theorem del_tup {Q : Unit → Shared → Prop} {E : Value → Shared → Prop} (hu : A.units + 1 < cLine) (I : Inv X pins σ H s) (ha : H a = some (.dT kvs)) (hb : H b = some (.tup (ks.map kV))) (there : (valV kvs ks).isSome = true)
    (k : ∀ s', Inv X pins σ (upd H a (.dT (dropK kvs ks))) s' → Q () s') : wpAny (model X.prog X.w) A (delItem (.ref a) (.ref b)) Q E s := by
  obtain ⟨z, sysm, xs, rel, dd⟩ := dt_of I.hok ha
  have sz : xs.length ≤ sizeLine := by
    rw [← Paired.length rel]
    exact z
  obtain ⟨v0, ev⟩ := Option.isSome_iff_exists.1 there
  have r := rel.val ks
  rw [ev] at r
  obtain ⟨p, hp⟩ : ∃ p, atKey xs ks = some p := by
    cases e : atKey xs ks with
    | some p => exact ⟨p, rfl⟩
    | none =>
      rw [e] at r
      exact (show False from r).elim
  apply wpAny_delItem_slot dd.typeIs (by decide) PySem.F.slot_dict_delitem
  apply call_meetsIn PySem.F.slot_dict_delitem dd.typeIs PySem.F.entry_dict_delitem (PySem.F.args_dict_delitem_2 _ _) (meetsDel (knd := tupleKind (mixKind X.prog X.w)) (k := ks))
  refine ⟨xs, p, tupleKind_room_in1 hu, key_of I.hok hb, dd, sz, hp, fun h' tk dd' same => k _ ?_⟩
  obtain ⟨o, es, ep, g1, g2, g3, g4, _, g5⟩ := dd'
  exact d_write I (by rw [ha]; exact True.intro) same ⟨o, g1⟩
    ⟨Nat.le_trans (dropK_le kvs ks) z, sysm, _, (L2.DX.KT_drop ks rel).keeps (fun c ys ec => by rw [upd_ne (ne_of ec ha (fun z => nomatch z))]; exact ec), o, es, ep, g1, g2, g3, g4, g5⟩
end
def sDDelT (td ty : TE) : TS := fun D σ H => td σ H fun x H1 => ty σ H1 fun y H2 => ∃ a b kvs ks, x = .ref a ∧ y = .ref b ∧ H2 a = some (.dT kvs) ∧ H2 b = some (.tup (ks.map kV)) ∧ (valV kvs ks).isSome = true ∧ D.nx σ (upd H2 a (.dT (dropK kvs ks)))
theorem ps_ddelT {X : Cx} {o i : Expr} {td ty : TE} {tpos pos : Pos} (hu : X.A.units + 1 < cLine) (ho : PE X o td) (hi : PE X i ty) : PS X (.Delete [.Subscript o i tpos] pos) (sDDelT td ty) := by
  constructor
  intro pins s σ H D I h
  apply wpAny_Delete
  apply wpAny_deleteEach_cons
  apply wpAny_delete_Subscript
  refine thn (ho.run pins s σ H _ I h) ?_
  rintro u s1 ⟨x, H1, I1, rx, q1⟩
  refine thn (hi.run pins s1 σ H1 _ I1 q1) ?_
  rintro iv s2 ⟨y, H2, I2, ry, a, b, kvs, ks, rfl, rfl, ha, hb, th, q2⟩
  obtain rfl : u = Value.ref a := rx
  obtain rfl : iv = Value.ref b := ry
  exact del_tup hu I2 ha hb th fun s3 I3 => wpAny_deleteEach_nil ⟨σ, _, I3, q2⟩
/-! ### derived -/
section
variable {K : PySem.W.Frag} {D0 D1 : Hp} {R : Res} {l : List (V × PyData)} {σ : L2.St} {D : Ends} {Q : VK} {L : List (Addr × HO)} {T : Hp → Prop}
theorem At.tup_free {N : Addr → Prop} {H : Hp} (A : At K D0 R l N H) {b : Addr} {xs : List V} (h : H b = some (.tup xs)) : ¬ N b := fun hn => by
  obtain ⟨o, e, z⟩ := A.nt b hn
  rw [h] at e
  exact z xs (Option.some.inj e).symm
theorem keys_dt {H : Hp} : ∀ {bs : List (Addr × List Key)}, (∀ q ∈ bs, H q.1 = some (.tup (q.2.map kV))) → DtAll K H (bs.map fun q => V.ref q.1) (bs.map keyD)
  | [], _ => .nil
  | q :: bs, h => .cons (.tup (.inl (.inl (h q List.mem_cons_self))) (kD_dp q.2)) (keys_dt fun x hx => h x (List.mem_cons_of_mem _ hx))
theorem d_sortedT {d : Addr} {kvs : List (List Key × V)} (hd : (d, .dT kvs) ∈ L) (al : AllAlike (kvs.map fun kv => .tuple (kv.1.map kD))) (so : Sortable (kvs.map fun kv => .tuple (kv.1.map kD)))
    (k : ∀ v, RD K D0 (star (objs L) R) ((v, .list ((kvs.map fun kv => PyData.tuple (kv.1.map kD)).mergeSort (dataLe false id))) :: l) (Q v)) : RD K D0 (star (objs L) R) l (fun H => gSortedT [.ref d] H Q) := fun N H A => by
  refine ⟨d, kvs, rfl, A.ob hd, al, so, fun p bs e1 tups hp => ?_⟩
  obtain ⟨A', e⟩ := A.new (.lst ((bs.mergeSort (dataLe false keyD)).map fun q => V.ref q.1)) hp
  have dat : bs.map keyD = kvs.map fun kv => PyData.tuple (kv.1.map kD) := by
    have z : bs.map keyD = (bs.map (·.2)).map fun k => PyData.tuple (k.map kD) := by
      rw [List.map_map]
      rfl
    rw [z, e1, List.map_map]
    rfl
  have ds : DtAll K (off (upd H p (.lst ((bs.mergeSort (dataLe false keyD)).map fun q => V.ref q.1))) N) ((bs.mergeSort (dataLe false keyD)).map fun q => V.ref q.1) ((bs.mergeSort (dataLe false keyD)).map keyD) :=
    keys_dt fun q hq => by
      have t := tups q ((List.mergeSort_perm _ _).mem_iff.1 hq)
      rw [off_ne (A.tup_free t), upd_ne (ne_of_none t hp)]
      exact t
  have em : (bs.mergeSort (dataLe false keyD)).map keyD = (bs.map keyD).mergeSort (dataLe false id) := List.map_mergeSort fun _ _ _ _ => rfl
  rw [em, dat] at ds
  exact k _ N _ (A'.facts (.lst e ds))
def kDDelT (x y : V) (H2 : Hp) (Qn : Hp → Prop) : Prop := ∃ a b kvs ks, x = .ref a ∧ y = .ref b ∧ H2 a = some (.dT kvs) ∧ H2 b = some (.tup (ks.map kV)) ∧ (valV kvs ks).isSome = true ∧ Qn (upd H2 a (.dT (dropK kvs ks)))
theorem d_sDDelT {td ty : TE} (k : RD K D0 R l (fun H => td σ H fun x H1 => ty σ H1 fun y H2 => kDDelT x y H2 fun H3 => D.nx σ H3)) : RD K D0 R l (fun H => sDDelT td ty D σ H) := k
theorem d_delT {a b : Addr} {kvs : List (List Key × V)} {ks : List Key} {Qn : Hp → Prop} (ha : (a, .dT kvs) ∈ L) (hb : D0 b = some (.tup (ks.map kV))) (th : (valV kvs ks).isSome = true) (k : RD K D0 (star (objs (putO L a (.dT (dropK kvs ks)))) R) l Qn) :
    RD K D0 (star (objs L) R) l (fun H => kDDelT (.ref a) (.ref b) H Qn) := fun N H A => ⟨a, b, kvs, ks, rfl, rfl, A.ob ha, A.fixed hb, th, k N _ (A.setOb (fun _ z => by cases z) ha)⟩
end
end GL

/-! G17: derived rules for try with several clauses, for errors over any base, for len of a dict. -/
namespace GL
open PySem PySem.Spec L2
open PyProof.Rows hiding St
def gLenD : List V → Hp → VK → Prop := fun xs H Q => rLenT xs H Q ∨ ∃ a kvs, xs = [V.ref a] ∧ H a = some (.dK kvs) ∧ Q (.int (kvs.length : Nat)) H
theorem call_glenD {X : Cx} : CallR X (.builtin "len") gLenD := by
  intro pins s σ H xs us Q I r h
  rcases h with h | h
  · exact call_len_dT pins s σ H xs us Q I r h
  · exact call_lenD pins s σ H xs us Q I r h
section
variable {K : PySem.W.Frag} {D0 D1 : Hp} {R : Res} {l : List (V × PyData)} {σ : L2.St} {D : Ends} {Q : VK} {L : List (Addr × HO)} {T : Hp → Prop}
theorem d_tMix {tb : WX → TS} {cl : List Cl} {W : WX} (k : RD K D0 R l (fun H => tb (wMix K W D cl) D σ H)) : RD K D0 R l (fun H => tMix K tb cl W D σ H) := k
theorem d_mixYes {C C' : Addr} {d : Option Addr} {o : Option Nat} {ts : Addr → Value → Option Addr → TS} {r : List Cl} {W : WX} (te : PySem.W.exmOne K (.ref C) (.ref C') = some true)
    (k : ∀ a, RD K D0 R l (fun H => ts a (.ref C) d (endsOf o D) (slotOf a o σ) H)) : RD K D0 R l (fun H => wMix K W D ((.ref C', o, ts) :: r) (.ref C) d σ H) :=
  fun N H A => ⟨true, te, fun _ a _ => k a N H A, fun z => by cases z⟩
theorem d_mixNo {C C' : Addr} {d : Option Addr} {o : Option Nat} {ts : Addr → Value → Option Addr → TS} {r : List Cl} {W : WX} (te : PySem.W.exmOne K (.ref C) (.ref C') = some false)
    (k : RD K D0 R l (fun H => wMix K W D r (.ref C) d σ H)) : RD K D0 R l (fun H => wMix K W D ((.ref C', o, ts) :: r) (.ref C) d σ H) :=
  fun N H A => ⟨false, te, (fun z => by cases z), fun _ => k N H A⟩
theorem d_chain {r r' : R2} {ta tb tc : TE} (k : RD K D0 R l (fun H => ta σ H fun x H1 => tb σ H1 fun y H2 => r x y H2 fun z H3 => kBl z H3 fun c H4 => if c = true then tc σ H4 fun u H5 => r' y u H5 Q else Q (.bl false) H4)) : RD K D0 R l (fun H => tChain r r' ta tb tc σ H Q) := k
/-- a resource is forgotten -/
theorem At.drop {S : Res} {N : Addr → Prop} {H : Hp} (A : At K D0 (star S R) l N H) : ∃ N', At K D0 R l N' H := by
  obtain ⟨N1, N2, e, dj, h1, h2⟩ := A.r
  have sm : Same (off H N) (off H N2) := off_grow fun b hb _ => ⟨fun z => hb ((e b).2 (.inr z)), rfl⟩
  exact ⟨N2, fun b hb => A.nt b ((e b).2 (.inr hb)), R.st h2 sm fun _ _ => rfl, A.d0.trans sm, fun q hq => (A.f q hq).mono sm⟩
theorem RD.drop {S : Res} (k : RD K D0 R l T) : RD K D0 (star S R) l T := fun N H A => by
  obtain ⟨N', A'⟩ := A.drop
  exact k N' H A'
theorem d_lenDT {a : Addr} {kvs : List (List Key × V)} (ha : (a, .dT kvs) ∈ L) (k : RD K D0 (star (objs L) R) l (Q (.int (kvs.length : Nat)))) : RD K D0 (star (objs L) R) l (fun H => gLenD [.ref a] H Q) := fun N H A => .inl ⟨a, kvs, rfl, A.ob ha, k N H A⟩
theorem d_lenDK {a : Addr} {kvs : List (Key × V)} (ha : (a, .dK kvs) ∈ L) (k : RD K D0 (star (objs L) R) l (Q (.int (kvs.length : Nat)))) : RD K D0 (star (objs L) R) l (fun H => gLenD [.ref a] H Q) := fun N H A => .inr ⟨a, kvs, rfl, A.ob ha, k N H A⟩
/-! ### a method -/
def kGM (C : Addr) (m : Str) (x : V) (H1 : Hp) (k : Hp → Prop) : Prop := ∃ a dx fs, x = .ref a ∧ H1 a = some (.ins C dx fs) ∧ fs.lookup m = none ∧ k H1
theorem d_tGM {C : Addr} {m : Str} {sp : Sp} {W : WX} {ta : TE} {t : TA} (k : RD K D0 R l (fun H => ta σ H fun x H1 => kGM C m x H1 fun H2 => t σ H2 fun vs H3 => sp (x :: vs) H3 Q (WE W σ))) : RD K D0 R l (fun H => tGM C m sp W ta t σ H Q) := k
end
end GL

/-! G33: isinstance of an error of an own class, its fields there or not. -/
namespace PySem.W
open PySem PySem.Spec PySem.Calls PyProof.Rows
section
variable {prog : Program} {w : World} {A : Around} {E : Value → Shared → Prop} {s : Shared} {K : Frag} {x D : Addr} {ox : Obj} {od : Option Obj}
theorem fo_data {C : Addr} {n : Str} {a g : Value} (hc : (clsIn K C).isSome = true) (ha : findIn K (.ref C) n = some (some a)) (hg : specialIn K a "__get__" = some (some g)) (ht : takesIn K a = some true) :
    findObj K C od n = some (.bind g a) := by
  obtain ⟨cd, hcd⟩ := Option.isSome_iff_exists.mp hc
  simp [findObj, hcd, ha, hg, ht]
/-- e.__class__, whatever dict e has -/
theorem cls_of_exc {Q : Option Value → Shared → Prop} (C : L2.ExcC K D) (X : K.In s.heap) (I : InstAt s.heap x ox D od) (h : Q (some (.ref D)) { s with toks := s.toks + 1 }) :
    wpAny (model prog w) A (getAttr? (.ref x) "__class__") Q E s := by
  have hf : findObj K D od "__class__" = some (.bind (.builtin "getset_descriptor.__get__") (.builtin "object.__class__")) := by
    refine fo_data ?_ C.ha C.hn C.ht
    obtain ⟨cd, hc, _⟩ := any_some C.hd
    rw [hc]
    rfl
  obtain ⟨hp, gs, dr, t, os⟩ := s
  have T0 := I.type (M := model prog w)
  have T1 := looks_findIn (M := model prog w) X C.hg
  have T2 := looks_findIn (M := model prog w) X C.hk
  have T3 := looks_find (M := model prog w) X I hf
  have isB : Looks (model prog w) hp (isInstance (.ref x) (.type "BaseException")) true := T0.andThen (looks_subIn X C.hs)
  have z0 : (false && onTheHeap (Value.builtin "BaseException.__getattribute__")) = false := rfl
  have z2 : (Value.builtin "BaseException.__getattribute__" == Value.builtin "object.__getattribute__") = false := by
    decide +kernel
  have z1 : (onTheHeap (Value.ref D) && Value.builtin "BaseException.__getattribute__" == Value.builtin "object.__getattribute__") = false := by
    rw [z2]
    rfl
  unfold getAttr? getAttrBy? getAttrBy
  refine wpAny_bind (wpAny_mkText (wpAny_bind (wpAny_attempt (wpAny_holding (wpAny_bind (T0.at (wpAny_bind (T1.at ?_))))))))
  change wpAny _ _ (if (onTheHeap (Value.ref D) && Value.builtin "BaseException.__getattribute__" == Value.builtin "object.__getattribute__") = true then _ else _) _ _ _
  rw [z1, if_neg Bool.false_ne_true]
  unfold getAttrByItsOwn hookBefore
  refine wpAny_bind ?_
  have zh : onTheHeap (Value.ref D) = true := rfl
  rw [if_pos zh]
  refine T2.at (wpAny_bind (wpAny_attempt (wpAny_holding ?_)))
  unfold callGetattribute
  rw [z0, if_neg Bool.false_ne_true]
  unfold boundAndCalled
  rw [PySem.F.excAttr_ValueError.ga.bind (.ref x)]
  refine wpAny_bind (wpAny_pure ?_)
  change wpAny _ _ (call (.builtin "BaseException.__getattribute__") [.ref x, .str "__class__" t]) _ _ _
  refine wpAny_call (codeAny_call_builtin PySem.F.excAttr_ValueError.ga.plain PySem.F.entry_bexc_ga ?_)
  have ar := PySem.F.args_bexc_ga (.ref x) (.str "__class__" t)
  refine @check_slot (model prog w) _ _ ⟨hp, gs, dr, t + 1, os⟩ "BaseException.__getattribute__" "BaseException" "__getattribute__" (.ref x) [.str "__class__" t] [] _ (by decide +kernel) (by decide +kernel) isB ar ?_
  unfold Builtin.«object.__getattribute__»
  refine wpAny_bind (wpAny_of_eq (a := ((Value.ref x : Value), [Value.str "__class__" t])) ?_ ?_)
  · first
      | rfl
      | (simp only [slotArgs]; rfl)
  refine wpAny_bind (wpAny_pure (wpAny_bind (T0.at (wpAny_bind (T3.at ?_)))))
  change wpAny _ _ (holding [Value.builtin "object.__class__"] (call (.builtin "getset_descriptor.__get__") [.builtin "object.__class__", .ref x, .ref D]) >>= ret) _ _ _
  refine wpAny_bind (wpAny_holding (wpAny_call (class_get (s := ⟨hp, gs, dr, t + 1, os⟩) (ox := ox) (od := od) X I C.hm ?_)))
  refine wpAny_pure ?_
  change wpAny _ _ (handedOut (.ref D)) _ _ _
  rw [handedOut_of (v := .ref D) rfl]
  first
    | exact wpAny_pure (wpAny_pure h)
    | exact wpAny_pure h
    | exact wpAny_pure (wpAny_bind (wpAny_pure (wpAny_pure h)))
theorem kit_exc (C : L2.ExcC K D) : KitX K (.ref x) (.ref D) (fun h => InstAt h x ox D od) where
  ty := fun _ _ _ I => I.type
  it := fun _ _ X _ => by
    obtain ⟨cd, hcd, _⟩ := any_some C.hd
    unfold clsIn at hcd
    split at hcd
    · rename_i o1 o2 o3 o4 ho
      intro A' Q' E' s' k q
      unfold isType loadHead
      exact wpAny_bind (wpAny_loadPart (k _ _ (X _ _ ho)) (wpAny_pure q))
    · cases hcd
  ne := fun h tp dd its n sl X htp => by
    obtain ⟨cd, hcd, _⟩ := any_some C.hd
    refine Bool.eq_false_iff.mpr fun q => ?_
    obtain rfl : D = tp := Value.ref.inj (beq_iff_eq.mp q)
    unfold clsIn at hcd
    split at hcd
    · rename_i o1 o2 o3 o4 ho
      cases (X _ _ ho).symm.trans htp
    · cases hcd
  ca := fun X I k => cls_of_exc C X I k
end
end PySem.W
namespace GL
open PySem PySem.Spec L2
open PyProof.Rows hiding St
/-- the class at C: isinstance of its instances is known, for the built-in T it says b -/
structure IsX (K : PySem.W.Frag) (C : Addr) (T : String) (b : Bool) : Prop where
  e : ExcC K C
  k : PySem.W.kitOne K (.ref C) (.type T) = some b
def excC (K : PySem.W.Frag) (D : Addr) : Bool :=
  (decide (PySem.W.findIn K (.ref D) "__getattribute__" = some (some (.builtin "BaseException.__getattribute__"))) && decide (PySem.W.findIn K (.ref D) "__getattr__" = some none)) &&
  ((decide (PySem.W.subIn K (.ref D) (.type "BaseException") = some true) && PySem.W.hasDictIn K D) &&
  ((decide (PySem.W.findIn K (.ref D) "__class__" = some (some (.builtin "object.__class__"))) && decide (PySem.W.specialIn K (.builtin "object.__class__") "__get__" = some (some (.builtin "getset_descriptor.__get__")))) &&
  (decide (PySem.W.takesIn K (.builtin "object.__class__") = some true) && decide (PySem.W.mroIn K D (.type "object") = some true))))
theorem excC_ok {K : PySem.W.Frag} {D : Addr} (h : excC K D = true) : ExcC K D := by
  unfold excC at h
  simp only [Bool.and_eq_true, decide_eq_true_eq] at h
  obtain ⟨⟨h1, h2⟩, ⟨h3, h4⟩, ⟨h5, h6⟩, h7, h8⟩ := h
  exact ⟨h1, h2, h3, h4, h5, h6, h7, h8⟩
def isX (x : String) (T : String) (b : Bool) (K : PySem.W.Frag) : Bool := excC K (He.ga K x) && decide (PySem.W.kitOne K (.ref (He.ga K x)) (.type T) = some b)
theorem isX_ok {K : PySem.W.Frag} {x T : String} {b : Bool} (h : isX x T b K = true) : IsX K (He.ga K x) T b := by
  unfold isX at h
  rw [Bool.and_eq_true, decide_eq_true_eq] at h
  exact ⟨excC_ok h.1, h.2⟩
def rIsX (K : PySem.W.Frag) (a : Addr) (cls : Value) (d : Option Addr) (C : Addr) : List V → Hp → VK → Prop := fun xs H Q => ∃ (T : String) (b : Bool), xs = [.ref a, .ty T] ∧ cls = .ref C ∧
  (d = none ∨ ∃ dd fs, d = some dd ∧ H dd = some (.xd fs)) ∧ PySem.W.kitOne K (.ref C) (.type T) = some b ∧ Q (.bl b) H
theorem call_isX {X : Cx} {a C : Addr} {oe : Obj} {cls : Value} {d : Option Addr} {pn : List (Addr × Obj)} (T : ExcC X.K C) (hz : Zc cls d oe) (hf : ∃ vs, oe.data = .fields vs) :
    CallR (X.suite a ((a, oe) :: pn)) (.builtin "isinstance") (rIsX X.K a cls d C) := by
  intro pins s σ H xs us Q I r h
  obtain ⟨Tn, b, rfl, rfl, hd, e, q⟩ := h
  cases r with
  | cons rx rr =>
    cases rr with
    | cons rt rr =>
      cases rr
      cases rx
      have ec := (show _ = Value.type Tn from rt)
      subst ec
      obtain ⟨ha, _⟩ := I.pin (a, oe) (List.mem_append_left _ List.mem_cons_self)
      obtain ⟨vs, hv⟩ := hf
      have J : ∃ od, PySem.W.InstAt s.heap a oe C od := by
        rcases hd with rfl | ⟨dd, fs, rfl, hdd⟩
        · exact ⟨none, ha, hz.1, by unfold PySem.W.notCls; rw [hv] <;> rfl, by rw [hz.2]; trivial⟩
        · have hx : ObjOk X.prog X.w H s.heap dd (.xd fs) := I.hok dd _ hdd
          obtain ⟨mA, hns, hr⟩ := hx
          obtain ⟨od, ho, hl⟩ := lookIn_ns hns
          exact ⟨some od, ha, hz.1, by unfold PySem.W.notCls; rw [hv] <;> rfl, by rw [hz.2]; exact ho⟩
      obtain ⟨od, J⟩ := J
      exact PySem.W.kia_one (PySem.W.kit_exc T) I.kIn J e (fun z => nomatch z) fun tk => ⟨.bl b, H, I.kept (t' := tk) fun _ _ z => z, rfl, q⟩
section
variable {K : PySem.W.Frag} {D0 : Hp} {R : Res} {l : List (V × PyData)} {Q : VK}
theorem d_isX {a C dd : Addr} {fs : List (Str × V)} {T : String} {b : Bool} (h : IsX K C T b) (k : RD K D0 (star (xdo dd fs) R) l (Q (.bl b))) : RD K D0 (star (xdo dd fs) R) l (fun H => rIsX K a (.ref C) (some dd) C [.ref a, .ty T] H Q) :=
  fun N H A => ⟨T, b, rfl, rfl, .inr ⟨dd, fs, rfl, A.xd⟩, h.k, k N H A⟩
theorem d_isX0 {a C : Addr} {T : String} {b : Bool} (h : IsX K C T b) (k : RD K D0 R l (Q (.bl b))) : RD K D0 R l (fun H => rIsX K a (.ref C) none C [.ref a, .ty T] H Q) :=
  fun N H A => ⟨T, b, rfl, rfl, .inl rfl, h.k, k N H A⟩
end
end GL

/-! G44: exceptions made by keyword, kept as values. -/
namespace PySem
namespace GLX
open PySem.W PySem.Calls PyProof.Rows PySem.HandSPX
section
open Builtin Builtin.ObjectAttr
variable {M : Model} {A : Around} {E : Value → Shared → Prop} {h : Heap} {g : Array GenState} {d : Drawn} {t : Nat} {os : OsState} {prog : Program} {w : World} {R : Result → Shared → Prop}
variable {nm q : Str} {C N : Addr} {bs bm bmB : List Value} {hdct : Bool} {sn : List Str} {sub : List Value} {ab : Bool} {col : Option Bool} {dd : Option Addr} {k0 k1 k2 k3 k5 : Option Value} {B newId initId : String} {rest : List Value} {kw : List (Str × Value)}
abbrev XC (nm q : Str) (C N : Addr) (bs bm : List Value) (hdct : Bool) (sn : List Str) (sub : List Value) (ab : Bool) (col : Option Bool) (dd : Option Addr) (k0 k1 k2 k3 k5 : Option Value) (newId : String) : Obj := excClassObj nm q C N bs bm hdct sn sub ab col dd k0 k1 k2 k3 k5 newId
theorem newK (FB : ExcBaseFacts B newId initId bmB) (same : ∀ X : String, bm.contains (.type X) = bmB.contains (.type X)) {Q : Unit → Shared → Prop} {n : Str} {u : Value}
    (at_ : h.get? C = some (XC nm q C N bs bm hdct sn sub ab col dd k0 k1 k2 k3 k5 newId)) (fin : Q () ⟨h, g, d, t, os⟩) : wpAny M A (checkBuiltinCall newId ⟨.ref C :: rest, [(n, u)]⟩) Q E ⟨h, g, d, t, os⟩ := by
  have cB : (Value.ref C :: bm).contains (.type B) = true := by
    rw [List.contains_cons, same, FB.hasB, Bool.or_true]
  have st := FB.noStar
  simp only [checkBuiltinCall, FB.newKind, FB.newSplit, FB.newRow]
  repeat (first
    | refine wpAny_loadPart_at at_ ?_
    | (refine wpAny_isSubtype_exc at_ ?_; rw [cB])
    | refine wpAny_staticBase_exc at_ ?_
    | refine wpAny_madeBy_exc at_ ?_
    | simp only [bne_self_eq_false, Bool.false_eq_true, if_false]
    | wp_step)
  exact fin
theorem tcK {Q : Unit → Shared → Prop} {n : Str} {u : Value} (at_ : h.get? C = some (XC nm q C N bs bm hdct sn sub ab col dd k0 k1 k2 k3 k5 newId)) (fin : Q () ⟨h, g, d, t, os⟩) :
    wpAny M A (checkBuiltinCall "type.__call__" ⟨.ref C :: rest, [(n, u)]⟩) Q E ⟨h, g, d, t, os⟩ := by
  have z1 := tc_sub
  have z2 : (⟨h, g, d, t, os⟩ : Shared).TypeIs (.ref C) "type" :=
    ⟨_, at_, rfl⟩
  simp only [checkBuiltinCall, tc_kind, tc_split]
  repeat (any_goals (first
    | assumption
    | with_reducible refine wpAny_loadPart_at at_ ?_
    | with_reducible refine wpAny_onRaise ?_
    | with_reducible refine wpAny_map ?_
    | wp_step))
theorem newOwnK (FB : ExcBaseFacts B newId initId bmB) (same : ∀ X : String, bm.contains (.type X) = bmB.contains (.type X)) {n : Str} {u : Value}
    (at_ : h.get? C = some (XC nm q C N bs bm hdct sn sub ab col dd k0 k1 k2 k3 k5 newId)) (few : rest.length ≤ sizeLine)
    (fin : R (.ok (.ret (.ref (h.objs.size + 1)))) ⟨(h.push (PySem.W.kdv_tup rest)).push (excO C h.objs.size), g, d, t, os⟩) :
    codeAny (model prog w) A (.builtin newId ⟨.ref C :: rest, [(n, u)]⟩) R ⟨h, g, d, t, os⟩ := by
  have en := FB.ends
  have cB : (Value.ref C :: bm).contains (.type B) = true := by
    rw [List.contains_cons, same, FB.hasB, Bool.or_true]
  have cA : (Value.ref C :: bm).contains (.type "AttributeError") = false := by
    rw [List.contains_cons, same, FB.noAttr]
    rfl
  have cN : (Value.ref C :: bm).contains (.type "NameError") = false := by
    rw [List.contains_cons, same, FB.noName]
    rfl
  apply codeAny_builtinAt FB.entry
  unfold Builtin.«BaseException.__new__»
  apply wpAt_bind
  show wpAt _ _ _ (stack >>= _) _ _ _
  refine wpAt_bind (wpAt_stack fun p0 below0 => wpAt_of_wpAny ?_)
  wp_walk
  apply wpAt_of_wpAny
  rw [FB.owner]
  repeat (first
    | with_reducible refine wpAny_madeHere_exc FB.canon at_ ?_
    | with_reducible refine wpAny_loadPart_at at_ ?_
    | (with_reducible refine wpAny_isSubtype_exc at_ ?_; first | rw [cB] | rw [cA] | rw [cN])
    | wp_step)
  show R _ _
  rw [Heap.size_push]
  exact fin
theorem typeCallK (FB : ExcBaseFacts B newId initId bmB) (same : ∀ X : String, bm.contains (.type X) = bmB.contains (.type X)) {n : Str} {u : Value} {fI : Addr} {Q : Fin → Shared → Prop}
    (at_ : h.get? C = some (XC nm q C N bs bm hdct sn sub ab col dd k0 k1 k2 k3 k5 newId))
    (hin : W.Looks (model prog w) h (typeLookup (.ref C) "__init__") (some (.ref fI))) (hbi : ∀ self, W.Looks (model prog w) h (bindSpecial (.ref fI) self) (.ref fI, [self])) (few : rest.length ≤ sizeLine)
    (fin : codeAny (model prog w) A (.call (.ref fI) ⟨.ref (h.objs.size + 1) :: rest, [(n, u)]⟩)
      (fun r s1 => match r with | .ok (.ret x) => x = .none ∧ Q (.done (.ret (.ref (h.objs.size + 1)))) s1 | .ok _ => False | .error e => E e s1)
      ⟨(h.push (PySem.W.kdv_tup rest)).push (excO C h.objs.size), g, d, t, os⟩) :
    wpAny (model prog w) A (Builtin.«type.__call__» ⟨.ref C :: rest, [(n, u)]⟩) Q E ⟨h, g, d, t, os⟩ := by
  repeat (first
    | with_reducible refine wpAny_loadPart_at at_ ?_
    | with_reducible refine wpAny_madeBy_exc at_ ?_
    | wp_step)
  apply codeAny_call_builtin_code (Code.quiet_builtin _ FB.quiet) (newK FB same at_ _)
  apply newOwnK FB same at_ few
  show wpAny _ _ _ _ _ _
  have keep : ∀ b o, h.get? b = some o → ((h.push (PySem.W.kdv_tup rest)).push (excO C h.objs.size)).get? b = some o := fun b o z =>
    Heap.get?_push_of_some _ (Heap.get?_push_of_some _ z)
  have at2 := keep _ _ at_
  have got : ((h.push (PySem.W.kdv_tup rest)).push (excO C h.objs.size)).get? (h.objs.size + 1) = some (excO C h.objs.size) := by
    heap_get
  have cC : (Value.ref C :: bm).contains (.ref C) = true := by
    simp
  have in2 := hin.keeps keep
  have bi2 := (hbi (.ref (h.objs.size + 1))).keeps keep
  unfold isInstance
  repeat (first
    | with_reducible refine wpAny_loadPart_at got ?_
    | (with_reducible refine wpAny_isSubtype_exc at2 ?_; rw [cC])
    | wp_step)
  show wpAny _ _ (typeLookup (.ref C) _) _ _ _
  apply in2.at
  apply wpAny_holding
  apply wpAny_bind
  apply bi2.at
  apply wpAny_bind
  apply wpAny_call
  refine codeAny_mono fin fun r s1 z => ?_
  rcases r with e | (x | _ | _ | _)
  all_goals first
    | exact z
    | exact z.elim
    | skip
  obtain ⟨rfl, z⟩ := z
  first
    | exact wpAny_pure (wpAny_pure z)
    | (wp_walk; exact z)
theorem callOwnK (FB : ExcBaseFacts B newId initId bmB) (same : ∀ X : String, bm.contains (.type X) = bmB.contains (.type X)) {n : Str} {u : Value} {fI : Addr}
    (at_ : h.get? C = some (XC nm q C N bs bm hdct sn sub ab col dd k0 k1 k2 k3 k5 newId))
    (hin : W.Looks (model prog w) h (typeLookup (.ref C) "__init__") (some (.ref fI))) (hbi : ∀ self, W.Looks (model prog w) h (bindSpecial (.ref fI) self) (.ref fI, [self])) (few : rest.length ≤ sizeLine)
    (fin : codeAny (model prog w) (A.under (.builtin "type.__call__" ⟨.ref C :: rest, [(n, u)]⟩)) (.call (.ref fI) ⟨.ref (h.objs.size + 1) :: rest, [(n, u)]⟩) (W.InitBack (h.objs.size + 1) R)
      ⟨(h.push (PySem.W.kdv_tup rest)).push (excO C h.objs.size), g, d, t, os⟩) :
    codeAny (model prog w) A (.call (.ref C) ⟨rest, [(n, u)]⟩) R ⟨h, g, d, t, os⟩ := by
  have z1 := tc_lookup
  have z2 := tc_bind (.ref C)
  have z3 : (⟨h, g, d, t, os⟩ : Shared).TypeIs (.ref C) "type" :=
    ⟨_, at_, rfl⟩
  apply codeAny_of_tree
  show wpAny _ _ (callAny (.ref C) _) _ _ _
  repeat (any_goals (first
    | assumption
    | with_reducible refine wpAny_loadPart_at at_ ?_
    | wp_step))
  refine ⟨rfl, ?_⟩
  apply codeAny_call_builtin_at (Code.quiet_builtin _ (by decide +kernel)) entry_typeCall
  apply tcK at_
  apply typeCallK FB same at_ hin hbi few
  refine codeAny_mono fin fun r s1 z => ?_
  rcases r with e | (x | _ | _ | _)
  · exact z
  · exact z
  · exact z
  · exact z
  · exact z
end
end GLX
end PySem
namespace GL
open PySem PySem.Spec L2
open PyProof.Rows hiding St
/-- f(a, n = u): how it binds -/
structure KBd (fd : FuncData) (ps : List Str) (n : Str) : Prop where
  to : ∀ (s : Shared) (a u : Value), BindsTo s fd ⟨[a], [(n, u)]⟩ (ps.zip [a, u])
theorem bindKw {K : PySem.W.Frag} {x qual n : Str} {params : Arguments} {body : List Stmt} {scope : Scope} {f : Addr} {fd : FuncData} {ps : List Str} {kws : List (Str × V)} (F : FunD K x qual params body scope [] kws f fd)
    (h : ∀ (kV doc pm : Value) (an : Option Addr) (cdv ct a u : Value), bindArgs (PySem.W.fnOf x qual params body scope .none kV doc pm an cdv ct) ⟨[a], [(n, u)]⟩ = pure (ps.zip [a, u])) : KBd fd ps n := by
  obtain ⟨oc, od, dV, kV, doc, pm, an, cdv, ct, osl, e0, lk, hcd, hD, hK⟩ := F.ex
  subst e0
  rcases hD with ⟨_, e1⟩ | ⟨e1, _⟩
  · subst e1
    exact ⟨fun s a u => .of_eq (h kV doc pm an cdv ct a u)⟩
  · exact absurd rfl e1
def kMkX (C : Addr) (n : Str) (vs : List V) (H1 : Hp) (Q : VK) : Prop := ∃ y, vs = [y] ∧ ∀ a d, H1 a = none → H1 d = none → d ≠ a → Q (.ref a) (upd (upd H1 d (exd d [(n, y)])) a (exo a C (some d)))
/-- C(e), C(n = e): an error of an own class, kept as a value -/
def tMkX (C : Addr) (n : Str) (ta : TA) : TE := fun σ H Q => ta σ H fun vs H1 => kMkX C n vs H1 Q
section
variable {X : Cx} {pins : List (Addr × Obj)} {σ : L2.St} {H : Hp} {s : Shared} {C fI : Addr} {n x : Str} {B newId initId : String} {bmB : List Value} {k : Nat} {fdI : FuncData} {ps : List Str} {p pos kpos : Pos} {e : Expr} {ta : TA}
theorem runX {us : List Value} {kv : List (Str × Value)} {y : V} {u : Value} {Q : VK} (FB : ExcBaseFacts B newId initId bmB) (T : ExB B newId bmB X.K C fI n) (F1 : FnOk X.prog X.w X.K X.mg X.base CX0 k fI fdI ps (spInit C n))
    (hr : Room (k + 1) X.A) (I1 : Inv X pins σ H s) (ry : RelV y u) (few : us.length ≤ 1)
    (bnd : ∀ (s : Shared) (a : Addr), X.K.In s.heap → BindsTo s fdI ⟨.ref a :: us, kv⟩ (ps.zip [.ref a, u])) (hc : (us = [u] ∧ kv = []) ∨ (us = [] ∧ kv = [(n, u)]))
    (q : ∀ a d, H a = none → H d = none → d ≠ a → Q (.ref a) (upd (upd H d (exd d [(n, y)])) a (exo a C (some d)))) :
    wpAny (model X.prog X.w) X.A (call (.ref C) us kv) (EP X pins σ Q) X.xe s := by
  obtain ⟨nm, q0, N, bs, bm, sn, sub, ab, col, dd, k0, k1, k2, k3, k5, hC, tl⟩ := T.cls
  obtain ⟨hp, g, dr, tk, os⟩ := s
  have up : hp.objs.size ≤ hp.objs.size + 1 := Nat.le_succ _
  have fr : H (hp.objs.size + 1) = none := I1.hok.fresh up
  have made : ∀ b o, hp.get? b = some o → ((hp.push (PySem.W.kdv_tup us)).push (PySem.HandSPX.excO C hp.objs.size)).get? b = some o := fun b o z =>
    Heap.get?_push_of_some _ (Heap.get?_push_of_some _ z)
  have there : ((hp.push (PySem.W.kdv_tup us)).push (PySem.HandSPX.excO C hp.objs.size)).get? (hp.objs.size + 1) = some (PySem.HandSPX.excO C hp.objs.size) := by
    heap_get
  have J : Inv X pins σ (upd H (hp.objs.size + 1) (exo (hp.objs.size + 1) C none)) ⟨(hp.push (PySem.W.kdv_tup us)).push (PySem.HandSPX.excO C hp.objs.size), g, dr, tk, os⟩ :=
    I1.laid (t' := tk) made up (exo_ok there)
  have sp1 : spInit C n [.ref (hp.objs.size + 1), y] (upd H (hp.objs.size + 1) (exo (hp.objs.size + 1) C none)) (fun v H2 => v = .non ∧ Q (.ref (hp.objs.size + 1)) H2) (fun _ _ _ => False) := by
    refine ⟨hp.objs.size + 1, y, rfl, upd_same, fun dx hd ne => ⟨rfl, ?_⟩⟩
    have hd2 : H dx = none := by
      rw [upd_ne ne] at hd
      exact hd
    have e0 : upd (upd (upd H (hp.objs.size + 1) (exo (hp.objs.size + 1) C none)) dx (exd dx [(n, y)])) (hp.objs.size + 1) (exo (hp.objs.size + 1) C (some dx)) = upd (upd H dx (exd dx [(n, y)])) (hp.objs.size + 1) (exo (hp.objs.size + 1) C (some dx)) := by
      funext b
      by_cases h1 : b = hp.objs.size + 1
      · rw [h1, upd_same, upd_same]
      · rw [upd_ne h1, upd_ne h1]
        by_cases h2 : b = dx
        · rw [h2, upd_same, upd_same]
        · rw [upd_ne h2, upd_ne h2, upd_ne h1]
    rw [e0]
    exact q _ dx fr hd2 ne
  have rv : Vals [V.ref (hp.objs.size + 1), y] [Value.ref (hp.objs.size + 1), u] := .cons rfl (.cons ry .nil)
  have hus : us.length ≤ sizeLine := by
    rw [sizeLine_eq]
    omega
  have back : codeAny (model X.prog X.w) (X.A.under (.builtin "type.__call__" ⟨.ref C :: us, kv⟩)) (.call (.ref fI) ⟨.ref (hp.objs.size + 1) :: us, kv⟩)
      (PySem.W.InitBack (hp.objs.size + 1) fun r s' => match r with
        | .ok (.ret v) => EP X pins σ Q v s'
        | .ok _ => False
        | .error er => X.xe er s') ⟨(hp.push (PySem.W.kdv_tup us)).push (PySem.HandSPX.excO C hp.objs.size), g, dr, tk, os⟩ := by
    refine codeAny_mono (F1.run _ X.stack _ _ ⟨Value.ref (hp.objs.size + 1) :: us, kv⟩ _ _ _ (fun _ _ _ => False) (hr.make C us kv) (J.env0.make C us kv) (bnd _ _ J.kIn) rv sp1) ?_
    intro r s' h'
    cases r with
    | error er => exact h'.elim
    | ok fl => cases fl with
      | next => exact False.elim h'
      | brk => exact False.elim h'
      | cont => exact False.elim h'
      | ret v0 =>
        obtain ⟨v, H', I3, rv3, ev, q3⟩ := J.after h'
        subst ev
        exact ⟨rv3, ⟨V.ref (hp.objs.size + 1), H', I3, rfl, q3⟩⟩
  apply wpAny_call
  rcases hc with ⟨rfl, rfl⟩ | ⟨rfl, rfl⟩
  · exact PySem.HandSPX.call_own FB (fun Y => PySem.W.excTail_contains Y bm tl) (I1.kIn _ _ hC) (PySem.W.looks_findIn I1.kIn T.iC) (fun self => PySem.W.bind_fn I1.kIn self T.tI) hus back
  · exact PySem.GLX.callOwnK FB (fun Y => PySem.W.excTail_contains Y bm tl) (I1.kIn _ _ hC) (PySem.W.looks_findIn I1.kIn T.iC) (fun self => PySem.W.bind_fn I1.kIn self T.tI) hus back
end
end GL
namespace GL
open PySem PySem.Spec L2
open PyProof.Rows hiding St
section
variable {X : Cx} {C fI : Addr} {n x : Str} {B newId initId : String} {bmB : List Value} {k : Nat} {fdI : FuncData} {ps : List Str} {p pos kpos : Pos} {e : Expr} {ta : TA} {te : TE}
/-- C(e) -/
theorem g_mkX (FB : ExcBaseFacts B newId initId bmB) (T : ExB B newId bmB X.K C fI n) (F1 : FnOk X.prog X.w X.K X.mg X.base CX0 k fI fdI ps (spInit C n)) (hr : Room (k + 1) X.A) (hb : Binds X.K fdI ps []) (hg : Gl X x) (hm : X.mg x = some (.ref C)) (ha : PA X [e] ta) (h2 : ps.length = 2 := by rfl)
    (hdb : (x == ("__debug__" : Str)) = false := by decide) (he : starEach [e] X.env = (false, eval e X.env) :: starEach [] X.env := by rfl) (hpl : (backTo pos (starEach [] X.env)).any (·.1) = false := by rfl) :
    PE X (.Call (.Name x p) [e] [] pos) (tMkX C n ta) := by
  refine ⟨fun pins s σ H Q I h => ?_⟩
  apply wpAny_Call_Name_kw
  apply ld_glob I hg hm _ hdb
  apply PySem.W.callWith_K (h₀ := X.base) I.ok.mod.kin T.kC _ he hpl
  apply thn (ha.run pos pins s σ H _ I h)
  rintro us s1 ⟨vs, H1, I1, r1, y, rfl, q1⟩
  obtain ⟨u, rfl, ru⟩ := vals1 r1
  refine ⟨I1.kIn, ?_⟩
  refine runX FB T F1 hr I1 ru (Nat.le_refl 1) (fun s2 a kI => ?_) (.inl ⟨rfl, rfl⟩) q1
  have z := hb s2 [.ref a, u] kI (by rw [List.append_nil]; exact h2.symm)
  rw [List.append_nil] at z
  exact z
/-- C(n = e) -/
theorem g_mkXK (FB : ExcBaseFacts B newId initId bmB) (T : ExB B newId bmB X.K C fI n) (F1 : FnOk X.prog X.w X.K X.mg X.base CX0 k fI fdI ps (spInit C n)) (hr : Room (k + 1) X.A) (hb : KBd fdI ps n) (hg : Gl X x) (hm : X.mg x = some (.ref C)) (ha : PE X e te)
    (hdb : (x == ("__debug__" : Str)) = false := by decide) (hall : (backToKw pos (keywordEach [⟨some n, e, kpos⟩] X.env)).all (·.1.isSome) = true := by rfl) (hks : (backToKw pos (keywordEach [⟨some n, e, kpos⟩] X.env)).filterMap (·.1) = [n] := by rfl)
    (hpl : ((backTo pos (starEach [] X.env)).any (·.1) || (backToKw pos (keywordEach [⟨some n, e, kpos⟩] X.env)).any (·.1.isNone)) = false := by rfl) :
    PE X (.Call (.Name x p) [] [⟨some n, e, kpos⟩] pos) (tMkX C n (tCons te tNil)) := by
  refine ⟨fun pins s σ H Q I h => ?_⟩
  apply wpAny_Call_Name_kw
  apply ld_glob I hg hm _ hdb
  refine PySem.W.callWith_KW0 (h₀ := X.base) I.ok.mod.kin T.kC hall (thn ((pk_cons ha pk_nil).run pos pins s σ H _ I h) fun ws s1 ⟨vs, H1, I1, r1, y, e1, q1⟩ => ?_) hpl
  subst e1
  obtain ⟨u, rfl, ru⟩ := vals1 r1
  refine ⟨I1.kIn, ?_⟩
  rw [hks]
  exact runX (kv := [(n, u)]) FB T F1 hr I1 ru (Nat.zero_le 1) (fun s2 a _ => hb.to s2 (.ref a) u) (.inr ⟨rfl, rfl⟩) q1
end
end GL
namespace GL
open PySem PySem.Spec L2
open PyProof.Rows hiding St
/-- C(), a class without an __init__ of its own, kept as a value -/
def tMk0 (C : Addr) : TE := fun _ H Q => ∀ a, H a = none → Q (.ref a) (upd H a (ExO (.ref C) a))
theorem g_mk0 {X : Cx} {C : Addr} {bmB : List Value} {B newId initId : String} {x : Str} {p pos : Pos} (FB : ExcBaseFacts B newId initId bmB) (qC : PySem.W.excIn X.K C bmB newId = true) (hg : Gl X x) (hm : X.mg x = some (.ref C)) (kC : PySem.W.keepIn X.K (.ref C) = true)
    (hdb : (x == ("__debug__" : Str)) = false := by decide) : PE X (.Call (.Name x p) [] [] pos) (tMk0 C) := by
  refine ⟨fun pins s σ H Q I h => ?_⟩
  apply wpAny_Call_Name_kw
  apply ld_glob I hg hm _ hdb
  apply PySem.W.callWith_K0 I.kIn kC
  show wpAny _ _ (call (.ref C) []) _ _ _
  obtain ⟨bm, N, nm, qn, bs, hdct, sn, sub, ab, col, dd, k0, k1, k2, k3, k5, mN, hC, hN, hni, T⟩ := exc_obj I.kIn qC
  apply wpAny_call_exc_subT FB T hC hN hni
  · intro h' a hm'
    have hn : H a = none :=
      I.hok.gone hm'.new
    obtain ⟨t, ht, _, _⟩ := hm'.there
    exact ⟨.ref a, upd H a (ExO (.ref C) a), I.laidN hm'.keeps hm'.new hn (exO_ok ht ⟨rfl, rfl⟩ rfl rfl rfl (show 4 < 6 by decide)), rfl, h a hn⟩
/-- an error that is kept: of the class C -/
def ExAt (H : Hp) (a C : Addr) : Prop := (∃ d fs, H a = some (exo a C (some d)) ∧ H d = some (exd d fs)) ∨ H a = some (ExO (.ref C) a)
def rIsE (K : PySem.W.Frag) : List V → Hp → VK → Prop := fun xs H Q => ∃ (a C : Addr) (c : V) (u : Value) (b : Bool), xs = [.ref a, c] ∧ ClsV c u ∧ ExAt H a C ∧ ExcC K C ∧ PySem.W.kitOne K (.ref C) u = some b ∧ Q (.bl b) H
theorem call_isE {X : Cx} : CallR X (.builtin "isinstance") (rIsE X.K) := by
  intro pins s σ H xs us Q I r h
  obtain ⟨a, C, c, u, b, rfl, k, hx, T, e, q⟩ := h
  obtain ⟨u1, u2, rfl, r1, r2⟩ := vals2 r
  have e2 := k.eq r2
  subst e2
  obtain rfl : u1 = Value.ref a := r1
  have J : ∃ oe od, PySem.W.InstAt s.heap a oe C od := by
    rcases hx with ⟨d, fs, h1, h2⟩ | h1
    · obtain ⟨t1, at1⟩ := exo_at I.hok h1
      obtain ⟨mA, hns, _⟩ := exd_at I.hok h2
      obtain ⟨od, ho, _⟩ := lookIn_ns hns
      exact ⟨_, some od, at1, rfl, rfl, ho⟩
    · obtain ⟨⟨oe, vs, at1, hz, hd, _⟩, _, _⟩ := I.hok a _ h1
      refine ⟨oe, none, at1, hz.1, ?_, ?_⟩
      · unfold PySem.W.notCls
        rw [hd] <;> rfl
      · rw [hz.2]
        trivial
  obtain ⟨oe, od, J⟩ := J
  exact PySem.W.kia_one (PySem.W.kit_exc T) I.kIn J e (fun z => nomatch z) fun tk => ⟨.bl b, H, I.tok tk, rfl, q⟩
/-- e.n, e an error that is kept -/
def kFldE (K : PySem.W.Frag) (n : Str) (x : V) (H1 : Hp) (Q : VK) : Prop := ∃ (a d C : Addr) (fs : List (Str × V)) (v : V), x = .ref a ∧ H1 a = some (exo a C (some d)) ∧ H1 d = some (exd d fs) ∧ fs.lookup n = some v ∧ XfC K C ∧ PySem.W.findIn K (.ref C) n = some none ∧ Q v H1
def tFldE (K : PySem.W.Frag) (n : Str) (te : TE) : TE := fun σ H Q => te σ H fun x H1 => kFldE K n x H1 Q
theorem pe_fldE {X : Cx} {e : Expr} {te : TE} {pos : Pos} {n : Str} (he : PE X e te) (hb : attributeBase e n X.env (eval e X.env) = eval e X.env := by rfl) : PE X (.Attribute e n pos) (tFldE X.K n te) := by
  refine ⟨fun pins s σ H Q I h => ?_⟩
  apply attr_of hb
  apply thn (he.run pins s σ H _ I h)
  rintro u s1 ⟨x, H1, I1, rx, a, d, C, fs, v, rfl, h1, h2, l, T, hno, q⟩
  obtain rfl : u = Value.ref a := rx
  obtain ⟨t1, at1⟩ := exo_at I1.hok h1
  obtain ⟨mA, hns, hr⟩ := exd_at I1.hok h2
  obtain ⟨od, ho, hl⟩ := lookIn_ns hns
  obtain ⟨u, hu, ru⟩ := RelO.some_of (v := v) (o := mA n) (by rw [← l]; exact hr n)
  have J : PySem.W.InstAt s1.heap a _ C (some od) :=
    ⟨at1, rfl, rfl, ho⟩
  exact HandSPX.exc_get I1.kIn J T.ga T.gg T.exC (PySem.W.findObj_own T.hdC hno rfl (by rw [hl, hu])) (handed_of ru) ⟨v, H1, I1.tok _, ru, q⟩
end GL
namespace GL
open PySem PySem.Spec L2
def gAbs : List V → Hp → VK → Prop := fun xs H Q =>
  ∃ i : Int, xs = [.int i] ∧ Q (.int (if i < 0 then -i else i)) H
end GL
namespace GL
open PySem PySem.Spec L2
open PyProof.Rows hiding St
section
variable {K : PySem.W.Frag} {D0 : Hp} {R : Res} {l : List (V × PyData)} {Q : VK} {σ : L2.St}
theorem d_tMkX {C : Addr} {n : Str} {ta : TA} (k : RD K D0 R l (fun H => ta σ H fun vs H1 => kMkX C n vs H1 Q)) : RD K D0 R l (fun H => tMkX C n ta σ H Q) := k
theorem d_tFldE {n : Str} {te : TE} (k : RD K D0 R l (fun H => te σ H fun x H1 => kFldE K n x H1 Q)) : RD K D0 R l (fun H => tFldE K n te σ H Q) := k
end
end GL

/-! G18: derived rules for a list that may change: in, len, sorted, pop; list + list; a, b = (x, y) of anything. -/
namespace GL
open PySem PySem.Spec L2
open PyProof.Rows hiding St
open PySem.W (AllAlike Sortable dataLe)
section
variable {K : PySem.W.Frag} {D0 : Hp} {R : Res} {l : List (V × PyData)} {σ : L2.St} {D : Ends} {Q : VK}
theorem At.ownDt {N : Addr → Prop} {H : Hp} {a : Addr} {ds : List PyData} (A : At K D0 (star (own K a ds) R) l N H) : Dt K H (.ref a) (.list ds) := by
  obtain ⟨xs, hx, hd⟩ := A.ownAt
  exact .lst hx (hd.mono off_same)
theorem d_inO {neg : Bool} {x : V} {a : Addr} {d : PyData} {ds : List PyData} (hx : InL l x d) (dp : d.depth ≤ 60) (k : RD K D0 (star (own K a ds) R) l (Q (.bl (if neg = true then !(ds.any fun e => PyData.eqv e d) else ds.any fun e => PyData.eqv e d)))) :
    RD K D0 (star (own K a ds) R) l (fun H => gIn K neg x (.ref a) H Q) := fun N H A => by
  cases neg with
  | false => exact .inl ⟨d, ds, A.dH hx, .inl A.ownDt, dp, k N H A⟩
  | true => exact .inl ⟨d, ds, A.dH hx, .inl A.ownDt, dp, k N H A⟩
theorem d_lenO {a : Addr} {ds : List PyData} (k : RD K D0 (star (own K a ds) R) l (Q (.int (ds.length : Nat)))) : RD K D0 (star (own K a ds) R) l (fun H => gLen K [.ref a] H Q) := fun N H A => by
  obtain ⟨xs, hx, hd⟩ := A.ownAt
  exact ⟨.ref a, ds.length, rfl, .inl ⟨xs, SqL.of hx, hd.len.symm⟩, k N H A⟩
theorem d_catL {x y : V} {ds es : List PyData} (hx : InL l x (.list ds)) (hy : InL l y (.list es)) (hz : ds.length + es.length ≤ sizeLine) (k : ∀ v, RD K D0 R ((v, .list (ds ++ es)) :: l) (Q v)) : RD K D0 R l (fun H => gAdd K x y H Q) := fun N H A => by
  obtain ⟨a, xs, rfl, ha, hd⟩ := (A.dt hx).list
  obtain ⟨b, ys, rfl, hb, he⟩ := (A.dt hy).list
  refine .inr (.inr (.inl ⟨a, b, xs, ys, rfl, rfl, off_same a _ ha, off_same b _ hb, by rw [hd.len, he.len]; exact hz, fun p hp => ?_⟩))
  obtain ⟨A', e⟩ := A.new (.lst (xs ++ ys)) hp
  have h1 := (A'.dt hx)
  have h2 := (A'.dt hy)
  obtain ⟨a', xs', e1, ha', hd'⟩ := h1.list
  obtain ⟨b', ys', e2, hb', he'⟩ := h2.list
  cases e1
  cases e2
  have x1 : xs' = xs := by
    have q := off_same a _ ha'
    rw [upd_ne (ne_of_none (off_same a _ ha) hp), off_same a _ ha] at q
    cases q
    rfl
  have y1 : ys' = ys := by
    have q := off_same b _ hb'
    rw [upd_ne (ne_of_none (off_same b _ hb) hp), off_same b _ hb] at q
    cases q
    rfl
  subst x1 y1
  exact k _ N _ (A'.facts (.lst e (hd'.append he')))
theorem d_tupPar {u v : V} {g : TGs} {Qn : L2.St → Hp → Prop} (k : RD K D0 R l (fun H => g [u, v] σ H Qn)) : RD K D0 R l (fun H => kTup [u, v] H fun x H1 => gTup K 2 g x σ H1 Qn) := fun N H A => by
  refine ⟨show 2 ≤ sizeLine by decide, fun p hp => ⟨p, [u, v], rfl, .inl (.inl upd_same), rfl, ?_⟩⟩
  obtain ⟨A', _⟩ := A.new (.tup [u, v]) hp
  exact k N _ A'
theorem d_popO {a : Addr} {ds : List PyData} {i : Nat} {d : PyData} (hi : ds[i]? = some d) (hz : ds.length < 2 ^ 63) (k : ∀ v, Dv v d → RD K D0 (star (own K a (ds.eraseIdx i)) R) ((v, d) :: l) (Q v)) :
    RD K D0 (star (own K a ds) R) l (fun H => rPopAt (.ref a) [.int i] H Q) := fun N H A => by
  obtain ⟨xs, hx, hd⟩ := A.ownAt
  obtain ⟨v, hv, dv⟩ := hd.at hi
  have lt := (List.getElem?_eq_some_iff.1 hi).1
  have lx : xs.length = ds.length := hd.len
  refine ⟨a, xs, i, i, v, rfl, rfl, hx, by omega, by omega, ?_, hv, ?_⟩
  · unfold seqIndex?
    have h1 : ¬ ((i : Int) < 0) := by omega
    rw [if_neg h1]
    have h2 : (decide (0 ≤ (i : Int)) && decide ((i : Int) < (xs.length : Int))) = true := by
      rw [decide_eq_true (show 0 ≤ (i : Int) by omega), decide_eq_true (show (i : Int) < (xs.length : Int) by omega)]
      rfl
    rw [if_pos h2]
    rfl
  · have A1 := (A.facts dv).setOwn (es := ds.eraseIdx i) (ys := xs.eraseIdx i) (hd.erase i)
    exact k v dv.dv _ _ A1
theorem RD.third {A B C S : Res} {T : Hp → Prop} (k : RD K D0 (star C (star A (star B S))) l T) : RD K D0 (star A (star B (star C S))) l T := RD.res (S := star C (star A (star B S))) (fun h => by
  obtain ⟨N1, N2, e, dj, h1, h2⟩ := h
  exact star_swap ⟨N1, N2, e, dj, h1, star_swap h2⟩) k
theorem RD.back {A B C S : Res} {T : Hp → Prop} (k : RD K D0 (star A (star B (star C S))) l T) : RD K D0 (star C (star A (star B S))) l T := RD.res (S := star A (star B (star C S))) (fun h => by
  obtain ⟨N1, N2, e, dj, h1, h2⟩ := star_swap h
  exact ⟨N1, N2, e, dj, h1, star_swap h2⟩) k
theorem d_lcList {v : V} {ds : List PyData} {g : TG} {tt : TT} {te : TE} {vs : List Nat} (hv : InL l v (.list ds)) (P : Nat → Res → List (V × PyData) → List PyData → Prop) (hkeep : ∀ i R' l' es, P i R' l' es → InL l' v (.list ds)) (h0 : P 0 R l [])
    (hs : ∀ i d x D R' l' es, ds[i]? = some d → Dv x d → P i R' l' es → RD K D0 (star (own K D es) R') ((x, d) :: l') (fun H => g x (wipe σ vs) H fun σ2 H2 => kWipe σ2 vs σ H2 fun H2 => tt σ2 H2 fun b H3 =>
      if b = true then te σ2 H3 fun y H4 => kItem D y H4 (ContC K D0 D (P (i + 1))) else ContC K D0 D (P (i + 1)) H3))
    (hd : ∀ v R' l' es, P ds.length R' l' es → RD K D0 R' ((v, .list es) :: l') (Q v)) :
    RD K D0 R l (fun H => wIt K v H fun J H1 => LcK g tt te vs σ Q J H1) := fun N H A => by
  obtain ⟨a, xs, rfl, ha, hd0⟩ := (A.dt hv).list
  have hl : ∀ {i D R' l' es N' H'}, P i R' l' es → At K D0 (star (own K D es) R') l' N' H' → ∃ xs', SqL K H' a xs' ∧ DtAll K (off H' N') xs' ds := fun p A' => by
    obtain ⟨a', xs', e, h', d'⟩ := (A'.dt (hkeep _ _ _ _ p)).list
    cases e
    exact ⟨xs', SqL.of (off_same a _ h'), d'⟩
  refine .inl ⟨a, rfl, ⟨xs, SqL.of (off_same a _ ha)⟩, fun D hD => ⟨fun i m H => m = ds.length - i ∧ i ≤ ds.length ∧ ContC K D0 D (P i) H, ⟨_, rfl, Nat.zero_le _, R, l, [], _, h0, A.newOwn hD .nil⟩, ?_⟩⟩
  rintro i m H' ⟨rfl, hi, R', l', es, N', p, A'⟩
  obtain ⟨xs', hq, d'⟩ := hl p A'
  by_cases hlt : i < ds.length
  · have hx : i < xs'.length := by rw [d'.len]; exact hlt
    refine .inr ⟨⟨xs', xs'[i], hq, by simp [hx]⟩, ContC K D0 D (P (i + 1)), fun H2 p => ⟨ds.length - (i + 1), by omega, rfl, hlt, p⟩, ?_⟩
    rintro x H2 ⟨rfl, hy⟩
    obtain ⟨d, e1, e2⟩ := d'.get (hy xs' hq)
    exact hs i d x D R' l' es e1 e2.dv p N' _ (A'.facts e2)
  · have e : i = ds.length := by omega
    subst e
    obtain ⟨N2, A2⟩ := A'.freeze
    exact .inl ⟨⟨xs', hq, by rw [d'.len]; exact Nat.le_refl _⟩, hd (.ref D) R' l' es p N2 H' A2⟩
end
end GL

/-! I1: is_log: all of a comprehension. -/
namespace GL
open PySem PySem.Spec L2
open PyProof.Rows hiding St
open SX (S)
local macro_rules | `(tactic| walk_at "mem") => `(tactic| (first | exact List.Mem.head _ | exact List.Mem.tail _ (List.Mem.head _) | exact List.Mem.tail _ (List.Mem.tail _ (List.Mem.head _)) | ((repeat (first | exact List.Mem.head _ | apply List.Mem.tail)); done)))
local macro_rules | `(tactic| walk_at "inl") => `(tactic| (first | exact InL.int _ | exact InL.str _ | exact InL.bl _ | exact InL.non | (refine InL.mem ?zm; walk_at "mem") | assumption))
local macro_rules | `(tactic| walk_at "inls") => `(tactic| (repeat (first | exact InLs.nil | (refine InLs.cons ?zi ?_; case zi => walk_at "inl"))))
local macro_rules | `(tactic| walk_at "set") => `(tactic| (simp only [wipe, List.set_cons_succ, List.set_cons_zero]; rfl))
local macro_rules | `(tactic| walk_at "tails") => `(tactic| (first | exact sub_refl | exact sub_tail sub_refl | exact sub_tail (sub_tail sub_refl) | exact sub_nil | ((repeat (first | exact sub_refl | apply sub_tail)); done)))
local macro_rules | `(tactic| walk_at "sub") => `(tactic| (first | walk_at "tails" | ((repeat (refine sub_cons ?zi ?_; case zi => walk_at "inl")); walk_at "tails")))
local macro_rules | `(tactic| walk_at "g1") => `(tactic| (first
  | with_reducible refine d_seq ?_
  | with_reducible refine d_asg ?_
  | ((with_reducible refine d_name (σ' := ?zs) ?zh ?_); (case zh => walk_at "set"))
  | ((with_reducible refine d_var (v := ?zs) ?zh ?_); (case zh => rfl))
  | with_reducible refine d_C ?_
  | with_reducible refine d_op ?_
  | with_reducible refine d_cons ?_
  | with_reducible refine d_nil ?_
  | with_reducible refine d_cb ?_
  | with_reducible refine d_g ?_
  | with_reducible refine d_ifS ?_
  | with_reducible refine d_test ?_
  | with_reducible refine d_bl ?_
  | with_reducible refine d_addI ?_
  | with_reducible refine d_I0 ?_
  | with_reducible refine d_ret ?_
  | with_reducible refine d_retN ?_
  | with_reducible refine d_next ?_
  | with_reducible refine d_drop ?_
  | with_reducible refine d_and ?_
  | with_reducible refine d_or ?_
  | with_reducible refine d_not ?_
  | with_reducible refine d_andV ?_
  | with_reducible refine d_orV ?_
  | with_reducible refine d_notV ?_
  | with_reducible refine d_tru ?_
  | with_reducible refine d_truB ?_
  | with_reducible refine d_tif ?_
  | with_reducible refine d_iteT ?_
  | with_reducible refine d_iteF ?_
  | with_reducible refine d_iteNT ?_
  | with_reducible refine d_iteNF ?_
  | with_reducible refine d_eqI ?_
  | with_reducible refine d_neI ?_
  | with_reducible refine d_eqS ?_
  | with_reducible refine d_neS ?_
  | with_reducible refine d_eqB ?_
  | with_reducible refine d_neB ?_
  | with_reducible refine d_isN ?_
  | with_reducible refine d_notN ?_
  | with_reducible refine d_bm ?_
  | with_reducible refine d_tyS ?_
  | with_reducible refine d_tyO ?_
  | with_reducible refine d_find3 ?_
  | with_reducible refine d_tup ?_
  | with_reducible refine d_lst ?_
  | with_reducible refine d_for ?_
  | with_reducible refine d_iRng1 ?_
  | with_reducible refine d_gIt ?_
  | with_reducible refine d_lc ?_
  | with_reducible refine d_yes ?_
  | with_reducible refine d_tSl ?_
  | with_reducible refine d_noPart ?_
  | with_reducible refine d_part ?_
  | with_reducible refine d_int ?_
  | ((with_reducible refine d_wipe ?zh ?_); (case zh => rfl))
  | ((with_reducible refine d_aug (v := ?zs) ?zh ?_); (case zh => rfl))
  | with_reducible refine d_ipI ?_
  | ((with_reducible refine d_set (σ' := ?zs) ?zh ?_); (case zh => walk_at "set"))))
local macro_rules | `(tactic| walk_at "go") => `(tactic| (repeat walk_at "g1"))
def goodB (cs : List Nat) (k : Nat) : Bool := cs.all fun c => decide (c ∈ ([97, 98, 99] : List Nat).take k)
theorem goodB_iff {cs : List Nat} {k : Nat} : goodB cs k = true ↔ ∀ c ∈ cs, c ∈ ([97, 98, 99] : List Nat).take k := by
  simp [goodB]
def notStrT : List String := ["NoneType", "int", "bool", "tuple", "list", "dict"]
theorem notStr {K : PySem.W.Frag} {t : String} (h : t ∈ notStrT) : PySem.W.kitOne K (.type t) (.type "str") = some false := by
  simp only [notStrT, List.mem_cons, List.not_mem_nil, or_false] at h
  rcases h with rfl | rfl | rfl | rfl | rfl | rfl <;> rfl
def sp_is_log (K : PySem.W.Frag) : Sp := fun vs H Q E => ∃ (v : V) (k : Nat) (D0 : Hp) (F : Res) (l : List (V × PyData)) (N : Addr → Prop), vs = [v, .int k] ∧ At K D0 F l N H ∧
  ((∃ cs : List Nat, v = .str (S cs) ∧ cs.length ≤ 1000000 ∧ RD K D0 F l (Q (.bl (goodB cs k)))) ∨
   (∃ t, t ∈ notStrT ∧ (∀ (N : Addr → Prop) (H : Hp), At K D0 F l N H → TyX K H v (.type t)) ∧ RD K D0 F l (Q (.bl false))))
def t_is_log (K : PySem.W.Frag) (W : WX) : TS := (tRet (tAndV (tCB (rIsi K) (tCons (tVar 0) (tCons (tC (.ty "str")) tNil))) (tCB (rAll K) (tCons (tLc (gIt K (tVar 0)) (gName 2) tYes (tOp (gIn K false) (tVar 2) (tSl (gSl K) (tC (.str "abc")) tNoPart (tPart (tVar 1)))) [2]) tNil))))

section
variable {K : PySem.W.Frag} {W : WX} {D0 : Hp} {R : Res} {l : List (V × PyData)} {Q : VK} {vs : List V} {H : Hp} {E : XK}
theorem d_all {x : V} {bs : List Bool} (hx : InL l x (.list (bs.map .bool))) (k : RD K D0 R l (Q (.bl (bs.all id)))) : RD K D0 R l (fun H => L2.rAll K [x] H Q) := fun N H A => by
  obtain ⟨p, xs, rfl, hp, hd⟩ := (A.dt hx).list
  obtain rfl := hd.bls
  exact ⟨p, bs, rfl, SqL.of (off_same p _ hp), k N H A⟩
theorem len_is_log (h : sp_is_log K vs H Q E) : vs.length = 2 := by
  obtain ⟨_, _, _, _, _, _, rfl, _⟩ := h
  rfl
theorem pure_is_log (h : sp_is_log K vs H Q E) : t_is_log K W { nx := fun _ H' => Q .non H', rt := Q } (start ["value", "signs", "letter"] vs) H := by
  obtain ⟨v, k, D0, F, l, N, rfl, A, h⟩ := h
  refine (?_ : RD K D0 F l (fun H => t_is_log K W _ [some v, some (.int k), none] H)) N H A
  unfold t_is_log
  rcases h with ⟨cs, rfl, hl, kY⟩ | ⟨t, ht, hty, kN⟩
  · walk_at "go"
    refine d_isi (d := .str (S cs)) (InL.str _) (b := true) (fun t e => by subst e; rfl) ?_
    walk_at "go"
    refine d_lcStr (fun i R' l' es => R' = F ∧ l' = l ∧ es = (cs.take i).map fun c => PyData.bool (decide (c ∈ ([97, 98, 99] : List Nat).take k))) ⟨rfl, rfl, rfl⟩ ?_ ?_
    · rintro i c D R' l' es hc ⟨rfl, rfl, rfl⟩
      rw [S_tl] at hc
      have hi := (List.getElem?_eq_some_iff.1 hc).1
      walk_at "go"
      rw [abc_S]
      refine d_takeA (by decide) ?_
      refine d_inSg ?_
      rw [S_tl]
      refine d_item (l' := l') (d := .bool (decide (c ∈ ([97, 98, 99] : List Nat).take k))) (.bl _) ?_ ⟨rfl, rfl, ?_⟩ (by walk_at "sub")
      · rw [List.length_map, List.length_take]
        exact Nat.lt_of_lt_of_le (by omega) line_big
      · rw [List.take_succ, hc, List.map_append]; rfl
    · rintro v R' l' es ⟨rfl, rfl, rfl⟩
      rw [S_tl, List.take_length]
      refine d_all (bs := cs.map fun c => decide (c ∈ ([97, 98, 99] : List Nat).take k)) (.mem (by rw [List.map_map]; exact List.Mem.head _)) ?_
      have e : (cs.map fun c => decide (c ∈ ([97, 98, 99] : List Nat).take k)).all id = goodB cs k := by
        rw [List.all_map]; rfl
      rw [e]
      exact RD.forget kY
  · walk_at "go"
    refine d_ty hty (notStr ht) ?_
    walk_at "go"
    exact kN
theorem d_isLogS {cs : List Nat} {k : Nat} (hl : cs.length ≤ 1000000) (kk : RD K D0 R l (Q (.bl (goodB cs k)))) : RD K D0 R l (fun H => sp_is_log K [.str (S cs), .int k] H Q E) :=
  fun N H A => ⟨.str (S cs), k, D0, R, l, N, rfl, A, .inl ⟨cs, rfl, hl, kk⟩⟩
theorem d_isLogN {v : V} {t : String} {k : Nat} (ht : t ∈ notStrT) (hty : ∀ (N : Addr → Prop) (H : Hp), At K D0 R l N H → TyX K H v (.type t)) (kk : RD K D0 R l (Q (.bl false))) : RD K D0 R l (fun H => sp_is_log K [v, .int k] H Q E) :=
  fun N H A => ⟨v, k, D0, R, l, N, rfl, A, .inr ⟨t, ht, hty, kk⟩⟩
end
end GL

/-! I2: list comprehensions that leave all else as it was; any. -/
namespace GL
open PySem PySem.Spec L2
section
variable {K : PySem.W.Frag} {D0 : Hp} {R : Res} {l : List (V × PyData)} {σ : L2.St} {Q : VK}
/-! ### list comprehensions that leave the rest as it was: Pd tells of what is made so far -/
def Cont1 (K : PySem.W.Frag) (D0 : Hp) (R : Res) (l : List (V × PyData)) (Pd : List PyData → Prop) : Res → List (V × PyData) → List PyData → Prop := fun R' l' es => R' = R ∧ l' = l ∧ Pd es
theorem d_item1 {l0 : List (V × PyData)} {Dd : Addr} {es : List PyData} {y : V} {d : PyData} {Pd : List PyData → Prop} (hy : InL l y d) (hz : es.length < sizeLine) (h : Pd (es ++ [d])) (s : ∀ p ∈ l0, InL l p.1 p.2) :
    RD K D0 (star (own K Dd es) R) l (fun H => kItem Dd y H (ContC K D0 Dd (Cont1 K D0 R l0 Pd))) := d_item (P := Cont1 K D0 R l0 Pd) (l' := l0) hy hz ⟨rfl, rfl, h⟩ s
theorem d_noItem1 {l0 : List (V × PyData)} {Dd : Addr} {es : List PyData} {Pd : List PyData → Prop} (h : Pd es) (s : ∀ p ∈ l0, InL l p.1 p.2) : RD K D0 (star (own K Dd es) R) l (ContC K D0 Dd (Cont1 K D0 R l0 Pd)) := d_noItem (P := Cont1 K D0 R l0 Pd) (l' := l0) ⟨rfl, rfl, h⟩ s
theorem d_lcList1 {v : V} {ds : List PyData} {g : TG} {tt : TT} {te : TE} {vs : List Nat} (hv : InL l v (.list ds)) (Pd : Nat → List PyData → Prop) (h0 : Pd 0 [])
    (hs : ∀ i d x Dd es, ds[i]? = some d → Dv x d → Pd i es → RD K D0 (star (own K Dd es) R) ((x, d) :: l) (fun H => g x (wipe σ vs) H fun σ2 H2 => kWipe σ2 vs σ H2 fun H2 => tt σ2 H2 fun b H3 =>
      if b = true then te σ2 H3 fun y H4 => kItem Dd y H4 (ContC K D0 Dd (Cont1 K D0 R l (Pd (i + 1)))) else ContC K D0 Dd (Cont1 K D0 R l (Pd (i + 1))) H3))
    (hd : ∀ v es, Pd ds.length es → RD K D0 R ((v, .list es) :: l) (Q v)) : RD K D0 R l (fun H => wIt K v H fun J H1 => LcK g tt te vs σ Q J H1) :=
  d_lcList hv (fun i => Cont1 K D0 R l (Pd i)) (fun i R' l' es ⟨_, e, _⟩ => e ▸ hv) ⟨rfl, rfl, h0⟩ (fun i d x Dd R' l' es hdi dv ⟨e1, e2, p⟩ => by subst e1 e2; exact hs i d x Dd es hdi dv p) fun v R' l' es ⟨e1, e2, p⟩ => by subst e1 e2; exact hd v es p
theorem d_lcTup1 {v : V} {ds : List PyData} {g : TG} {tt : TT} {te : TE} {vs : List Nat} (hv : InL l v (.tuple ds)) (Pd : Nat → List PyData → Prop) (h0 : Pd 0 [])
    (hs : ∀ i d x Dd es, ds[i]? = some d → Dv x d → Pd i es → RD K D0 (star (own K Dd es) R) ((x, d) :: l) (fun H => g x (wipe σ vs) H fun σ2 H2 => kWipe σ2 vs σ H2 fun H2 => tt σ2 H2 fun b H3 =>
      if b = true then te σ2 H3 fun y H4 => kItem Dd y H4 (ContC K D0 Dd (Cont1 K D0 R l (Pd (i + 1)))) else ContC K D0 Dd (Cont1 K D0 R l (Pd (i + 1))) H3))
    (hd : ∀ v es, Pd ds.length es → RD K D0 R ((v, .list es) :: l) (Q v)) : RD K D0 R l (fun H => wIt K v H fun J H1 => LcK g tt te vs σ Q J H1) :=
  d_lcTup hv (fun i => Cont1 K D0 R l (Pd i)) (fun i R' l' es ⟨_, e, _⟩ => e ▸ hv) ⟨rfl, rfl, h0⟩ (fun i d x Dd R' l' es hdi dv ⟨e1, e2, p⟩ => by subst e1 e2; exact hs i d x Dd es hdi dv p) fun v R' l' es ⟨e1, e2, p⟩ => by subst e1 e2; exact hd v es p
theorem d_lcStr1 {x : Str} {g : TG} {tt : TT} {te : TE} {vs : List Nat} (Pd : Nat → List PyData → Prop) (h0 : Pd 0 [])
    (hs : ∀ i c Dd es, x.cps.toList[i]? = some c → Pd i es → RD K D0 (star (own K Dd es) R) l (fun H => g (.str ⟨#[c]⟩) (wipe σ vs) H fun σ2 H2 => kWipe σ2 vs σ H2 fun H2 => tt σ2 H2 fun b H3 =>
      if b = true then te σ2 H3 fun y H4 => kItem Dd y H4 (ContC K D0 Dd (Cont1 K D0 R l (Pd (i + 1)))) else ContC K D0 Dd (Cont1 K D0 R l (Pd (i + 1))) H3))
    (hd : ∀ v es, Pd x.cps.toList.length es → RD K D0 R ((v, .list es) :: l) (Q v)) : RD K D0 R l (fun H => wIt K (.str x) H fun J H1 => LcK g tt te vs σ Q J H1) :=
  d_lcStr (fun i => Cont1 K D0 R l (Pd i)) ⟨rfl, rfl, h0⟩ (fun i c Dd R' l' es hc ⟨e1, e2, p⟩ => by subst e1 e2; exact hs i c Dd es hc p) fun v R' l' es ⟨e1, e2, p⟩ => by subst e1 e2; exact hd v es p
theorem d_lcRange1 {lo : Int} {n : Nat} {g : TG} {tt : TT} {te : TE} {vs : List Nat} (Pd : Nat → List PyData → Prop) (h0 : Pd 0 [])
    (hs : ∀ i Dd es, i < n → Pd i es → RD K D0 (star (own K Dd es) R) l (fun H => g (.int (lo + i)) (wipe σ vs) H fun σ2 H2 => kWipe σ2 vs σ H2 fun H2 => tt σ2 H2 fun b H3 =>
      if b = true then te σ2 H3 fun y H4 => kItem Dd y H4 (ContC K D0 Dd (Cont1 K D0 R l (Pd (i + 1)))) else ContC K D0 Dd (Cont1 K D0 R l (Pd (i + 1))) H3))
    (hd : ∀ v es, Pd n es → RD K D0 R ((v, .list es) :: l) (Q v)) : RD K D0 R l (fun H => LcK g tt te vs σ Q (Itr lo n) H) :=
  d_lcRange (fun i => Cont1 K D0 R l (Pd i)) ⟨rfl, rfl, h0⟩ (fun i Dd R' l' es hi ⟨e1, e2, p⟩ => by subst e1 e2; exact hs i Dd es hi p) fun v R' l' es ⟨e1, e2, p⟩ => by subst e1 e2; exact hd v es p
theorem d_any {x : V} {bs : List Bool} (hx : InL l x (.list (bs.map .bool))) (k : RD K D0 R l (Q (.bl (bs.any id)))) : RD K D0 R l (fun H => L2.rAny K [x] H Q) := fun N H A => by
  obtain ⟨p, xs, rfl, hp, hd⟩ := (A.dt hx).list
  obtain rfl := hd.bls
  exact ⟨p, bs, rfl, SqL.of (off_same p _ hp), k N H A⟩
theorem DtAll.reverse {H : Hp} : ∀ {vs : List V} {ds : List PyData}, DtAll K H vs ds → DtAll K H vs.reverse ds.reverse
  | _, _, .nil => .nil
  | _, _, .cons h t => by
    rw [List.reverse_cons, List.reverse_cons]
    exact (DtAll.reverse t).append (.cons h .nil)
def kRevL (K : PySem.W.Frag) (x : V) (H1 : Hp) (Q : VK) : Prop := ∃ a xs, x = .ref a ∧ SqL K H1 a xs ∧ ∀ p, H1 p = none → Q (.ref p) (upd H1 p (.lst xs.reverse))
theorem d_revL {te : TE} (k : RD K D0 R l (fun H => te σ H fun x H1 => kRevL K x H1 Q)) : RD K D0 R l (fun H => tRevL K te σ H Q) := k
theorem d_kRevL {x : V} {ds : List PyData} (hx : InL l x (.list ds)) (k : ∀ v, RD K D0 R ((v, .list ds.reverse) :: l) (Q v)) : RD K D0 R l (fun H => kRevL K x H Q) := fun N H A => by
  obtain ⟨a, xs, rfl, ha, hd⟩ := (A.dt hx).list
  refine ⟨a, xs, rfl, SqL.of (off_same a _ ha), fun p hp => ?_⟩
  obtain ⟨A', e⟩ := A.new (.lst xs.reverse) hp
  obtain ⟨a', xs', e1, h', d'⟩ := (A'.dt hx).list
  cases e1
  have same : xs' = xs := by
    have h1 := off_same a _ h'
    have h2 := off_same a _ ha
    have ne : a ≠ p := fun z => by
      subst z
      rw [hp] at h2
      cases h2
    rw [upd_ne ne, h2] at h1
    cases h1
    rfl
  subst same
  exact k (.ref p) N _ (A'.facts (.lst e (DtAll.reverse d')))
theorem d_listL {x : V} {ds : List PyData} (hx : InL l x (.list ds)) (k : ∀ v, RD K D0 R ((v, .list ds) :: l) (Q v)) : RD K D0 R l (fun H => gListA K [x] H Q) := fun N H A => by
  obtain ⟨a, xs, rfl, ha, hd⟩ := (A.dt hx).list
  refine .inl ⟨a, xs, rfl, .inl (SqL.of (off_same a _ ha)), fun p hp => ?_⟩
  obtain ⟨A', e⟩ := A.new (.lst xs) hp
  obtain ⟨a', xs', e1, h', d'⟩ := (A'.dt hx).list
  cases e1
  have same : xs' = xs := by
    have h1 := off_same a _ h'
    have h2 := off_same a _ ha
    have ne : a ≠ p := fun z => by
      subst z
      rw [hp] at h2
      cases h2
    rw [upd_ne ne, h2] at h1
    cases h1
    rfl
  subst same
  exact k (.ref p) N _ (A'.facts (.lst e d'))
/-! ### unpacking tuples -/
theorem d_gTup2 {x : V} {d1 d2 : PyData} {g : TGs} {Qn : L2.St → Hp → Prop} (hx : InL l x (.tuple [d1, d2])) (k : ∀ v1 v2, Dv v1 d1 → Dv v2 d2 → RD K D0 R ((v1, d1) :: (v2, d2) :: l) (g [v1, v2] σ · Qn)) : RD K D0 R l (fun H => gTup K 2 g x σ H Qn) := fun N H A => by
  obtain ⟨a, xs, rfl, ha, hd⟩ := (A.dt hx).tuple
  cases hd with
  | cons e1 t => cases t with
    | cons e2 t =>
      cases t
      exact ⟨a, _, rfl, same_sqT off_same ha, rfl, k _ _ e1.dv e2.dv N H ((A.facts e2).facts e1)⟩
theorem d_gTup3 {x : V} {d1 d2 d3 : PyData} {g : TGs} {Qn : L2.St → Hp → Prop} (hx : InL l x (.tuple [d1, d2, d3])) (k : ∀ v1 v2 v3, Dv v1 d1 → Dv v2 d2 → Dv v3 d3 → RD K D0 R ((v1, d1) :: (v2, d2) :: (v3, d3) :: l) (g [v1, v2, v3] σ · Qn)) :
    RD K D0 R l (fun H => gTup K 3 g x σ H Qn) := fun N H A => by
  obtain ⟨a, xs, rfl, ha, hd⟩ := (A.dt hx).tuple
  cases hd with
  | cons e1 t => cases t with
    | cons e2 t => cases t with
      | cons e3 t =>
        cases t
        exact ⟨a, _, rfl, same_sqT off_same ha, rfl, k _ _ _ e1.dv e2.dv e3.dv N H (((A.facts e3).facts e2).facts e1)⟩
/-- an edge: int, text, int -/
theorem d_gEdge {x : V} {o t : Int} {s : Str} {g : TGs} {Qn : L2.St → Hp → Prop} (hx : InL l x (.tuple [.int o, .str s, .int t])) (k : RD K D0 R l (g [.int o, .str s, .int t] σ · Qn)) : RD K D0 R l (fun H => gTup K 3 g x σ H Qn) :=
  d_gTup3 hx fun v1 v2 v3 e1 e2 e3 => by
    cases e1; cases e2; cases e3
    refine RD.weak (fun p hp => ?_) k
    exact .mem (List.mem_cons_of_mem _ (List.mem_cons_of_mem _ (List.mem_cons_of_mem _ hp)))
theorem d_lcRangeO {lo : Int} {n : Nat} {g : TG} {tt : TT} {te : TE} {vs : List Nat} (P : Nat → Res → List (V × PyData) → List PyData → Prop) (h0 : P 0 R l [])
    (hs : ∀ i Dd R' l' es, i < n → P i R' l' es → RD K D0 (star (own K Dd es) R') l' (fun H => g (.int (lo + i)) (wipe σ vs) H fun σ2 H2 => kWipe σ2 vs σ H2 fun H2 => tt σ2 H2 fun b H3 =>
      if b = true then te σ2 H3 fun y H4 => kItem Dd y H4 (ContC K D0 Dd (P (i + 1))) else ContC K D0 Dd (P (i + 1)) H3))
    (hd : ∀ a R' l' es, P n R' l' es → RD K D0 (star (own K a es) R') l' (Q (.ref a))) : RD K D0 R l (fun H => LcK g tt te vs σ Q (Itr lo n) H) := fun N H A Dd hD => by
  refine lc_range (Qd := Q (.ref Dd)) (fun i => ContC K D0 Dd (P i)) ⟨R, l, [], _, h0, A.newOwn hD .nil⟩ ?_ ?_
  · rintro i H' hi ⟨R', l', es, N', p, A'⟩
    exact hs i Dd R' l' es hi p N' H' A'
  · rintro H' ⟨R', l', es, N', p, A'⟩
    exact hd Dd R' l' es p N' H' A'
theorem d_lcRangeO1 {lo : Int} {n : Nat} {g : TG} {tt : TT} {te : TE} {vs : List Nat} (Pd : Nat → List PyData → Prop) (h0 : Pd 0 [])
    (hs : ∀ i Dd es, i < n → Pd i es → RD K D0 (star (own K Dd es) R) l (fun H => g (.int (lo + i)) (wipe σ vs) H fun σ2 H2 => kWipe σ2 vs σ H2 fun H2 => tt σ2 H2 fun b H3 =>
      if b = true then te σ2 H3 fun y H4 => kItem Dd y H4 (ContC K D0 Dd (Cont1 K D0 R l (Pd (i + 1)))) else ContC K D0 Dd (Cont1 K D0 R l (Pd (i + 1))) H3))
    (hd : ∀ a es, Pd n es → RD K D0 (star (own K a es) R) l (Q (.ref a))) : RD K D0 R l (fun H => LcK g tt te vs σ Q (Itr lo n) H) :=
  d_lcRangeO (fun i => Cont1 K D0 R l (Pd i)) ⟨rfl, rfl, h0⟩ (fun i Dd R' l' es hi ⟨e1, e2, p⟩ => by subst e1 e2; exact hs i Dd es hi p) fun a R' l' es ⟨e1, e2, p⟩ => by subst e1 e2; exact hd a es p
end
end GL

/-! I3: data whose repr fits; ints in order. -/
namespace GL
open PySem PySem.Spec L2
open PyProof.Rows hiding St
open SX (S)
/-- repr fits: nested at most g deep, at most n signs and items -/
structure Fine (d : PyData) (g n : Nat) : Prop where
  s : d.showable = true
  dp : d.depth ≤ g
  lv : d.leavesShort 13 = true
  bk : d.bulk ≤ n
  nd : d.hasDict = false
structure Fines (ds : List PyData) (g n : Nat) : Prop where
  s : PyData.showableAll ds = true
  dp : PyData.depthAll ds ≤ g
  lv : PyData.leavesShortAll 13 ds = true
  bk : PyData.bulkAll ds ≤ n
  nd : PyData.hasDictAll ds = false
theorem Fine.weak {d : PyData} {g n g' n' : Nat} (h : Fine d g n) (h1 : g ≤ g') (h2 : n ≤ n') : Fine d g' n' := ⟨h.s, Nat.le_trans h.dp h1, h.lv, Nat.le_trans h.bk h2, h.nd⟩
theorem Fine.none : Fine .none 0 0 := ⟨rfl, Nat.le_refl _, rfl, Nat.le_refl _, rfl⟩
theorem Fine.bool (b : Bool) : Fine (.bool b) 0 0 := ⟨rfl, Nat.le_refl _, rfl, Nat.le_refl _, rfl⟩
theorem Fine.str {cs : List Nat} (h : ∀ c ∈ cs, c < 16 ^ 8) : Fine (.str (S cs)) 0 cs.length :=
  ⟨by simp only [PyData.showable], by simp only [PyData.depth]; exact Nat.le_refl _, by simpa [PyData.leavesShort] using h, by simp [PyData.bulk], by simp only [PyData.hasDict]⟩
def okInt (i : Int) : Bool := (PyData.int i).showable && (PyData.int i).leavesShort 13
theorem Fine.int0 {i : Int} (h : okInt i = true) : Fine (.int i) 0 0 := by
  unfold okInt at h
  rw [Bool.and_eq_true] at h
  exact ⟨h.1, by simp only [PyData.depth]; exact Nat.le_refl _, h.2, by simp only [PyData.bulk]; exact Nat.le_refl _, by simp only [PyData.hasDict]⟩
theorem okInt_small : ∀ n : Fin 1000, okInt ((n : Nat) : Int) = true := by decide +kernel
theorem Fine.int {n : Nat} (h : n < 1000) : Fine (.int (n : Int)) 0 0 := Fine.int0 (okInt_small ⟨n, h⟩)
def fineB (d : PyData) (g n : Nat) : Bool := d.showable && (decide (d.depth ≤ g) && (d.leavesShort 13 && (decide (d.bulk ≤ n) && !d.hasDict)))
theorem Fine.ofB {d : PyData} {g n : Nat} (h : fineB d g n = true) : Fine d g n := by
  unfold fineB at h
  simp only [Bool.and_eq_true, decide_eq_true_eq, Bool.not_eq_true'] at h
  exact ⟨h.1, h.2.1, h.2.2.1, h.2.2.2.1, h.2.2.2.2⟩
theorem Fine.okB {ds : List PyData} {g n : Nat} (h : (ds.all fun d => fineB d g n) = true) : ∀ d ∈ ds, Fine d g n := fun d hd => Fine.ofB (List.all_eq_true.1 h d hd)
theorem Fines.nil {g : Nat} : Fines [] g 0 := ⟨by simp only [PyData.showableAll], by simp only [PyData.depthAll]; exact Nat.zero_le _, by simp only [PyData.leavesShortAll], by simp only [PyData.bulkAll]; exact Nat.le_refl _, by simp only [PyData.hasDictAll]⟩
theorem Fines.cons {d : PyData} {ds : List PyData} {g n m : Nat} (h : Fine d g n) (t : Fines ds g m) : Fines (d :: ds) g (n + 1 + m) :=
  ⟨by simp only [PyData.showableAll, h.s, t.s, Bool.and_self], by simp only [PyData.depthAll]; exact Nat.max_le.2 ⟨h.dp, t.dp⟩, by simp only [PyData.leavesShortAll, h.lv, t.lv, Bool.and_self],
    by simp only [PyData.bulkAll]; have := h.bk; have := t.bk; omega, by simp only [PyData.hasDictAll, h.nd, t.nd, Bool.or_self]⟩
theorem Fines.weakN {ds : List PyData} {g n n' : Nat} (h : Fines ds g n) (h2 : n ≤ n') : Fines ds g n' := ⟨h.s, h.dp, h.lv, Nat.le_trans h.bk h2, h.nd⟩
theorem Fines.weak {ds : List PyData} {g n g' n' : Nat} (h : Fines ds g n) (h1 : g ≤ g') (h2 : n ≤ n') : Fines ds g' n' := ⟨h.s, Nat.le_trans h.dp h1, h.lv, Nat.le_trans h.bk h2, h.nd⟩
theorem Fines.of {g n : Nat} : ∀ {ds : List PyData}, (∀ d ∈ ds, Fine d g n) → Fines ds g (ds.length * (n + 1))
  | [], _ => ⟨(Fines.nil (g := g)).s, Fines.nil.dp, (Fines.nil (g := g)).lv, by simp [PyData.bulkAll], (Fines.nil (g := g)).nd⟩
  | d :: ds, h => by
    have t := Fines.of fun x hx => h x (List.mem_cons_of_mem _ hx)
    have c := Fines.cons (h d List.mem_cons_self) t
    rw [show (d :: ds).length * (n + 1) = n + 1 + ds.length * (n + 1) by rw [List.length_cons, Nat.add_mul]; omega]
    exact c
theorem Fines.tup {ds : List PyData} {g n : Nat} (h : Fines ds g n) : Fine (.tuple ds) (g + 1) n :=
  ⟨by simp only [PyData.showable]; exact h.s, by simp only [PyData.depth]; have := h.dp; omega, by simp only [PyData.leavesShort]; exact h.lv, by simp only [PyData.bulk]; exact h.bk, by simp only [PyData.hasDict]; exact h.nd⟩
theorem Fines.list {ds : List PyData} {g n : Nat} (h : Fines ds g n) : Fine (.list ds) (g + 1) n :=
  ⟨by simp only [PyData.showable]; exact h.s, by simp only [PyData.depth]; have := h.dp; omega, by simp only [PyData.leavesShort]; exact h.lv, by simp only [PyData.bulk]; exact h.bk, by simp only [PyData.hasDict]; exact h.nd⟩
theorem Fine.tup {ds : List PyData} {g n m : Nat} (h : ∀ d ∈ ds, Fine d g n) (hm : ds.length * (n + 1) ≤ m) : Fine (.tuple ds) (g + 1) m := (Fines.of h).tup.weak (Nat.le_refl _) hm
theorem Fine.list {ds : List PyData} {g n m : Nat} (h : ∀ d ∈ ds, Fine d g n) (hm : ds.length * (n + 1) ≤ m) : Fine (.list ds) (g + 1) m := (Fines.of h).list.weak (Nat.le_refl _) hm
theorem Fines.take {g n : Nat} : ∀ {ds : List PyData} (i : Nat), Fines ds g n → Fines (ds.take i) g n
  | _, 0, h => Fines.nil.weakN (Nat.zero_le _)
  | [], i + 1, h => h
  | d :: ds, i + 1, h => by
    obtain ⟨h1, h2, h3, h4, h5⟩ := h
    simp only [PyData.showableAll, Bool.and_eq_true] at h1
    simp only [PyData.depthAll] at h2
    simp only [PyData.leavesShortAll, Bool.and_eq_true] at h3
    simp only [PyData.bulkAll] at h4
    simp only [PyData.hasDictAll, Bool.or_eq_false_iff] at h5
    have h2' := Nat.max_le.1 h2
    have t := Fines.take i (⟨h1.2, h2'.2, h3.2, Nat.le_refl _, h5.2⟩ : Fines ds g (PyData.bulkAll ds))
    rw [List.take_succ_cons]
    exact (Fines.cons ⟨h1.1, h2'.1, h3.1, Nat.le_refl _, h5.1⟩ t).weakN h4
theorem Fines.drop {g n : Nat} : ∀ {ds : List PyData} (i : Nat), Fines ds g n → Fines (ds.drop i) g n
  | _, 0, h => h
  | [], i + 1, h => h
  | d :: ds, i + 1, h => by
    obtain ⟨h1, h2, h3, h4, h5⟩ := h
    simp only [PyData.showableAll, Bool.and_eq_true] at h1
    simp only [PyData.depthAll] at h2
    simp only [PyData.leavesShortAll, Bool.and_eq_true] at h3
    simp only [PyData.bulkAll] at h4
    simp only [PyData.hasDictAll, Bool.or_eq_false_iff] at h5
    have h2' := Nat.max_le.1 h2
    rw [List.drop_succ_cons]
    exact Fines.drop i ⟨h1.2, h2'.2, h3.2, by omega, h5.2⟩
theorem Fines.append {g n m : Nat} : ∀ {ds es : List PyData}, Fines ds g n → Fines es g m → Fines (ds ++ es) g (n + m)
  | [], es, _, h => h.weakN (Nat.le_add_left _ _)
  | d :: ds, es, h, k => by
    obtain ⟨h1, h2, h3, h4, h5⟩ := h
    simp only [PyData.showableAll, Bool.and_eq_true] at h1
    simp only [PyData.depthAll] at h2
    simp only [PyData.leavesShortAll, Bool.and_eq_true] at h3
    simp only [PyData.bulkAll] at h4
    simp only [PyData.hasDictAll, Bool.or_eq_false_iff] at h5
    have h2' := Nat.max_le.1 h2
    have t := Fines.append (⟨h1.2, h2'.2, h3.2, Nat.le_refl _, h5.2⟩ : Fines ds g (PyData.bulkAll ds)) k
    rw [List.cons_append]
    exact (Fines.cons ⟨h1.1, h2'.1, h3.1, Nat.le_refl _, h5.1⟩ t).weakN (by omega)
theorem Fine.tupInv {ds : List PyData} {g n : Nat} (h : Fine (.tuple ds) (g + 1) n) : Fines ds g n := by
  obtain ⟨h1, h2, h3, h4, h5⟩ := h
  simp only [PyData.showable] at h1
  simp only [PyData.depth] at h2
  simp only [PyData.leavesShort] at h3
  simp only [PyData.bulk] at h4
  simp only [PyData.hasDict] at h5
  exact ⟨h1, by omega, h3, h4, h5⟩
theorem Fines.mem {g n : Nat} : ∀ {ds : List PyData} {d : PyData}, Fines ds g n → d ∈ ds → Fine d g n
  | [], d, _, hd => absurd hd List.not_mem_nil
  | x :: ds, d, h, hd => by
    obtain ⟨h1, h2, h3, h4, h5⟩ := h
    simp only [PyData.showableAll, Bool.and_eq_true] at h1
    simp only [PyData.depthAll] at h2
    simp only [PyData.leavesShortAll, Bool.and_eq_true] at h3
    simp only [PyData.bulkAll] at h4
    simp only [PyData.hasDictAll, Bool.or_eq_false_iff] at h5
    have h2' := Nat.max_le.1 h2
    rcases List.mem_cons.1 hd with rfl | hd
    · exact ⟨h1.1, h2'.1, h3.1, by omega, h5.1⟩
    · exact Fines.mem ⟨h1.2, h2'.2, h3.2, by omega, h5.2⟩ hd
theorem Fine.fits {d : PyData} {g n : Nat} (h : Fine d g n) (hg : g ≤ 60) (hn : n ≤ 2 ^ 20) : d.showable = true ∧ d.depth ≤ 60 ∧ d.shown.length ≤ sizeLine ∧ d.hasDict = false :=
  ⟨h.s, Nat.le_trans h.dp hg, PyData.shown_fits_bulk (by decide) (Nat.le_refl _) h.lv (Nat.le_trans h.bk hn), h.nd⟩
section
variable {K : PySem.W.Frag} {D0 : Hp} {R : Res} {l : List (V × PyData)} {σ : L2.St} {D : Ends} {Q : VK}
theorem d_reprF {x : V} {d : PyData} {g n : Nat} (hx : InL l x d) (h : Fine d g n) (hg : g ≤ 60) (hn : n ≤ 2 ^ 20) (k : RD K D0 R l (Q (.str d.shown))) : RD K D0 R l (fun H => rRepr K [x] H Q) := by
  obtain ⟨h1, h2, h3, h4⟩ := h.fits hg hn
  exact d_repr hx h1 h2 h3 h4 k
/-! ### sorted of ints -/
theorem ints_alikeI (is : List Int) : PySem.W.AllAlike (is.map PyData.int) := PySem.W.AllAlike.of fun _ _ => by simp [PySem.W.alike]
theorem ints_sortableI (is : List Int) : PySem.W.Sortable (is.map PyData.int) := PySem.W.Sortable.others fun _ => ⟨(fun z => nomatch z), (fun _ z => nomatch z)⟩
theorem intSort_eq (is : List Int) : (is.map PyData.int).mergeSort (PySem.W.dataLe false id) = (is.mergeSort fun a b => decide (a ≤ b)).map PyData.int := by
  have e1 := PySem.W.dataLe_int (fun i : Int => i)
  have e2 : (is.map PyData.int).mergeSort (PySem.W.dataLe false id) = (is.mergeSort (PySem.W.dataLe false fun i => PyData.int i)).map PyData.int :=
    (List.map_mergeSort (f := PyData.int) (r := PySem.W.dataLe false fun i => PyData.int i) (s := PySem.W.dataLe false id) (fun a _ b _ => rfl)).symm
  rw [e2, e1]
theorem asc_unique : ∀ {l m : List Int}, (l.Pairwise (· ≤ ·)) → (m.Pairwise (· ≤ ·)) → l.Perm m → l = m
  | [], m, _, _, p => (List.nil_perm.1 p).symm
  | x :: l, [], _, _, p => absurd (List.perm_nil.1 p) (by simp)
  | x :: l, y :: m, h1, h2, p => by
    obtain ⟨a1, a2⟩ := List.pairwise_cons.1 h1
    obtain ⟨b1, b2⟩ := List.pairwise_cons.1 h2
    have l1 : x ≤ y := by
      rcases List.mem_cons.1 (p.mem_iff.2 List.mem_cons_self) with e | e
      · omega
      · exact a1 y e
    have l2 : y ≤ x := by
      rcases List.mem_cons.1 (p.mem_iff.1 List.mem_cons_self) with e | e
      · omega
      · exact b1 x e
    obtain rfl : x = y := by omega
    exact congrArg (x :: ·) (asc_unique a2 b2 ((List.perm_cons x).1 p))
theorem intSort_asc (is : List Int) : (is.mergeSort fun a b => decide (a ≤ b)).Pairwise (· ≤ ·) := by
  have h : (is.mergeSort fun a b : Int => decide (a ≤ b)).Pairwise fun a b => decide (a ≤ b) = true := by
    first
      | exact List.pairwise_mergeSort (fun a b c => by simp only [decide_eq_true_eq]; omega) (fun a b => by simp only [Bool.or_eq_true, decide_eq_true_eq]; omega) is
      | exact List.sorted_mergeSort (fun a b c => by simp only [decide_eq_true_eq]; omega) (fun a b => by simp only [Bool.or_eq_true, decide_eq_true_eq]; omega) is
  exact h.imp fun h => of_decide_eq_true h
theorem intSort_down {is : List Int} (h : is.Pairwise (· ≥ ·)) : (is.mergeSort fun a b => decide (a ≤ b)) = is.reverse :=
  asc_unique (intSort_asc is) (List.pairwise_reverse.2 h) ((List.mergeSort_perm _ _).trans (List.reverse_perm is).symm)
theorem d_sortedI {x : V} {is : List Int} (hx : InL l x (.list (is.map .int))) (k : ∀ v, RD K D0 R ((v, .list ((is.mergeSort fun a b => decide (a ≤ b)).map .int)) :: l) (Q v)) : RD K D0 R l (fun H => gSorted K [x] H Q) := by
  refine d_sorted hx (ints_alikeI is) (ints_sortableI is) (fun d hd => ?_) fun v => ?_
  · obtain ⟨i, _, rfl⟩ := List.mem_map.1 hd
    simp only [PyData.depth]
    exact Nat.zero_le _
  · rw [intSort_eq]
    exact k v
theorem eqv_selfI (is : List Int) : PyData.eqv (.list (is.map PyData.int)) (.list (is.map PyData.int)) = true := by
  rw [PyData.eqv]
  induction is with
  | nil => simp [PyData.eqvAll]
  | cons i is ih => simp only [List.map_cons, PyData.eqvAll, PyData.eqv, ih]; simp
end
end GL

/-! G32: enumerate over lists, tuples, texts; a dict display of texts, read at once; list.extend by a tuple. -/
namespace GL
open PySem PySem.Spec L2
open PyProof.Rows hiding St
section
variable {prog : Program} {w : World} {A : Around} {E : Value → Shared → Prop} {s : Shared}
abbrev enO (i : Addr) : Obj := { cls := .type "enumerate", data := .fields #[.none, .bool false, .ref i, rawInt 0, .none, .none] }
set_option maxHeartbeats 1000000 in
theorem en_new {v : Value} {o : Obj} {Hd : Heap → Prop} (B : Begins v o Hd) : Meets (Builtin.«enumerate.__new__» ⟨[.type "enumerate", v], []⟩)
    (fun _ R s => Hd s.heap ∧ R (.ok (.ret (.ref (s.heap.push o).objs.size))) { s with heap := (s.heap.push o).push (enO s.heap.objs.size) }) := by
  refine .of_wp fun P' w' A' R' s' hq => ?_
  obtain ⟨hp, gs, dr, tk, os⟩ := s'
  obtain ⟨h1, hq⟩ := hq
  have hsub := sub_enumerate
  have go : ∀ {A2 : Around} {E2 : Value → Shared → Prop} {Q2 : Value → Shared → Prop}, Q2 (.ref hp.objs.size) ⟨hp.push o, gs, dr, tk, os⟩ → wpAny (model P' w') A2 (pyIter v) Q2 E2 ⟨hp, gs, dr, tk, os⟩ :=
    fun q => B.iter P' w' _ _ ⟨hp, gs, dr, tk, os⟩ _ h1 q
  wp_walk using go
  refine wpAny_stack_any fun st => ?_
  refine wpAny_pure ?_
  split
  · rename_i c _ _ _ _ _
    cases (c == Value.type "enumerate") <;> (wp_walk using go; exact ⟨_, rfl, hq⟩)
  · wp_walk using go
    exact ⟨_, rfl, hq⟩
/-- enumerate(v): its two new cells -/
theorem en_begins {v : Value} {o : Obj} {Hd : Heap → Prop} {Q : Value → Shared → Prop} (B : Begins v o Hd) (h1 : Hd s.heap)
    (h : ∀ h', IsEnum h' (s.heap.objs.size + 1) s.heap.objs.size 0 .none → h'.get? s.heap.objs.size = some o → (∀ b u, s.heap.get? b = some u → h'.get? b = some u) → Q (.ref (s.heap.objs.size + 1)) { s with heap := h' }) :
    wpAny (model prog w) A (call (.type "enumerate") [v]) Q E s := by
  have z := F.typeCall_enumerate_1 v
  refine callType_new F.called_enumerate (by decide) z (F.newCall_enumerate_1 v) (fun x => F.args_object_init_2 x v) F.entry_enumerate_new (en_new B) ⟨h1, ?_⟩
  have hz : (s.heap.push o).objs.size = s.heap.objs.size + 1 := Heap.size_push ..
  have he : ((s.heap.push o).push (enO s.heap.objs.size)).get? (s.heap.objs.size + 1) = some (enO s.heap.objs.size) := by
    have q := Heap.get?_push_size (s.heap.push o) (o := enO s.heap.objs.size) rfl
    rw [hz] at q
    exact q
  show _ ∧ _
  rw [hz]
  refine ⟨⟨_, he, rfl⟩, h _ he (Heap.get?_push_of_some _ (Heap.get?_push_size _ B.free)) fun b u x => ?_⟩
  exact Heap.get?_push_of_some _ (Heap.get?_push_of_some _ x)
end
/-- enumerate(c): each item in a new pair -/
def Iteg (K : PySem.W.Frag) (c : Sc) : It :=
  ⟨fun i H => ∃ xs : List V, c.has K H xs ∧ i < xs.length,
    fun i H v H' => ∃ T x, v = .ref T ∧ H T = none ∧ H' = upd H T (.tup [.int (i : Nat), x]) ∧ ∀ xs, c.has K H xs → xs[i]? = some x,
    fun i H => ∃ xs : List V, c.has K H xs ∧ i = xs.length⟩
abbrev efp (n : Nat) : List Addr := [n + 1, n]
def est (c : Sc) (n i : Nat) (h : Heap) : Prop := (∃ old, IsEnum h (n + 1) n (0 + (i : Int)) old) ∧ c.cell n i h
theorem esep {X : Cx} {A : Around} {c : Sc} {n i : Nat} {xs : List V} {h : Heap} {f1 : List Addr} {P1 : Nat → Value → Prop} {T1 : Nat → Heap → Prop} (D1 : Drawn1 X A c n n i xs h f1 P1 T1) : (show Addr from n + 1) ∉ f1 := fun q => by
  rcases D1.lt _ q with e | e
  · exact absurd (show (n + 1 : Nat) = n from e) (by omega)
  · exact absurd (show (n + 1 : Nat) < n from e) (by omega)
theorem turn_eng {P : Program} {w : World} {K : PySem.W.Frag} {elts : List Expr} {kk : Nat} {tpos : Pos} {c : Sc} {n : Nat} (b1 : c.below n) :
    Turn P w K (.Tuple elts kk tpos) (Iteg K c) (efp n) (n + 1) (est c n) where
  mem := List.mem_cons_self
  obj := fun i h st b hb => by
    obtain ⟨⟨old, he⟩, h1⟩ := st
    have q : b = n + 1 ∨ b = n := by simpa using hb
    rcases q with rfl | rfl
    · exact ⟨_, he, nofun⟩
    · exact c.live h1
  keep := fun i h h' st k => by
    obtain ⟨⟨old, he⟩, h1⟩ := st
    exact ⟨⟨old, k _ (by simp) _ he⟩, c.stay h1 fun o e => k _ (by simp) o e⟩
  item := by
    intro X hP hw hK hc i pins s σ H E I hf st hg
    subst hP hw hK
    have lv : ∀ b, b ∈ efp n → ∃ o, s.heap.get? b = some o := fun b hb => (by
      obtain ⟨⟨old, he⟩, h1⟩ := st
      have q : b = n + 1 ∨ b = n := by simpa using hb
      rcases q with rfl | rfl
      · exact ⟨_, he⟩
      · obtain ⟨o, e, _⟩ := c.live h1; exact ⟨o, e⟩)
    obtain ⟨he, h1⟩ := st
    obtain ⟨xs, hx, l1⟩ := hg
    have hh : X.A.in1.handled = none := I.ok.hd hc
    obtain ⟨f1, P1, T1, D1⟩ := c.draws (A := X.A.in1) hh I hx b1 (Nat.le_refl _) h1
    have W := GoesN.enumFrom (elts := elts) (x1 := kk) (pos := tpos) 0 D1.d (n + 1) (show ¬ ((n + 1 : Nat) = n) by omega) (esep D1) D1.mem
    refine W.goes i s _ E l1 ⟨he, D1.st⟩ fun v h' tk hY st' hk _ => ?_
    obtain ⟨T, t, a, rfl, hT, p1, hTup⟩ := hY
    obtain ⟨x, ex, rx⟩ := D1.rel _ _ p1
    have new : ObjOk X.prog X.w (upd H T (.tup [.int (i : Nat), x])) h' T (.tup [.int (i : Nat), x]) :=
      ⟨by show 2 ≤ sizeLine; decide, [.int (0 + (i : Int)) t, a], .cons ⟨t, by rw [Int.zero_add]⟩ (.cons rx .nil), hTup⟩
    have I1 : Inv X pins σ (upd H T (.tup [.int (i : Nat), x])) { s with heap := h', toks := tk } :=
      I.turnedNew (t' := tk) (ch := [n + 1, n]) hk (fun b hb => hf b hb) hT new
    refine ⟨.ref T, _, I1, rfl, ⟨T, x, rfl, I.hok.fresh hT, rfl, fun zs hz' => by rw [c.inj I hz' hx]; exact ex⟩, ?_, fun b hb => ?_⟩
    · obtain ⟨g1, g4⟩ := st'
      exact ⟨g1, D1.cell _ _ g4⟩
    · obtain ⟨o, e⟩ := lv b hb
      rw [upd_ne (Nat.ne_of_lt (Nat.lt_of_lt_of_le (Heap.lt_size e) hT))]
      exact (hf b hb).1
  done := by
    intro X hP hw hK hc i pins s σ H E I hf st hg
    subst hP hw hK
    obtain ⟨he, h1⟩ := st
    obtain ⟨xs, hx, rfl⟩ := hg
    have hh : X.A.in1.handled = none := I.ok.hd hc
    obtain ⟨f1, P1, T1, D1⟩ := c.draws (A := X.A.in1) hh I hx b1 (Nat.le_refl _) h1
    have W := GoesN.enumFrom (elts := elts) (x1 := kk) (pos := tpos) 0 D1.d (n + 1) (show ¬ ((n + 1 : Nat) = n) by omega) (esep D1) D1.mem
    refine W.stops s _ E ⟨he, D1.st⟩ fun h' tk hk _ => ?_
    exact I.turnedL (t' := tk) (ch := [n + 1, n]) hk fun b hb => hf b hb
  self := fun A i s Q E st h => wpAny_pyIter_enum st.1.choose_spec h
def iEng (K : PySem.W.Frag) (ta : TA) : TI := fun σ H R => ta σ H fun vs H1 => ∃ (c : Sc) (xs : List V), vs = [c.v] ∧ c.has K H1 xs ∧ R (Iteg K c) H1
theorem pi_eng {X : Cx} {e : Expr} {ta : TA} {p pos tpos : Pos} {elts : List Expr} {kk : Nat} (hg : Gl X "enumerate") (hm : X.mg "enumerate" = none) (ha : PA X [e] ta)
    (hs : starEach [e] X.env = [(false, eval e X.env)] := by rfl) : PI X (.Tuple elts kk tpos) (.Call (.Name "enumerate" p) [e] [] pos) (iEng X.K ta) := by
  constructor
  intro pins s σ H R I h
  refine Call_ ?_
  refine ld_blt I hg hm boot_enumerate ?_
  refine PyProof.Rows.callWith_type1 ?_ hs rfl
  apply thn (ha.run pos pins s σ H _ I h)
  rintro us s1 ⟨vs, H1, I1, r1, c, xs, rfl, hx, q⟩
  obtain ⟨u1, rfl, ru⟩ := vals1 r1
  obtain ⟨o1, Hd1, B1, q1, b1, k1⟩ := c.begins I1 hx ru
  apply en_begins B1 q1
  intro h' he e1 hk
  apply wpAny_pyIter_enum he
  refine ⟨_, efp s1.heap.objs.size, est c s1.heap.objs.size, Iteg X.K c, H1, rfl, I1.kept (t' := s1.toks) hk, turn_eng b1, ⟨⟨_, he⟩, k1 _ _ e1⟩, fun b hb => ?_, q⟩
  have hle : s1.heap.objs.size ≤ b := by
    have q : b = s1.heap.objs.size + 1 ∨ b = s1.heap.objs.size := by simpa using hb
    rcases q with rfl | rfl
    · exact Nat.le_add_right _ _
    · exact Nat.le_refl _
  exact I1.fpOk hle (I1.hok.fresh hle)
section
variable {K : PySem.W.Frag} {D0 : Hp} {R : Res} {l : List (V × PyData)} {σ : L2.St} {D : Ends} {Q : VK}
def kEng (K : PySem.W.Frag) (vs : List V) (H1 : Hp) (Ri : It → Hp → Prop) : Prop := ∃ (c : Sc) (xs : List V), vs = [c.v] ∧ c.has K H1 xs ∧ Ri (Iteg K c) H1
theorem d_iEng {ta : TA} {Ri : It → Hp → Prop} (k : RD K D0 R l (fun H => ta σ H fun vs H1 => kEng K vs H1 Ri)) : RD K D0 R l (fun H => iEng K ta σ H Ri) := k
/-- for i, x in enumerate(a tuple) -/
theorem d_forEngT {g : TG} {tb : TS} {v : V} {ds : List PyData} (hv : InL l v (.tuple ds)) (P : Nat → Res → L2.St → List (V × PyData) → Prop) (hkeep : ∀ i R' σ' l', P i R' σ' l' → InL l' v (.tuple ds)) (h0 : P 0 R σ l)
    (hs : ∀ (i : Nat) d y R' σ' l', ds[i]? = some d → P i R' σ' l' → RD K D0 R' ((y, .tuple [.int i, d]) :: l') (fun H => g y σ' H fun σ2 H2 => tb { D with nx := Cont K D0 (P (i + 1)), ct := Cont K D0 (P (i + 1)), bk := D.nx } σ2 H2))
    (hd : ∀ R' σ' l', P ds.length R' σ' l' → RD K D0 R' l' (fun H => D.nx σ' H)) :
    RD K D0 R l (fun H => kEng K [v] H fun J H1 => ForK g tb D σ J H1) := fun N H A => by
  obtain ⟨a, xs, rfl, ha, hd0⟩ := (A.dt hv).tuple
  have hl : ∀ {i R' σ' l' N' H'}, P i R' σ' l' → At K D0 R' l' N' H' → ∃ xs', SqT K H' a xs' ∧ DtAll K (off H' N') xs' ds := fun p A' => by
    obtain ⟨a', xs', e, h', d'⟩ := (A'.dt (hkeep _ _ _ _ p)).tuple
    cases e
    exact ⟨xs', same_sqT off_same h', d'⟩
  refine ⟨.tup a, xs, rfl, same_sqT off_same ha, fun i m σ H => m = ds.length - i ∧ i ≤ ds.length ∧ Cont K D0 (P i) σ H, ⟨_, rfl, Nat.zero_le _, R, l, N, h0, A⟩, ?_⟩
  rintro i m σ' H' ⟨rfl, hi, R', l', N', p, A'⟩
  obtain ⟨xs', hq, d'⟩ := hl p A'
  by_cases hlt : i < ds.length
  · have hx : i < xs'.length := by rw [d'.len]; exact hlt
    refine .inr ⟨⟨xs', hq, hx⟩, Cont K D0 (P (i + 1)), fun σ2 H2 p => ⟨ds.length - (i + 1), by omega, rfl, hlt, p⟩, ?_⟩
    rintro y H2 ⟨T, x, rfl, hT, rfl, hy⟩
    obtain ⟨d, e1, e2⟩ := d'.get (hy xs' hq)
    obtain ⟨A2, e⟩ := (A'.facts e2).new (.tup [.int (i : Nat), x]) hT
    have f : Dt K (off (upd H' T (.tup [.int (i : Nat), x])) N') (.ref T) (.tuple [.int (i : Nat), d]) := .tup (.inl (.inl e)) (.cons (.int _) (.cons (A2.dt (.mem List.mem_cons_self)) .nil))
    exact hs i d (.ref T) R' σ' l' e1 p N' _ ((A2.weak (l' := l') fun p hp => .mem (List.mem_cons_of_mem _ hp)).facts f)
  · have e : i = ds.length := by omega
    subst e
    exact .inl ⟨⟨xs', hq, d'.len.symm⟩, hd R' σ' l' p N' H' A'⟩
/-! ### a dict display with texts or ints as keys; d[k] -/
theorem At.objs0 {N : Addr → Prop} {H : Hp} (A : At K D0 R l N H) : At K D0 (star (objs []) R) l N H :=
  ⟨A.nt, ⟨fun _ => False, N, fun b => ⟨.inr, fun z => z.elim False.elim id⟩, fun _ z _ => z, ⟨fun b => ⟨False.elim, fun ⟨_, z⟩ => by cases z⟩, fun p hp => by cases hp⟩, A.r⟩, A.d0, A.f⟩
def kDisp (p : Addr) (Q : VK) (ps : List (V × V)) (H2 : Hp) : Prop := H2 p = some (.dK []) ∧ ∃ kvs : List (Key × V), ps = kvs.map (fun kv => (kV kv.1, kv.2)) ∧ kvs.length ≤ 15 ∧ Q (.ref p) (upd H2 p (.dK (mergeK [] kvs)))
theorem d_disp {trs : List (TE × TE)} (k : ∀ p, RD K D0 (star (objs [(p, .dK [])]) R) l (fun H => tPairs trs σ H (kDisp p Q))) : RD K D0 R l (fun H => tDisp trs σ H Q) := fun N H A p hp =>
  k p _ _ (A.objs0.newOb (o := .dK []) (fun _ z => by cases z) hp)
theorem d_pairs {tk tv : TE} {r : List (TE × TE)} {Qp : List (V × V) → Hp → Prop} (k : RD K D0 R l (fun H => tk σ H fun x H1 => tv σ H1 fun y H2 => tPairs r σ H2 fun ps H3 => Qp ((x, y) :: ps) H3)) : RD K D0 R l (fun H => tPairs ((tk, tv) :: r) σ H Qp) := k
theorem d_pairs0 {Qp : List (V × V) → Hp → Prop} (k : RD K D0 R l (Qp [])) : RD K D0 R l (fun H => tPairs [] σ H Qp) := k
theorem d_kDisp {p : Addr} {ps : List (V × V)} (kvs : List (Key × V)) (e : ps = kvs.map (fun kv => (kV kv.1, kv.2))) (h15 : kvs.length ≤ 15) (k : RD K D0 (star (objs [(p, .dK (mergeK [] kvs))]) R) l (Q (.ref p))) : RD K D0 (star (objs [(p, .dK [])]) R) l (kDisp p Q ps) := fun N H A => by
  refine ⟨A.ob (List.Mem.head _), kvs, e, h15, ?_⟩
  have A2 := A.setOb (o := .dK (mergeK [] kvs)) (fun _ z => by cases z) (List.Mem.head _)
  rw [show putO [(p, HO.dK [])] p (.dK (mergeK [] kvs)) = [(p, .dK (mergeK [] kvs))] from by simp [putO]] at A2
  exact k _ _ A2
def kDGet (x y : V) (H2 : Hp) (Q : VK) : Prop := ∃ a v, x = .ref a ∧ DGet H2 a y (some v) ∧ Q v H2
theorem d_tDGet {td ty : TE} (k : RD K D0 R l (fun H => td σ H fun x H1 => ty σ H1 fun y H2 => kDGet x y H2 Q)) : RD K D0 R l (fun H => tDGet td ty σ H Q) := k
theorem d_getK {a : Addr} {L : List (Addr × HO)} {kvs : List (Key × V)} {key : Key} {v : V} (ha : (a, .dK kvs) ∈ L) (hv : valV kvs key = some v) (k : RD K D0 (star (objs L) R) l (Q v)) : RD K D0 (star (objs L) R) l (fun H => kDGet (.ref a) (kV key) H Q) := fun N H A =>
  ⟨a, v, rfl, hv ▸ DGet.k (A.ob ha), k N H A⟩
/-- {'A': 'B', 'B': 'A'}[x] -/
def abS (b : Bool) : Str := if b then "B" else "A"
theorem d_flip {i : Nat} {b : Bool} (h : σ[i]? = some (some (.str (abS b)))) (k : RD K D0 R l (Q (.str (abS !b)))) :
    RD K D0 R l (fun H => tDGet (tDisp [(tC (.str "A"), tC (.str "B")), (tC (.str "B"), tC (.str "A"))]) (tVar i) σ H Q) := by
  refine d_tDGet (d_disp fun p => d_pairs (d_C (d_C (d_pairs (d_C (d_C (d_pairs0 ?_)))))))
  refine d_kDisp [(.inr "A", .str "B"), (.inr "B", .str "A")] rfl (by decide) ?_
  refine d_var h ?_
  refine d_getK (key := .inr (abS b)) (v := .str (abS !b)) (List.Mem.head _) ?_ (RD.drop k)
  cases b <;> decide +kernel
/-! ### list.extend by a list or a tuple -/
theorem ext_tup (l b : Addr) (xs ys : Array Value) (n m : Nat) (dc : Option Addr) (sl : Array (Option Value)) (h0 : ¬(!xs.isEmpty && Builtin.List.listTooLong (xs.size + ys.size)) = true) (h1 : xs.size ≤ sizeLine) (h2 : xs.size + ys.size ≤ sizeLine + 1) :
    Meets (Builtin.«list.extend» ⟨[.ref l, .ref b], []⟩) (fun _ R s => s.heap.get? l = some { cls := .type "list", data := .seq xs n } ∧ s.heap.get? b = some { cls := .type "tuple", dict := dc, data := .seq ys m, slots := sl } ∧
      R (.ok (.ret Value.none)) { s with heap := s.heap.update l (Obj.mapSeq fun x => x ++ ys), toks := s.toks }) := by
  refine .of_wp fun P' w' A' R' s' hq => ?_
  obtain ⟨hp, gs, dr, tk, os⟩ := s'
  obtain ⟨hl, hb, hq⟩ := hq
  have g1 := AutoSeq1.idx_int
  have g2 := AutoSeq1.sub_tuple_tuple
  have g3 := AutoSeq1.sub_list_list
  have g4 := AutoSeq1.sub_tuple_list
  have g5 := AutoSeq1.sub_list_tuple
  have hz' : (xs ++ ys).size ≤ sizeLine + 1 := by
    rw [Array.size_append]
    exact h2
  wp_walk using (wpAny_updateSeq hl rfl (hz := h1) (_hz' := hz')), AutoSeq1.wpAny_loadPart' hl, AutoSeq1.wpAny_loadPart' hb
  exact ⟨_, rfl, hq⟩
def rExtG (K : PySem.W.Frag) : V → List V → Hp → VK → Prop := fun x vs H Q => rExtend x vs H Q ∨ ∃ l b xs zs, x = .ref l ∧ vs = [.ref b] ∧ H l = some (.lst xs) ∧ SqT K H b zs ∧ xs.length + zs.length ≤ sizeLine ∧ Q .non (upd H l (.lst (xs ++ zs)))
theorem mt_extG {X : Cx} : MtM X "list.extend" (rExtG X.K) := by
  intro pins s σ H x vs v us Q I rx rv h
  rcases h with h | ⟨l, b, xs, zs, rfl, rfl, hH, hB, hz, q⟩
  · exact mt_extend pins s σ H x vs v us Q I rx rv h
  cases rx
  obtain ⟨u, rfl, ru⟩ := rv.one
  cases ru
  obtain ⟨z, its, n, r, hl, e⟩ := I.lstM hH
  obtain ⟨its2, r2, p2, hz2⟩ := I.tuple hB
  obtain ⟨⟨c2, d2, t2, s2⟩, e2, hc2, n2, hd2⟩ := p2
  replace hc2 : c2 = .type "tuple" := hc2
  replace hd2 : t2 = .seq its2.toArray n2 := hd2
  subst hc2 hd2
  have hsz : its.toArray.size + its2.toArray.size ≤ sizeLine := by
    have h1 := r.length
    have h2 := r2.length
    rw [List.size_toArray, List.size_toArray]
    omega
  have hlong : ¬ (!its.toArray.isEmpty && Builtin.List.listTooLong (its.toArray.size + its2.toArray.size)) = true := by
    rw [notLongL hsz]
    simp
  refine call_meets F.slot_list_extend ⟨_, e, rfl⟩ F.entry_list_extend (F.args_list_extend_2 _ _) (ext_tup l b its.toArray its2.toArray n n2 d2 s2 hlong (by omega) (by omega)) ⟨e, e2, ?_⟩
  refine ⟨.non, _, I.lset (its' := its ++ its2) hH e (by simp) (r.append r2) ?_, rfl, q⟩
  have h1 := r.length
  have h2 := r2.length
  rw [List.length_append]
  omega
theorem d_extendT {a : Addr} {ds es : List PyData} {y : V} (hy : InL l y (.tuple es)) (hz : ds.length + es.length ≤ sizeLine) (k : RD K D0 (star (own K a (ds ++ es)) R) l (Q .non)) : RD K D0 (star (own K a ds) R) l (fun H => rExtG K (.ref a) [y] H Q) := fun N H A => by
  obtain ⟨xs, hx, hd⟩ := A.ownAt
  obtain ⟨b, zs, rfl, hb, he⟩ := (A.dt hy).tuple
  exact .inr ⟨a, b, xs, zs, rfl, rfl, hx, same_sqT off_same hb, by rw [hd.len, he.len]; exact hz, k _ _ (A.setOwn (hd.append he))⟩
end
end GL

/-! I4: tuples: joined, cut, as lists; items picked at a drawn place. -/
namespace GL
open PySem PySem.Spec L2
open PyProof.Rows hiding St
theorem add_nilT (a b : Addr) (xs ys : Array Value) (n m : Nat) (d1 d2 : Option Addr) (s1 s2 : Array (Option Value)) (h0 : xs.isEmpty = true) :
    Meets (Builtin.«tuple.__add__» ⟨[.ref a, .ref b], []⟩) (fun _ R s => s.heap.get? a = some { cls := .type "tuple", dict := d1, data := .seq xs n, slots := s1 } ∧ s.heap.get? b = some { cls := .type "tuple", dict := d2, data := .seq ys m, slots := s2 } ∧
      R (.ok (.ret (Value.ref b))) { s with heap := s.heap, toks := s.toks }) := by
  refine .of_wp fun P' w' A' R' s' hq => ?_
  obtain ⟨hp, gs, dr, tk, os⟩ := s'
  obtain ⟨ha, hb, hq⟩ := hq
  have g1 := AutoSeq1.idx_int
  have g2 := AutoSeq1.sub_tuple_tuple
  have g3 := AutoSeq1.sub_list_list
  have g4 := AutoSeq1.sub_tuple_list
  have g5 := AutoSeq1.sub_list_tuple
  wp_walk using AutoSeq1.wpAny_loadPart' ha, AutoSeq1.wpAny_loadPart' hb
  exact ⟨_, rfl, hq⟩
/-- () + u is u -/
def rCat0 (K : PySem.W.Frag) : R2 := fun x y H Q => ∃ a b ys, x = .ref a ∧ y = .ref b ∧ SqT K H a [] ∧ SqT K H b ys ∧ Q (.ref b) H
theorem op_cat0 {X : Cx} : OpR X (binaryOp .Add) (rCat0 X.K) := by
  intro pins s σ H x y v u Q I rx ry h
  obtain ⟨a, b, ys, rfl, rfl, ha, hb, q⟩ := h
  cases rx
  cases ry
  obtain ⟨its, r1, p1, _⟩ := I.tuple ha
  obtain ⟨its2, r2, p2, _⟩ := I.tuple hb
  cases r1
  obtain ⟨⟨c1, d1, t1, s1⟩, e1, hc1, n1, hd1⟩ := p1
  obtain ⟨⟨c2, d2, t2, s2⟩, e2, hc2, n2, hd2⟩ := p2
  replace hc1 : c1 = .type "tuple" := hc1
  replace hd1 : t1 = .seq #[] n1 := hd1
  replace hc2 : c2 = .type "tuple" := hc2
  replace hd2 : t2 = .seq its2.toArray n2 := hd2
  subst hc1 hd1 hc2 hd2
  refine concat_meets ⟨_, e1, rfl⟩ ⟨_, e2, rfl⟩ noFill_tuple_add seq_tuple_add PySem.F.slot_tuple_add PySem.F.entry_tuple_add (PySem.F.args_tuple_add_2 _ _) (add_nilT a b #[] its2.toArray n1 n2 d1 d2 s1 s2 rfl) ⟨e1, e2, ?_⟩
  exact ⟨.ref b, H, I, rfl, q⟩
def gAddT (K : PySem.W.Frag) : R2 := fun x y H Q => gAdd K x y H Q ∨ rCat0 K x y H Q
theorem op_gaddT {X : Cx} : OpR X (binaryOp .Add) (gAddT X.K) := op_gadd.or op_cat0
section
variable {K : PySem.W.Frag} {D0 : Hp} {R : Res} {l : List (V × PyData)} {σ : L2.St} {D : Ends} {Q : VK}
theorem d_gaddT {x y : V} (k : RD K D0 R l (fun H => gAdd K x y H Q)) : RD K D0 R l (fun H => gAddT K x y H Q) := fun N H A => .inl (k N H A)
/-- t + u of tuples -/
theorem d_catT {x y : V} {ds es : List PyData} (hx : InL l x (.tuple ds)) (hy : InL l y (.tuple es)) (hz : ds.length + es.length ≤ sizeLine) (k : ∀ v, RD K D0 R ((v, .tuple (ds ++ es)) :: l) (Q v)) : RD K D0 R l (fun H => gAddT K x y H Q) := fun N H A => by
  obtain ⟨a, xs, rfl, ha, hd⟩ := (A.dt hx).tuple
  obtain ⟨b, ys, rfl, hb, he⟩ := (A.dt hy).tuple
  by_cases h0 : xs = []
  · subst h0
    cases hd
    exact .inr ⟨a, b, ys, rfl, rfl, same_sqT off_same ha, same_sqT off_same hb, k _ N H (A.facts (.tup hb he))⟩
  · refine .inl (.inr (.inr (.inr ⟨a, b, xs, ys, rfl, rfl, same_sqT off_same ha, same_sqT off_same hb, h0, by rw [hd.len, he.len]; exact hz, fun h1 => ?_, fun h1 p hp => ?_⟩)))
    · subst h1
      cases he
      rw [List.append_nil] at k
      exact k _ N H (A.facts (.tup ha hd))
    · obtain ⟨A', e⟩ := A.new (.tup (xs ++ ys)) hp
      have sm : Same (off H N) (off (upd H p (.tup (xs ++ ys))) N) := fun c u hc => by
        by_cases hb2 : N c
        · unfold off at hc; rw [if_pos hb2] at hc; cases hc
        · rw [off_ne hb2] at hc ⊢
          rw [upd_ne (ne_of_none hc hp)]
          exact hc
      exact k _ N _ (A'.facts (.tup (.inl (.inl e)) ((hd.mono sm).append (he.mono sm))))
/-- t[lo:hi] of a tuple, not the whole -/
theorem d_slT {x : V} {ds : List PyData} {lo hi : Option Int} (hx : InL l x (.tuple ds)) (hne : ¬ (HT.sIx ds.length 0 lo = 0 ∧ HT.sIx ds.length ds.length hi = ds.length)) (k : ∀ v, RD K D0 R ((v, .tuple (cutD ds lo hi)) :: l) (Q v)) : RD K D0 R l (fun H => gSl K x lo hi H Q) := fun N H A => by
  obtain ⟨a, xs, rfl, ha, hd⟩ := (A.dt hx).tuple
  refine .inr (.inr ⟨a, xs, rfl, same_sqT off_same ha, by rw [hd.len]; exact hne, fun p hp => ?_⟩)
  obtain ⟨A', e⟩ := A.new (.tup (cutV xs lo hi)) hp
  have sm : Same (off H N) (off (upd H p (.tup (cutV xs lo hi))) N) := fun c u hc => by
    by_cases hb2 : N c
    · unfold off at hc; rw [if_pos hb2] at hc; cases hc
    · rw [off_ne hb2] at hc ⊢
      rw [upd_ne (ne_of_none hc hp)]
      exact hc
  refine k _ N _ (A'.facts (.tup (.inl (.inl e)) ?_))
  have z2 : cutD ds lo hi = (ds.drop (HT.sIx xs.length 0 lo)).take (HT.sIx xs.length xs.length hi - HT.sIx xs.length 0 lo) := by unfold cutD; rw [hd.len]
  rw [z2]
  exact ((hd.mono sm).drop _).take _
theorem cutD_head {ds : List PyData} {n : Nat} (h : n ≤ ds.length) : cutD ds none (some (n : Int)) = ds.take n := by
  unfold cutD
  rw [HT.sIx_none, HT.sIx_nat, Nat.min_eq_left h, List.drop_zero, Nat.sub_zero]
theorem cutD_tail {ds : List PyData} {n : Nat} (h : n ≤ ds.length) : cutD ds (some (n : Int)) none = ds.drop n := by
  unfold cutD
  rw [HT.sIx_none, HT.sIx_nat, Nat.min_eq_left h, List.take_of_length_le (by rw [List.length_drop]; omega)]
/-- t[:n], n not beyond -/
theorem d_headT {x : V} {ds : List PyData} {n : Nat} (hx : InL l x (.tuple ds)) (h : n < ds.length) (k : ∀ v, RD K D0 R ((v, .tuple (ds.take n)) :: l) (Q v)) : RD K D0 R l (fun H => gSl K x none (some (n : Int)) H Q) :=
  d_slT hx (by rw [HT.sIx_none, HT.sIx_nat]; omega) fun v => by rw [cutD_head (by omega)]; exact k v
theorem d_tailT {x : V} {ds : List PyData} {n : Nat} (hx : InL l x (.tuple ds)) (h0 : 0 < n) (h : n ≤ ds.length) (k : ∀ v, RD K D0 R ((v, .tuple (ds.drop n)) :: l) (Q v)) : RD K D0 R l (fun H => gSl K x (some (n : Int)) none H Q) :=
  d_slT hx (by rw [HT.sIx_none, HT.sIx_nat]; omega) fun v => by rw [cutD_tail h]; exact k v
/-- list(t) -/
theorem d_listTup {x : V} {ds : List PyData} (hx : InL l x (.tuple ds)) (k : ∀ v, RD K D0 R ((v, .list ds) :: l) (Q v)) : RD K D0 R l (fun H => gList K [x] H Q) := fun N H A => by
  obtain ⟨a, xs, rfl, ha, hd⟩ := (A.dt hx).tuple
  refine ⟨a, xs, rfl, .inr (same_sqT off_same ha), fun p hp => ?_⟩
  obtain ⟨A', e⟩ := A.new (.lst xs) hp
  have sm : Same (off H N) (off (upd H p (.lst xs)) N) := fun c u hc => by
    by_cases hb2 : N c
    · unfold off at hc; rw [if_pos hb2] at hc; cases hc
    · rw [off_ne hb2] at hc ⊢
      rw [upd_ne (ne_of_none hc hp)]
      exact hc
  exact k _ N _ (A'.facts (.lst e (hd.mono sm)))
/-- an item at a drawn place -/
theorem at_pick {α : Type} {xs : List α} {i : Int} (h0 : 0 ≤ i) (h1 : i < xs.length) : ∃ x ∈ xs, atI xs i = some x := by
  obtain ⟨j, rfl⟩ := Int.eq_ofNat_of_zero_le h0
  have hj : j < xs.length := by omega
  exact ⟨xs[j], List.getElem_mem hj, atI_nat (List.getElem?_eq_getElem hj)⟩
theorem d_pickL {x : V} {i : Int} {ds : List PyData} (hx : InL l x (.list ds)) (h0 : 0 ≤ i) (h1 : i < ds.length) (k : ∀ v d, d ∈ ds → Dv v d → RD K D0 R ((v, d) :: l) (Q v)) : RD K D0 R l (fun H => rIx K x (.int i) H Q) := by
  obtain ⟨d, hd, e⟩ := at_pick h0 h1
  exact d_ixL hx e fun v hv => k v d hd hv
theorem d_pickT {x : V} {i : Int} {ds : List PyData} (hx : InL l x (.tuple ds)) (h0 : 0 ≤ i) (h1 : i < ds.length) (k : ∀ v d, d ∈ ds → Dv v d → RD K D0 R ((v, d) :: l) (Q v)) : RD K D0 R l (fun H => rIx K x (.int i) H Q) := by
  obtain ⟨d, hd, e⟩ := at_pick h0 h1
  exact d_ixT hx e fun v hv => k v d hd hv
theorem d_pickI {x : V} {i : Int} {ns : List Int} (hx : InL l x (.list (ns.map .int))) (h0 : 0 ≤ i) (h1 : i < ns.length) (k : ∀ n ∈ ns, RD K D0 R l (Q (.int n))) : RD K D0 R l (fun H => rIx K x (.int i) H Q) :=
  d_pickL hx h0 (by rw [List.length_map]; exact h1) fun v d hd hv => by
    obtain ⟨n, hn, rfl⟩ := List.mem_map.1 hd
    cases hv
    exact RD.forget (k n hn)
end
end GL

/-! I5: owned lists of any values. -/
namespace GL
open PySem PySem.Spec L2
open PyProof.Rows hiding St
section
variable {K : PySem.W.Frag} {D0 D1 : Hp} {R S : Res} {l l' : List (V × PyData)} {σ : L2.St} {D : Ends} {Q : VK} {L : List (Addr × HO)} {T : Hp → Prop} {w : World}
theorem d_newX {xs : List V} (hl : xs.length ≤ sizeLine) (k : ∀ a, RD K D0 (star (objs [(a, .lst xs)]) R) l (Q (.ref a))) : RD K D0 R l (fun H => kLst xs H Q) := fun N H A => ⟨hl, fun p hp => k p _ _ (A.objs0.newOb (fun _ z => by cases z) hp)⟩
theorem d_ixX {a : Addr} {xs : List V} {i : Int} {v : V} (ha : (a, .lst xs) ∈ L) (hi : atI xs i = some v) (k : RD K D0 (star (objs L) R) l (Q v)) : RD K D0 (star (objs L) R) l (fun H => rIx K (.ref a) (.int i) H Q) := fun N H A =>
  .inl ⟨a, xs, i, v, rfl, rfl, SqL.of (A.ob ha), hi, k N H A⟩
theorem d_setX {a : Addr} {xs : List V} {i : Int} {j : Nat} {v : V} {Qs : Hp → Prop} (ha : (a, .lst xs) ∈ L) (hj : ixN xs.length i = some j) (k : RD K D0 (star (objs (putO L a (.lst (xs.set j v)))) R) l Qs) : RD K D0 (star (objs L) R) l (fun H => rSetL (.ref a) (.int i) v H Qs) := fun N H A =>
  ⟨a, xs, i, j, rfl, rfl, A.ob ha, hj, k _ _ (A.setOb (fun _ z => by cases z) ha)⟩
theorem RD.freezeX {a : Addr} {xs : List V} {ds : List PyData} (hx : InLs l xs ds) (k : RD K D0 R ((.ref a, .list ds) :: l) T) : RD K D0 (star (GL.objs [(a, .lst xs)]) R) l T := fun N H A => by
  obtain ⟨N1, N2, e, dj, h1, h2⟩ := A.r
  exact RD.freeze k N H ⟨A.nt, ⟨N1, N2, e, dj, ⟨fun b => (h1.1 b).trans ⟨fun ⟨o, m⟩ => congrArg Prod.fst (List.mem_singleton.1 m), fun z => ⟨.lst xs, by rw [z]; exact List.Mem.head _⟩⟩, xs, A.ob (List.Mem.head _), A.dts hx⟩, h2⟩, A.d0, A.f⟩
theorem d_lenX {a : Addr} {xs : List V} (ha : (a, .lst xs) ∈ L) (k : RD K D0 (star (objs L) R) l (Q (.int (xs.length : Nat)))) : RD K D0 (star (objs L) R) l (fun H => gLen K [.ref a] H Q) := fun N H A =>
  ⟨_, _, rfl, .inl ⟨xs, SqL.of (A.ob ha), rfl⟩, k N H A⟩
theorem d_appX {a : Addr} {xs : List V} {y : V} (ha : (a, .lst xs) ∈ L) (hz : xs.length < sizeLine) (k : RD K D0 (star (objs (putO L a (.lst (xs ++ [y])))) R) l (Q .non)) : RD K D0 (star (objs L) R) l (fun H => rAppend (.ref a) [y] H Q) := fun N H A =>
  ⟨a, xs, y, rfl, rfl, A.ob ha, hz, k _ _ (A.setOb (fun _ z => by cases z) ha)⟩
theorem d_tyX {a : Addr} {xs : List V} {T' : Hp → Prop} (ha : (a, .lst xs) ∈ L) (k : RD K D0 (star (objs L) R) l T') : RD K D0 (star (objs L) R) l (fun H => kTy K "list" (.ref a) H T') := fun N H A => ⟨.inl ⟨rfl, xs, SqL.of (A.ob ha)⟩, k N H A⟩
theorem d_while {c : TT} {tb : TS} (P : Nat → Res → L2.St → List (V × PyData) → Prop) {m0 : Nat} (h0 : P m0 R σ l)
    (hs : ∀ m R' σ' l', P m R' σ' l' → RD K D0 R' l' (fun H => c σ' H fun b H1 => if b = true then ∃ N : L2.St → Hp → Prop, (∀ σ2 H2, N σ2 H2 → ∃ m', m' < m ∧ Cont K D0 (P m') σ2 H2) ∧ tb { D with nx := N, ct := N, bk := D.nx } σ' H1 else D.nx σ' H1)) :
    RD K D0 R l (fun H => tWhile c tb D σ H) := fun N H A =>
  ⟨fun m => Cont K D0 (P m), ⟨m0, R, l, N, h0, A⟩, fun m σ' H' ⟨R', l', N', p, A'⟩ => hs m R' σ' l' p N' H' A'⟩
theorem d_whileIn {tb : TS} {P : Nat → Res → L2.St → List (V × PyData) → Prop} {m : Nat} (k : RD K D0 R l (fun H => tb { D with nx := fun σ2 H2 => ∃ m', m' < m ∧ Cont K D0 (P m') σ2 H2, ct := fun σ2 H2 => ∃ m', m' < m ∧ Cont K D0 (P m') σ2 H2, bk := D.nx } σ H)) :
    RD K D0 R l (fun H => ∃ N : L2.St → Hp → Prop, (∀ σ2 H2, N σ2 H2 → ∃ m', m' < m ∧ Cont K D0 (P m') σ2 H2) ∧ tb { D with nx := N, ct := N, bk := D.nx } σ H) := fun N H A => ⟨_, fun _ _ h => h, k N H A⟩
theorem d_whileEnd {P : Nat → Res → L2.St → List (V × PyData) → Prop} {m m' : Nat} {l' : List (V × PyData)} (lt : m' < m) (h : P m' R σ l') (s : ∀ p ∈ l', InL l p.1 p.2) : RD K D0 R l (fun H => ∃ m', m' < m ∧ Cont K D0 (P m') σ H) := fun N H A => ⟨m', lt, R, l', N, h, A.weak s⟩
/-- a new tuple of any values, known by name -/
theorem d_newTV {xs : List V} (hl : xs.length ≤ sizeLine) (k : ∀ q, D0 q = none → RD K (upd D0 q (.tup xs)) R l (Q (.ref q))) : RD K D0 R l (fun H => kTup xs H Q) := fun N H A => by
  refine ⟨hl, fun q hq => ?_⟩
  have dq : D0 q = none := by
    cases e : D0 q with
    | none => rfl
    | some u => exact absurd (A.fixed e) (by rw [hq]; exact fun z => by cases z)
  obtain ⟨A', e⟩ := A.new (.tup xs) hq
  have A2 : At K (upd D0 q (.tup xs)) R l N (upd H q (.tup xs)) := ⟨A'.nt, A'.r, fun b u h => by
    by_cases z : b = q
    · subst z
      rw [upd_same] at h
      cases h
      exact e
    · rw [upd_ne z] at h
      exact A'.d0 b u h, A'.f⟩
  exact k q dq N _ A2
theorem d_gTup2D {q : Addr} {v1 v2 : V} {g : TGs} {Qn : L2.St → Hp → Prop} (hq : D0 q = some (.tup [v1, v2])) (k : RD K D0 R l (g [v1, v2] σ · Qn)) : RD K D0 R l (fun H => gTup K 2 g (.ref q) σ H Qn) := fun N H A =>
  ⟨q, [v1, v2], rfl, .inl (.inl (A.fixed hq)), rfl, k N H A⟩
/-- a display of any values, among the owned objects -/
theorem d_newLX {xs : List V} (hl : xs.length ≤ sizeLine) (k : ∀ a, (∀ p ∈ L, a ≠ p.1) → RD K D0 (star (objs ((a, .lst xs) :: L)) R) l (Q (.ref a))) : RD K D0 (star (objs L) R) l (fun H => kLst xs H Q) := fun N H A =>
  ⟨hl, fun p hp => k p (A.ob_ne hp) _ _ (A.newOb (fun _ z => by cases z) hp)⟩
theorem InLs.tail {p : V × PyData} {vs : List V} {ds : List PyData} (h : InLs l vs ds) : InLs (p :: l) vs ds := h.weak (sub_tail sub_refl)
theorem InLs.at : ∀ {vs : List V} {ds : List PyData}, InLs l vs ds → ∀ {i : Nat} {d : PyData}, ds[i]? = some d → ∃ v, vs[i]? = some v ∧ InL l v d
  | _, _, .nil, i, d, h => by simp at h
  | _, _, .cons a b, 0, d, h => by simp at h; subst h; exact ⟨_, rfl, a⟩
  | _, _, .cons a b, i + 1, d, h => by
    obtain ⟨v, e, x⟩ := InLs.at b (i := i) (d := d) (by simpa using h)
    exact ⟨v, by simpa using e, x⟩
theorem InLs.append : ∀ {vs ws : List V} {ds es : List PyData}, InLs l vs ds → InLs l ws es → InLs l (vs ++ ws) (ds ++ es)
  | _, _, _, _, .nil, h => h
  | _, _, _, _, .cons a b, h => .cons a (InLs.append b h)
theorem star_assoc2 {R S T : Res} {N : Addr → Prop} {D H : Hp} (h : (star R (star S T)).h N D H) : (star (star R S) T).h N D H :=
  star_comm (star_assoc (star_comm (star_assoc (star_comm h))))
theorem RD.pull {S U : Res} {T : Hp → Prop} (k : RD K D0 (star S (star U R)) l T) : RD K D0 (star (star S U) R) l T := RD.res star_assoc k
theorem RD.push {S U : Res} {T : Hp → Prop} (k : RD K D0 (star (star S U) R) l T) : RD K D0 (star S (star U R)) l T := RD.res star_assoc2 k
theorem putF_new {f : Str} {v : V} : ∀ {fs : List (Str × V)}, (fs.all fun p => !decide (p.1 = f)) = true → putF f v fs = fs ++ [(f, v)]
  | [], _ => rfl
  | p :: fs, h => by
    rw [List.all_cons, Bool.and_eq_true, Bool.not_eq_true', decide_eq_false_iff_not] at h
    obtain ⟨q, u⟩ := p
    show (if q = f then _ else _) = _
    rw [if_neg h.1, putF_new h.2]
    rfl
/-- for x in (v1, .., vn), a tuple of any values known by name -/
theorem d_forTV {g : TG} {tb : TS} {q : Addr} {xs : List V} (hq : D0 q = some (.tup xs)) (P : Nat → Res → L2.St → List (V × PyData) → Prop) (h0 : P 0 R σ l)
    (hs : ∀ i x R' σ' l', xs[i]? = some x → P i R' σ' l' → RD K D0 R' l' (fun H => g x σ' H fun σ2 H2 => tb { D with nx := Cont K D0 (P (i + 1)), ct := Cont K D0 (P (i + 1)), bk := D.nx } σ2 H2))
    (hd : ∀ R' σ' l', P xs.length R' σ' l' → RD K D0 R' l' (fun H => D.nx σ' H)) :
    RD K D0 R l (fun H => wIt K (.ref q) H fun J H1 => ForK g tb D σ J H1) := fun N H A => by
  refine .inr (.inl ⟨q, rfl, ⟨xs, .inl (.inl (A.fixed hq))⟩, fun i m σ H => m = xs.length - i ∧ i ≤ xs.length ∧ Cont K D0 (P i) σ H, ⟨_, rfl, Nat.zero_le _, R, l, N, h0, A⟩, ?_⟩)
  rintro i m σ' H' ⟨rfl, hi, R', l', N', p, A'⟩
  have hq' : SqT K H' q xs := .inl (.inl (A'.fixed hq))
  by_cases hlt : i < xs.length
  · refine .inr ⟨⟨xs, xs[i], hq', by simp [hlt]⟩, Cont K D0 (P (i + 1)), fun σ2 H2 p => ⟨xs.length - (i + 1), by omega, rfl, hlt, p⟩, ?_⟩
    rintro x H2 ⟨rfl, hy⟩
    exact hs i x R' σ' l' (hy xs hq') p N' _ A'
  · have e : i = xs.length := by omega
    subst e
    exact .inl ⟨⟨xs, hq', Nat.le_refl _⟩, hd R' σ' l' p N' H' A'⟩
end
end GL

/-! G31: raise X() of an own class without a field. -/
namespace GL
open PySem PySem.Spec L2
open PyProof.Rows hiding St
section
variable {X : Cx} {C : Addr} {bmB : List Value} {B newId initId : String}
theorem pmk_own0 {x : Str} {p pos : Pos} (F : ExcBaseFacts B newId initId bmB) (q : PySem.W.excIn X.K C bmB newId = true) (gC : X.mg x = some (.ref C)) (kC : PySem.W.keepIn X.K (.ref C) = true) (r : Raises X (.ref C)) (hg : Gl X x)
    (hdb : (x == ("__debug__" : Str)) = false := by decide) : PMk X (.Call (.Name x p) [] [] pos) (fun _ H Q => Q (.ref C) none H) := by
  intro pins s σ H Q I h
  refine wpAny_Call_Name_kw (ld_glob I hg gC ?_ hdb)
  refine PySem.W.callWith_K0 I.kIn kC ?_
  show wpAny _ _ (call (.ref C) []) _ _ _
  obtain ⟨bm, N, nm, qn, bs, hdct, sn, sub, ab, col, dd, k0, k1, k2, k3, k5, mN, hC, hN, hni, T⟩ := exc_obj I.kIn q
  refine wpAny_call_exc_subT F T hC hN hni (fun h' e hm => ?_) (by show 0 ≤ sizeLine; omega)
  exact mk_of I hm r h (I.hok.gone hm.new)
def tRz0 (C : Addr) (W : WX) : TS := fun _ σ H => W (.ref C) none σ H
theorem g_raise0 {W : WX} {x : Str} {p pos pos2 : Pos} (F : ExcBaseFacts B newId initId bmB) (q : PySem.W.excIn X.K C bmB newId = true) (hc : X.calm = true) (tk : Takes X W) (hg : Gl X x) (gC : X.mg x = some (.ref C)) (kC : PySem.W.keepIn X.K (.ref C) = true) (r : Raises X (.ref C))
    (hdb : (x == ("__debug__" : Str)) = false := by decide) : PS X (.Raise (some (.Call (.Name x p) [] [] pos)) none pos2) (tRz0 C W) := ps_raise hc tk (pmk_own0 F q gC kC r hg hdb)
end
/-- an own class without a field: what its text must say -/
structure Ex0 (newId : String) (bmB : List Value) (K : PySem.W.Frag) (C : Addr) : Prop where
  q : PySem.W.excIn K C bmB newId = true
  sub : PySem.W.subIn K (.ref C) (.type "BaseException") = some true
  ty : PySem.W.typeIn K (.ref C) = some (.type "type")
  kp : PySem.W.keepIn K (.ref C) = true
  te : PySem.W.exmOne K (.ref C) (.ref C) = some true
def ex0 (newId : String) (bmB : List Value) (x : String) (K : PySem.W.Frag) : Bool :=
  PySem.W.excIn K (He.ga K x) bmB newId && (decide (PySem.W.subIn K (.ref (He.ga K x)) (.type "BaseException") = some true) && (decide (PySem.W.typeIn K (.ref (He.ga K x)) = some (.type "type")) && (PySem.W.keepIn K (.ref (He.ga K x)) && decide (PySem.W.exmOne K (.ref (He.ga K x)) (.ref (He.ga K x)) = some true))))
theorem ex0_ok {newId : String} {bmB : List Value} {K : PySem.W.Frag} {x : String} (h : ex0 newId bmB x K = true) : Ex0 newId bmB K (He.ga K x) := by
  unfold ex0 at h
  simp only [Bool.and_eq_true, decide_eq_true_eq] at h
  obtain ⟨h1, h2, h3, h4, h5⟩ := h
  exact ⟨h1, h2, h3, h4, h5⟩
section
variable {K : PySem.W.Frag} {D0 : Hp} {R : Res} {l : List (V × PyData)} {σ : L2.St} {D : Ends} {Q : VK} {T : Hp → Prop}
theorem d_rz0 {C : Addr} {W : WX} (k : RD K D0 R l (fun H => W (.ref C) none σ H)) : RD K D0 R l (fun H => tRz0 C W D σ H) := k
end
end GL

/-! G34: sum of a tuple, sorted down, zip of a tuple and a list, comprehensions with two fors, tuples known by name, facts as a resource. -/
namespace GL
open PySem PySem.Spec L2
open PyProof.Rows hiding St
open PySem.W (AllAlike Sortable dataLe)
/-! ### sum of a list or a tuple of ints -/
def rSumG (K : PySem.W.Frag) : List V → Hp → VK → Prop := fun vs H Q => ∃ (a : Addr) (ns : List Int), vs = [.ref a] ∧ (SqL K H a (ns.map V.int) ∨ SqT K H a (ns.map V.int)) ∧ Q (.int ns.sum) H
theorem preSum_all (f : Nat → Int) : True := trivial
theorem cr_sumG {X : Cx} (hc : X.calm = true) : CallR X (.builtin "sum") (rSumG X.K) := by
  intro pins s σ H xs us Q I r h
  obtain ⟨a, ns, rfl, hq | hq, q⟩ := h
  · exact cr_sum hc pins s σ H _ us Q I r ⟨a, ns, rfl, hq, q⟩
  · obtain ⟨u, rfl, ru⟩ := vals1 r
    cases (show u = Value.ref a from ru)
    obtain ⟨its, rv, p, _⟩ := I.tuple hq
    have hi : IntsAre its ns := intsAre_of rv
    obtain ⟨xs, hx⟩ := hi.allInts.items
    have hn : numsOf its = ns := hi.numsOf
    have p' : s.heap.IsTuple a its.toArray := p
    rw [hx] at p'
    have hn' : numsOf (intItems xs).toList = ns := by
      rw [← hx]
      exact hn
    rw [nums_intItems] at hn'
    refine PySem.W.ktm_sumG (I.ok.hd hc) p' fun h' tk t' hk => ?_
    rw [preSum_eq, List.take_of_length_le (by simp), hn']
    exact ⟨.int ns.sum, H, I.kept (t' := tk) hk, ⟨t', rfl⟩, q⟩
/-! ### sorted(xs, reverse=True) -/
def gSortedR (K : PySem.W.Frag) : List V → List V → Hp → VK → Prop := fun vs zs H Q => ∃ (a : Addr) (ps : List (V × PyData)), vs = [.ref a] ∧ zs = [.bl true] ∧ SqL K H a (ps.map (·.1)) ∧ (∀ p ∈ ps, Dp K H p.1 p.2) ∧ AllAlike (ps.map byD) ∧ Sortable (ps.map byD) ∧ (∀ p ∈ ps, p.2.depth ≤ 60) ∧
  ∀ q, H q = none → Q (.ref q) (upd H q (.lst ((ps.mergeSort (dataLe true byD)).map (·.1))))
theorem call_gsortedR {X : Cx} (hu : X.A.units + 64 < cLine) : CallRK X (.builtin "sorted") [Str.ofString "reverse"] (gSortedR X.K) := by
  intro pins s σ H xs zs us ws Q I r rz h
  obtain ⟨a, ps, rfl, rfl, hq, hd, al, so, dp, q⟩ := h
  obtain ⟨u, rfl, ru⟩ := vals1 r
  obtain ⟨w, rfl, rw'⟩ := vals1 rz
  cases (show u = Value.ref a from ru)
  cases (show w = Value.bool true from rw')
  obtain ⟨its, rv, pl, hz⟩ := I.list hq
  have e := each_of rv
  have er := each_in (S := fun v p => ∃ as, Reads s.heap v (byD p) as) e fun u p hp r => Dp.reads I p.2 p.1 u (hd p hp) r
  have hlen : ps.length ≤ sizeLine := by simpa using hz
  refine PySem.W.sorted_rev_data (b := true) pl.isList e er al so hlen (fun p hp => ?_) fun out hl eo => ?_
  · have := dp p hp
    show X.A.units + 2 + p.2.depth < cLine
    omega
  obtain ⟨n, at_⟩ := sortedAll_at s.heap its out.toArray
  have ov := vals_each eo
  have ol : ((ps.mergeSort (dataLe true byD)).map (·.1)).length ≤ sizeLine := by
    rw [List.length_map, List.length_mergeSort]
    exact hlen
  have new : ObjOk X.prog X.w (upd H (s.heap.objs.size + 1) (.lst ((ps.mergeSort (dataLe true byD)).map (·.1)))) (PyProof.Rows.sortedAll s.heap its out.toArray) (s.heap.objs.size + 1) (.lst ((ps.mergeSort (dataLe true byD)).map (·.1))) :=
    ⟨ol, out, n, ov, at_⟩
  have J := I.laid (t' := s.toks) (fun b u => sortedAll_old) (Nat.le_succ _) new
  exact ⟨.ref _, _, J, rfl, q _ (I.hok.fresh (Nat.le_succ _))⟩
section
variable {K : PySem.W.Frag} {D0 : Hp} {R S : Res} {l : List (V × PyData)} {σ : L2.St} {D : Ends} {Q : VK} {L : List (Addr × HO)} {T : Hp → Prop}
theorem d_sumT {x : V} {ns : List Int} (hx : InL l x (.tuple (ns.map .int))) (k : RD K D0 R l (Q (.int ns.sum))) : RD K D0 R l (fun H => rSumG K [x] H Q) := fun N H A => by
  obtain ⟨a, xs, rfl, ha, hd⟩ := (A.dt hx).tuple
  obtain rfl := hd.ints
  exact ⟨a, ns, rfl, .inr (same_sqT off_same ha), k N H A⟩
theorem d_cKw {r : List V → List V → Hp → VK → Prop} {t tk : TA} (k : RD K D0 R l (fun H => t σ H fun vs H1 => tk σ H1 fun zs H2 => r vs zs H2 Q)) : RD K D0 R l (fun H => tCKw r t tk σ H Q) := k
theorem d_sortedR {x : V} {ds : List PyData} (hx : InL l x (.list ds)) (al : AllAlike ds) (so : Sortable ds) (dp : ∀ d ∈ ds, d.depth ≤ 60) (k : ∀ v, RD K D0 R ((v, .list (ds.mergeSort (dataLe true id))) :: l) (Q v)) : RD K D0 R l (fun H => gSortedR K [x] [.bl true] H Q) := fun N H A => by
  obtain ⟨a, xs, rfl, ha, hd⟩ := (A.dt hx).list
  obtain ⟨ps, rfl, rfl, hp⟩ := dt_pairs hd
  refine ⟨a, ps, rfl, rfl, SqL.of (off_same a _ ha), fun p hm => ((hp p hm).mono off_same).dp, al, so, fun p hm => dp _ (List.mem_map.2 ⟨p, hm, rfl⟩), fun q hq => ?_⟩
  obtain ⟨A', e⟩ := A.new (.lst ((ps.mergeSort (dataLe true byD)).map (·.1))) hq
  have hp2 : ∀ p ∈ ps, Dt K (off (upd H q (.lst ((ps.mergeSort (dataLe true byD)).map (·.1)))) N) p.1 p.2 := fun p hm =>
    ((A.facts (hp p hm)).new (.lst ((ps.mergeSort (dataLe true byD)).map (·.1))) hq).1.dt (.mem List.mem_cons_self)
  have hs : DtAll K (off (upd H q (.lst ((ps.mergeSort (dataLe true byD)).map (·.1)))) N) ((ps.mergeSort (dataLe true byD)).map (·.1)) ((ps.mergeSort (dataLe true byD)).map byD) :=
    pairs_dt fun p hm => hp2 p ((List.mergeSort_perm _ _).mem_iff.1 hm)
  have em : (ps.mergeSort (dataLe true byD)).map byD = (ps.map byD).mergeSort (dataLe true id) := List.map_mergeSort fun _ _ _ _ => rfl
  rw [em] at hs
  exact k _ N _ (A'.facts (.lst e hs))
/-! ### tuple(xs), known by name -/
theorem d_tupleLD {x : V} {ds : List PyData} {ks : List Key} (hx : InL l x (.list ds)) (he : ds = ks.map kD) (k : ∀ q, D0 q = none → RD K (upd D0 q (.tup (ks.map kV))) R ((.ref q, .tuple ds) :: l) (Q (.ref q))) : RD K D0 R l (fun H => gTuple K [x] H Q) := fun N H A => by
  obtain ⟨a, xs, rfl, ha, hd⟩ := (A.dt hx).list
  have exs : xs = ks.map kV := by
    subst he
    clear ha hx k
    induction ks generalizing xs with
    | nil => cases hd; rfl
    | cons c ks ih =>
      cases hd with
      | cons h t =>
        rw [List.map_cons, ih _ t]
        cases c with
        | inl i => cases h; rfl
        | inr s => cases h; rfl
  subst exs
  refine ⟨a, _, rfl, .inl ⟨SqL.of (off_same a _ ha), fun p hp => ?_⟩⟩
  have dn : D0 p = none := by
    cases q : D0 p with
    | none => rfl
    | some o =>
      have z := A.fixed q
      rw [hp] at z
      cases z
  obtain ⟨A', e⟩ := A.new (.tup (ks.map kV)) hp
  have sm : Same (off H N) (off (upd H p (.tup (ks.map kV))) N) := fun c u hc => by
    by_cases hb2 : N c
    · unfold off at hc; rw [if_pos hb2] at hc; cases hc
    · rw [off_ne hb2] at hc ⊢
      rw [upd_ne (ne_of_none hc hp)]
      exact hc
  have A2 := A'.facts (.tup (.inl (.inl e)) (hd.mono sm))
  refine k p dn N _ ⟨A2.nt, A2.r, fun b u hb => ?_, A2.f⟩
  by_cases hbp : b = p
  · rw [hbp, upd_same] at hb
    cases hb
    rw [hbp]
    exact e
  · rw [upd_ne hbp] at hb
    exact A2.d0 _ _ hb
/-! ### zip of a tuple and a list that stand -/
theorem d_kZipTL {v1 v2 : V} {ds1 ds2 : List PyData} (h1 : InL l v1 (.tuple ds1)) (h2 : InL l v2 (.list ds2)) {Ri : It → Hp → Prop}
    (k : ∀ a b, v1 = .ref a → v2 = .ref b → RD K D0 R l (fun H => Ri (Itzg K (.tup a) (.lst b)) H)) : RD K D0 R l (fun H => kZip K [v1, v2] H Ri) := fun N H A => by
  obtain ⟨a, xs, rfl, ha, hd⟩ := (A.dt h1).tuple
  obtain ⟨b, ys, rfl, hb, he⟩ := (A.dt h2).list
  exact ⟨.tup a, .lst b, xs, ys, rfl, same_sqT off_same ha, SqL.of (off_same _ _ hb), k a b rfl rfl N H A⟩
theorem zipTL_at {N : Addr → Prop} {H : Hp} {a b : Addr} {ds1 ds2 : List PyData} (A : At K D0 R l N H) (h1 : InL l (.ref a) (.tuple ds1)) (h2 : InL l (.ref b) (.list ds2)) :
    ∃ xs ys, (Sc.tup a).has K H xs ∧ (Sc.lst b).has K H ys ∧ DtAll K (off H N) xs ds1 ∧ DtAll K (off H N) ys ds2 := by
  obtain ⟨a', xs, e1, ha, hd⟩ := (A.dt h1).tuple
  obtain ⟨b', ys, e2, hb, he⟩ := (A.dt h2).list
  cases e1
  cases e2
  exact ⟨xs, ys, same_sqT off_same ha, SqL.of (off_same _ _ hb), hd, he⟩
theorem d_forZipTL {g : TG} {tb : TS} {v1 v2 : V} {ds1 ds2 : List PyData} (P : Nat → Res → L2.St → List (V × PyData) → Prop) (hl : ds1.length = ds2.length) (hk : ∀ i R' σ' l', P i R' σ' l' → InL l' v1 (.tuple ds1) ∧ InL l' v2 (.list ds2)) (h0 : P 0 R σ l)
    (hs : ∀ (i : Nat) d1 d2 y R' σ' l', ds1[i]? = some d1 → ds2[i]? = some d2 → P i R' σ' l' → RD K D0 R' ((y, .tuple [d1, d2]) :: l') (fun H => g y σ' H fun σ2 H2 => tb { D with nx := Cont K D0 (P (i + 1)), ct := Cont K D0 (P (i + 1)), bk := D.nx } σ2 H2))
    (hd : ∀ R' σ' l', P ds1.length R' σ' l' → RD K D0 R' l' (fun H => D.nx σ' H)) :
    RD K D0 R l (fun H => kZip K [v1, v2] H fun J H1 => ForK g tb D σ J H1) := by
  obtain ⟨g1, g2⟩ := hk 0 R σ l h0
  refine d_kZipTL g1 g2 fun a b e1 e2 => ?_
  subst e1 e2
  intro N H A
  refine ⟨fun i m σ H => m = ds1.length - i ∧ i ≤ ds1.length ∧ Cont K D0 (P i) σ H, ⟨_, rfl, Nat.zero_le _, R, l, N, h0, A⟩, ?_⟩
  rintro i m σ' H' ⟨rfl, hi, R', l', N', p, A'⟩
  obtain ⟨q1, q2⟩ := hk i R' σ' l' p
  obtain ⟨xs, ys, hx, hy, dx, dy⟩ := zipTL_at A' q1 q2
  by_cases hlt : i < ds1.length
  · refine .inr ⟨⟨xs, ys, hx, hy, by rw [dx.len]; exact hlt, by rw [dy.len]; omega⟩, Cont K D0 (P (i + 1)), fun σ2 H2 p => ⟨ds1.length - (i + 1), by omega, rfl, hlt, p⟩, ?_⟩
    rintro y H2 ⟨Tn, x1, x2, rfl, hT, rfl, c1, c2⟩
    obtain ⟨d1, e1, f1⟩ := dx.get (c1 xs hx)
    obtain ⟨d2, e2, f2⟩ := dy.get (c2 ys hy)
    obtain ⟨A2, e⟩ := ((A'.facts f1).facts (d := d2) f2).new (.tup [x1, x2]) hT
    have f : Dt K (off (upd H' Tn (.tup [x1, x2])) N') (.ref Tn) (.tuple [d1, d2]) := .tup (.inl (.inl e)) (.cons (A2.dt (.mem (List.mem_cons_of_mem _ List.mem_cons_self))) (.cons (A2.dt (.mem List.mem_cons_self)) .nil))
    exact hs i d1 d2 (.ref Tn) R' σ' l' e1 e2 p N' _ ((A2.weak (l' := l') fun p hp => .mem (List.mem_cons_of_mem _ (List.mem_cons_of_mem _ hp))).facts f)
  · have e : i = ds1.length := by omega
    subst e
    exact .inl ⟨⟨xs, ys, hx, hy, by rw [dx.len, dy.len]; omega⟩, hd R' σ' l' p N' H' A'⟩
theorem d_lcZipTL {g : TG} {tt : TT} {te : TE} {vs : List Nat} {v1 v2 : V} {ds1 ds2 : List PyData} (h1 : InL l v1 (.tuple ds1)) (h2 : InL l v2 (.list ds2)) (hl : ds1.length = ds2.length) (Pd : Nat → List PyData → Prop) (h0 : Pd 0 [])
    (hs : ∀ (i : Nat) d1 d2 y Dd es, ds1[i]? = some d1 → ds2[i]? = some d2 → Pd i es → RD K D0 (star (own K Dd es) R) ((y, .tuple [d1, d2]) :: l) (fun H => g y (wipe σ vs) H fun σ2 H2 => kWipe σ2 vs σ H2 fun H2 => tt σ2 H2 fun b H3 =>
      if b = true then te σ2 H3 fun y H4 => kItem Dd y H4 (ContC K D0 Dd (Cont1 K D0 R l (Pd (i + 1)))) else ContC K D0 Dd (Cont1 K D0 R l (Pd (i + 1))) H3))
    (hd : ∀ v es, Pd ds1.length es → RD K D0 R ((v, .list es) :: l) (Q v)) :
    RD K D0 R l (fun H => kZip K [v1, v2] H fun J H1 => LcK g tt te vs σ Q J H1) := by
  refine d_kZipTL h1 h2 fun a b e1 e2 => ?_
  subst e1 e2
  intro N H A Dd hD
  refine ⟨fun i m H => m = ds1.length - i ∧ i ≤ ds1.length ∧ ContC K D0 Dd (Cont1 K D0 R l (Pd i)) H, ⟨_, rfl, Nat.zero_le _, R, l, [], _, ⟨rfl, rfl, h0⟩, A.newOwn hD .nil⟩, ?_⟩
  rintro i m H' ⟨rfl, hi, R', l', es, N', ⟨rfl, rfl, p⟩, A'⟩
  obtain ⟨xs, ys, hx, hy, dx, dy⟩ := zipTL_at A' h1 h2
  by_cases hlt : i < ds1.length
  · refine .inr ⟨⟨xs, ys, hx, hy, by rw [dx.len]; exact hlt, by rw [dy.len]; omega⟩, ContC K D0 Dd (Cont1 K D0 R' l' (Pd (i + 1))), fun H2 p => ⟨ds1.length - (i + 1), by omega, rfl, hlt, p⟩, ?_⟩
    rintro y H2 ⟨Tn, x1, x2, rfl, hT, rfl, c1, c2⟩
    obtain ⟨d1, e1, f1⟩ := dx.get (c1 xs hx)
    obtain ⟨d2, e2, f2⟩ := dy.get (c2 ys hy)
    obtain ⟨A2, e⟩ := ((A'.facts f1).facts (d := d2) f2).new (.tup [x1, x2]) hT
    have f : Dt K (off (upd H' Tn (.tup [x1, x2])) N') (.ref Tn) (.tuple [d1, d2]) := .tup (.inl (.inl e)) (.cons (A2.dt (.mem (List.mem_cons_of_mem _ List.mem_cons_self))) (.cons (A2.dt (.mem List.mem_cons_self)) .nil))
    exact hs i d1 d2 (.ref Tn) Dd es e1 e2 p N' _ ((A2.weak (l' := l') fun p hp => .mem (List.mem_cons_of_mem _ (List.mem_cons_of_mem _ hp))).facts f)
  · have e : i = ds1.length := by omega
    subst e
    obtain ⟨N2, A2⟩ := A'.freeze
    exact .inl ⟨⟨xs, ys, hx, hy, by rw [dx.len, dy.len]; omega⟩, hd (.ref Dd) es p N2 H' A2⟩
/-! ### comprehensions with two fors -/
def Lc2K (wi : TI) (g : TG) (tt : TT) (wi1 : TI) (g1 : TG) (tt1 : TT) (te : TE) (vs vs1 : List Nat) (σ : L2.St) (Q : VK) (J : It) (H1 : Hp) : Prop := ∀ D, H1 D = none → ∃ W : Nat → Nat → Hp → Prop, (∃ m, W 0 m (upd H1 D (.lst []))) ∧ ∀ i m H, W i m H →
  (J.stop i H ∧ Q (.ref D) H) ∨ (J.go i H ∧ ∃ Nx : Hp → Prop, (∀ H', Nx H' → ∃ m', m' < m ∧ W (i + 1) m' H') ∧ ∀ x H', J.yld i H x H' → g x (wipe σ vs) H' fun σ2 H2 => wipe σ2 vs = wipe σ vs ∧ tt σ2 H2 fun b H3 =>
    if b = true then wi1 σ2 H3 fun J1 H4 => ∃ W1 : Nat → Nat → Hp → Prop, (∃ m, W1 0 m H4) ∧ ∀ j k H, W1 j k H →
      (J1.stop j H ∧ Nx H) ∨ (J1.go j H ∧ ∃ Nx1 : Hp → Prop, (∀ H', Nx1 H' → ∃ k', k' < k ∧ W1 (j + 1) k' H') ∧ ∀ x H', J1.yld j H x H' → g1 x (wipe σ2 vs1) H' fun σ3 H5 => wipe σ3 vs1 = wipe σ2 vs1 ∧ tt1 σ3 H5 fun b H6 =>
        if b = true then te σ3 H6 fun y H7 => ∃ acc, H7 D = some (.lst acc) ∧ acc.length < sizeLine ∧ Nx1 (upd H7 D (.lst (acc ++ [y]))) else Nx1 H6)
    else Nx H3)
theorem d_lc2 {wi wi1 : TI} {g g1 : TG} {tt tt1 : TT} {te : TE} {vs vs1 : List Nat} (k : RD K D0 R l (fun H => wi σ H fun J H1 => Lc2K wi g tt wi1 g1 tt1 te vs vs1 σ Q J H1)) : RD K D0 R l (fun H => tLc2 wi g tt wi1 g1 tt1 te vs vs1 σ H Q) := k
/-- the inner walk -/
def LcIn (g1 : TG) (tt1 : TT) (te : TE) (vs1 : List Nat) (σ2 : L2.St) (D : Addr) (Nx : Hp → Prop) (J1 : It) (H4 : Hp) : Prop := ∃ W1 : Nat → Nat → Hp → Prop, (∃ m, W1 0 m H4) ∧ ∀ j k H, W1 j k H →
      (J1.stop j H ∧ Nx H) ∨ (J1.go j H ∧ ∃ Nx1 : Hp → Prop, (∀ H', Nx1 H' → ∃ k', k' < k ∧ W1 (j + 1) k' H') ∧ ∀ x H', J1.yld j H x H' → g1 x (wipe σ2 vs1) H' fun σ3 H5 => kWipe σ3 vs1 σ2 H5 fun H5 => tt1 σ3 H5 fun b H6 =>
        if b = true then te σ3 H6 fun y H7 => kItem D y H7 Nx1 else Nx1 H6)
/-- outer: enumerate of a tuple -/
theorem d_lc2EngT {wi wi1 : TI} {g g1 : TG} {tt tt1 : TT} {te : TE} {vs vs1 : List Nat} {v : V} {ds : List PyData} (hv : InL l v (.tuple ds)) (Pd : Nat → List PyData → Prop) (h0 : Pd 0 [])
    (hs : ∀ (i : Nat) d y Dd es, ds[i]? = some d → Pd i es → RD K D0 (star (own K Dd es) R) ((y, .tuple [.int i, d]) :: l) (fun H => g y (wipe σ vs) H fun σ2 H2 => kWipe σ2 vs σ H2 fun H2 => tt σ2 H2 fun b H3 =>
      if b = true then wi1 σ2 H3 fun J1 H4 => LcIn g1 tt1 te vs1 σ2 Dd (ContC K D0 Dd (Cont1 K D0 R l (Pd (i + 1)))) J1 H4 else ContC K D0 Dd (Cont1 K D0 R l (Pd (i + 1))) H3))
    (hd : ∀ v es, Pd ds.length es → RD K D0 R ((v, .list es) :: l) (Q v)) :
    RD K D0 R l (fun H => kEng K [v] H fun J H1 => Lc2K wi g tt wi1 g1 tt1 te vs vs1 σ Q J H1) := fun N H A => by
  obtain ⟨a, xs, rfl, ha, hd0⟩ := (A.dt hv).tuple
  refine ⟨.tup a, xs, rfl, same_sqT off_same ha, fun Dd hD => ⟨fun i m H => m = ds.length - i ∧ i ≤ ds.length ∧ ContC K D0 Dd (Cont1 K D0 R l (Pd i)) H, ⟨_, rfl, Nat.zero_le _, R, l, [], _, ⟨rfl, rfl, h0⟩, A.newOwn hD .nil⟩, ?_⟩⟩
  rintro i m H' ⟨rfl, hi, R', l', es, N', ⟨rfl, rfl, p⟩, A'⟩
  obtain ⟨a', xs', e, h', d'⟩ := (A'.dt hv).tuple
  cases e
  have hq : (Sc.tup a).has K H' xs' := same_sqT off_same h'
  by_cases hlt : i < ds.length
  · refine .inr ⟨⟨xs', hq, by rw [d'.len]; exact hlt⟩, ContC K D0 Dd (Cont1 K D0 R' l' (Pd (i + 1))), fun H2 p => ⟨ds.length - (i + 1), by omega, rfl, hlt, p⟩, ?_⟩
    rintro y H2 ⟨T, x, rfl, hT, rfl, hy⟩
    obtain ⟨d, e1, e2⟩ := d'.get (hy xs' hq)
    obtain ⟨A2, e⟩ := (A'.facts e2).new (.tup [.int (i : Nat), x]) hT
    have f : Dt K (off (upd H' T (.tup [.int (i : Nat), x])) N') (.ref T) (.tuple [.int (i : Nat), d]) := .tup (.inl (.inl e)) (.cons (.int _) (.cons (A2.dt (.mem List.mem_cons_self)) .nil))
    exact hs i d (.ref T) Dd es e1 p N' _ ((A2.weak (l' := l') fun p hp => .mem (List.mem_cons_of_mem _ hp)).facts f)
  · have e : i = ds.length := by omega
    subst e
    obtain ⟨N2, A2⟩ := A'.freeze
    exact .inl ⟨⟨xs', hq, d'.len.symm⟩, hd (.ref Dd) es p N2 H' A2⟩
/-- inner: a tuple -/
theorem d_lcInT {g1 : TG} {tt1 : TT} {te : TE} {vs1 : List Nat} {σ2 : L2.St} {v : V} {ds : List PyData} {Dd : Addr} {Nx : Hp → Prop} {l0 : List (V × PyData)} {es0 : List PyData} (hv : InL l v (.tuple ds)) (Pd : Nat → List PyData → Prop) (h0 : Pd 0 es0)
    (hs : ∀ (j : Nat) d x es, ds[j]? = some d → Dv x d → Pd j es → RD K D0 (star (own K Dd es) R) ((x, d) :: l) (fun H => g1 x (wipe σ2 vs1) H fun σ3 H5 => kWipe σ3 vs1 σ2 H5 fun H5 => tt1 σ3 H5 fun b H6 =>
      if b = true then te σ3 H6 fun y H7 => kItem Dd y H7 (ContC K D0 Dd (Cont1 K D0 R l (Pd (j + 1)))) else ContC K D0 Dd (Cont1 K D0 R l (Pd (j + 1))) H6))
    (hd : ∀ es, Pd ds.length es → RD K D0 (star (own K Dd es) R) l Nx) :
    RD K D0 (star (own K Dd es0) R) l (fun H => wIt K v H fun J1 H4 => LcIn g1 tt1 te vs1 σ2 Dd Nx J1 H4) := fun N H A => by
  obtain ⟨a, xs, rfl, ha, hd0⟩ := (A.dt hv).tuple
  refine .inr (.inl ⟨a, rfl, ⟨xs, same_sqT off_same ha⟩, fun i m H => m = ds.length - i ∧ i ≤ ds.length ∧ ContC K D0 Dd (Cont1 K D0 R l (Pd i)) H, ⟨_, rfl, Nat.zero_le _, R, l, es0, N, ⟨rfl, rfl, h0⟩, A⟩, ?_⟩)
  rintro i m H' ⟨rfl, hi, R', l', es, N', ⟨rfl, rfl, p⟩, A'⟩
  obtain ⟨a', xs', e, h', d'⟩ := (A'.dt hv).tuple
  cases e
  have hq : SqT K H' a xs' := same_sqT off_same h'
  by_cases hlt : i < ds.length
  · have hx : i < xs'.length := by rw [d'.len]; exact hlt
    refine .inr ⟨⟨xs', xs'[i], hq, by simp [hx]⟩, ContC K D0 Dd (Cont1 K D0 R' l' (Pd (i + 1))), fun H2 p => ⟨ds.length - (i + 1), by omega, rfl, hlt, p⟩, ?_⟩
    rintro x H2 ⟨rfl, hy⟩
    obtain ⟨d, e1, e2⟩ := d'.get (hy xs' hq)
    exact hs i d x es e1 e2.dv p N' _ (A'.facts e2)
  · have e : i = ds.length := by omega
    subst e
    exact .inl ⟨⟨xs', hq, by rw [d'.len]; exact Nat.le_refl _⟩, hd es p N' H' A'⟩
/-! ### facts as a resource -/
def facts (K : PySem.W.Frag) (vs : List V) (ds : List PyData) : Res where
  h := fun N D _ => (∀ b, ¬ N b) ∧ DtAll K D vs ds
  st := fun ⟨e, h⟩ d _ => ⟨e, h.mono d⟩
theorem zip_facts {H : Hp} : ∀ {vs : List V} {ds : List PyData}, DtAll K H vs ds → ∀ p ∈ vs.zip ds, Dt K H p.1 p.2
  | _, _, .nil, p, hp => by cases hp
  | _, _, .cons a b, p, hp => by
    rw [List.zip_cons_cons] at hp
    rcases List.mem_cons.1 hp with rfl | hp
    · exact a
    · exact zip_facts b p hp
theorem RD.openFacts {vs : List V} {ds : List PyData} (k : RD K D0 R (vs.zip ds ++ l) T) : RD K D0 (star (facts K vs ds) R) l T := fun N H A => by
  obtain ⟨N1, N2, e, dj, ⟨e1, hd⟩, h2⟩ := A.r
  have en : ∀ b, N b ↔ N2 b := fun b => (e b).trans ⟨fun z => z.elim (fun q => absurd q (e1 b)) id, .inr⟩
  have eN : N = N2 := funext fun b => propext (en b)
  subst eN
  refine k N H ⟨A.nt, h2, A.d0, fun p hp => ?_⟩
  rcases List.mem_append.1 hp with hp | hp
  · exact zip_facts hd p hp
  · exact A.f p hp
theorem RD.closeFacts {vs : List V} {ds : List PyData} (h : InLs l vs ds) (k : RD K D0 (star (facts K vs ds) R) l T) : RD K D0 R l T := fun N H A =>
  k N H ⟨A.nt, ⟨fun _ => False, N, fun b => ⟨.inr, fun z => z.elim False.elim id⟩, fun _ z _ => z, ⟨fun _ z => z, A.dts h⟩, A.r⟩, A.d0, A.f⟩
theorem loc_of {S : Res} (h : ∀ {N D D' H}, S.h N D H → S.h N D' H) : True := trivial
end
end GL

/-! L85: the errors. -/
namespace L85
open PySem PySem.Spec L2 GL
open PyProof.Rows hiding St
open SX (S)
def names : List String := ["NotALog", "InvalidRules", "InvalidClaim", "Unpaired", "ParseError", "UnknownState", "UnknownEdge", "UnknownCheckpoint", "UnknownRecord", "EdgeExists", "Endless", "LimitExceeded"]
def builts : List String := ["ValueError", "LookupError", "RuntimeError", "OverflowError", "KeyError", "IndexError", "NotImplementedError", "ZeroDivisionError"]
def grpI : List Nat := [0, 0, 0, 0, 0, 1, 1, 1, 1, 2, 2, 3]
def nm (j : Nat) : String := names.getD j ""
def kitsB (K : PySem.W.Frag) : Bool := (List.range 12).all fun j => excC K (He.ga K (nm j)) && ((List.range 12).all fun i => decide (PySem.W.kitOne K (.ref (He.ga K (nm j))) (.ref (He.ga K (nm i))) = some (decide (i = j)))) &&
  ((List.range 8).all fun i => decide (PySem.W.kitOne K (.ref (He.ga K (nm j))) (.type (builts.getD i "")) = some (decide (i = grpI.getD j 0))))
structure KitsOk (K : PySem.W.Frag) : Prop where
  exc : ∀ j < 12, ExcC K (He.ga K (nm j))
  own : ∀ j < 12, ∀ i < 12, PySem.W.kitOne K (.ref (He.ga K (nm j))) (.ref (He.ga K (nm i))) = some (decide (i = j))
  blt : ∀ j < 12, ∀ i < 8, PySem.W.kitOne K (.ref (He.ga K (nm j))) (.type (builts.getD i "")) = some (decide (i = grpI.getD j 0))
theorem kits_ok {K : PySem.W.Frag} (h : kitsB K = true) : KitsOk K := by
  unfold kitsB at h
  rw [List.all_eq_true] at h
  refine ⟨fun j hj => ?_, fun j hj i hi => ?_, fun j hj i hi => ?_⟩
  all_goals
    have z := h j (List.mem_range.2 hj)
    rw [Bool.and_eq_true, Bool.and_eq_true, List.all_eq_true, List.all_eq_true] at z
  · exact excC_ok z.1.1
  · exact of_decide_eq_true (z.1.2 i (List.mem_range.2 hi))
  · exact of_decide_eq_true (z.2 i (List.mem_range.2 hi))
local macro_rules | `(tactic| walk_at "mem") => `(tactic| (first | exact List.Mem.head _ | exact List.Mem.tail _ (List.Mem.head _) | exact List.Mem.tail _ (List.Mem.tail _ (List.Mem.head _)) | ((repeat (first | exact List.Mem.head _ | apply List.Mem.tail)); done)))
local macro_rules | `(tactic| walk_at "inl") => `(tactic| (first | exact InL.int _ | exact InL.str _ | exact InL.bl _ | exact InL.non | (refine InL.mem ?zm; walk_at "mem") | assumption))
local macro_rules | `(tactic| walk_at "inls") => `(tactic| (repeat (first | exact InLs.nil | (refine InLs.cons ?zi ?_; case zi => walk_at "inl"))))
local macro_rules | `(tactic| walk_at "set") => `(tactic| (simp only [wipe, List.set_cons_succ, List.set_cons_zero]; rfl))
local macro_rules | `(tactic| walk_at "tails") => `(tactic| (first | exact sub_refl | exact sub_tail sub_refl | exact sub_tail (sub_tail sub_refl) | exact sub_nil | ((repeat (first | exact sub_refl | apply sub_tail)); done)))
local macro_rules | `(tactic| walk_at "sub") => `(tactic| (first | walk_at "tails" | ((repeat (refine sub_cons ?zi ?_; case zi => walk_at "inl")); walk_at "tails")))
local macro_rules | `(tactic| walk_at "g1") => `(tactic| (first
  | with_reducible refine d_seq ?_
  | with_reducible refine d_asg ?_
  | ((with_reducible refine d_name (σ' := ?zs) ?zh ?_); (case zh => walk_at "set"))
  | ((with_reducible refine d_var (v := ?zs) ?zh ?_); (case zh => rfl))
  | with_reducible refine d_C ?_
  | with_reducible refine d_op ?_
  | with_reducible refine d_cons ?_
  | with_reducible refine d_nil ?_
  | with_reducible refine d_cb ?_
  | with_reducible refine d_g ?_
  | with_reducible refine d_ifS ?_
  | with_reducible refine d_test ?_
  | with_reducible refine d_bl ?_
  | with_reducible refine d_addI ?_
  | with_reducible refine d_I0 ?_
  | with_reducible refine d_ret ?_
  | with_reducible refine d_retN ?_
  | with_reducible refine d_next ?_
  | with_reducible refine d_drop ?_
  | with_reducible refine d_and ?_
  | with_reducible refine d_or ?_
  | with_reducible refine d_not ?_
  | with_reducible refine d_andV ?_
  | with_reducible refine d_orV ?_
  | with_reducible refine d_notV ?_
  | with_reducible refine d_tru ?_
  | with_reducible refine d_truB ?_
  | with_reducible refine d_tif ?_
  | with_reducible refine d_iteT ?_
  | with_reducible refine d_iteF ?_
  | with_reducible refine d_iteNT ?_
  | with_reducible refine d_iteNF ?_
  | with_reducible refine d_eqI ?_
  | with_reducible refine d_neI ?_
  | with_reducible refine d_eqS ?_
  | with_reducible refine d_neS ?_
  | with_reducible refine d_eqB ?_
  | with_reducible refine d_neB ?_
  | with_reducible refine d_isN ?_
  | with_reducible refine d_notN ?_
  | with_reducible refine d_bm ?_
  | with_reducible refine d_tyS ?_
  | with_reducible refine d_tyO ?_
  | with_reducible refine d_find3 ?_
  | with_reducible refine d_tup ?_
  | with_reducible refine d_lst ?_
  | with_reducible refine d_for ?_
  | with_reducible refine d_iRng1 ?_
  | with_reducible refine d_gIt ?_
  | with_reducible refine d_lc ?_
  | with_reducible refine d_yes ?_
  | with_reducible refine d_tSl ?_
  | with_reducible refine d_noPart ?_
  | with_reducible refine d_part ?_
  | with_reducible refine d_int ?_
  | ((with_reducible refine d_wipe ?zh ?_); (case zh => rfl))
  | ((with_reducible refine d_aug (v := ?zs) ?zh ?_); (case zh => rfl))
  | with_reducible refine d_ipI ?_
  | ((with_reducible refine d_set (σ' := ?zs) ?zh ?_); (case zh => walk_at "set"))))
local macro_rules | `(tactic| walk_at "go") => `(tactic| (repeat walk_at "g1"))
local macro_rules | `(tactic| walk_at "g1") => `(tactic| (first
  | with_reducible refine d_par ?_
  | with_reducible refine d_kPar ?_
  | with_reducible refine d_tMkX ?_
  | with_reducible refine d_tFldE ?_))
def sp__law_kinds (K : PySem.W.Frag) : Sp := fun vs H Q _ => ∃ (a : Addr) (j : Nat) (D0 : Hp) (F : Res) (l : List (V × PyData)) (N : Addr → Prop), vs = [.ref a] ∧ j < 12 ∧ ExAt D0 a (He.ga K (nm j)) ∧ At K D0 F l N H ∧ ∀ u l3, (∀ q ∈ l, InL l3 q.1 q.2) → RD K D0 F ((u, .list ((List.range 12).map fun i => .bool (decide (i = j)))) :: l3) (Q u)
def t__law_kinds (K : PySem.W.Frag) (W : WX) : TS := (tSeq (tAsg (tLst (tCons (tCB (rIsE K) (tCons (tVar 0) (tCons (tC (.ref (He.ga K "NotALog"))) tNil))) (tCons (tCB (rIsE K) (tCons (tVar 0) (tCons (tC (.ref (He.ga K "InvalidRules"))) tNil))) (tCons (tCB (rIsE K) (tCons (tVar 0) (tCons (tC (.ref (He.ga K "InvalidClaim"))) tNil))) (tCons (tCB (rIsE K) (tCons (tVar 0) (tCons (tC (.ref (He.ga K "Unpaired"))) tNil))) tNil))))) (gName 1))
  (tSeq (tAsg (tOp (gAdd K) (tVar 1) (tLst (tCons (tCB (rIsE K) (tCons (tVar 0) (tCons (tC (.ref (He.ga K "ParseError"))) tNil))) (tCons (tCB (rIsE K) (tCons (tVar 0) (tCons (tC (.ref (He.ga K "UnknownState"))) tNil))) (tCons (tCB (rIsE K) (tCons (tVar 0) (tCons (tC (.ref (He.ga K "UnknownEdge"))) tNil))) tNil))))) (gName 1))
  (tSeq (tAsg (tOp (gAdd K) (tVar 1) (tLst (tCons (tCB (rIsE K) (tCons (tVar 0) (tCons (tC (.ref (He.ga K "UnknownCheckpoint"))) tNil))) (tCons (tCB (rIsE K) (tCons (tVar 0) (tCons (tC (.ref (He.ga K "UnknownRecord"))) tNil))) (tCons (tCB (rIsE K) (tCons (tVar 0) (tCons (tC (.ref (He.ga K "EdgeExists"))) tNil))) tNil))))) (gName 1))
  (tRet (tOp (gAdd K) (tVar 1) (tLst (tCons (tCB (rIsE K) (tCons (tVar 0) (tCons (tC (.ref (He.ga K "Endless"))) tNil))) (tCons (tCB (rIsE K) (tCons (tVar 0) (tCons (tC (.ref (He.ga K "LimitExceeded"))) tNil))) tNil))))))))

def sp__law_built (K : PySem.W.Frag) : Sp := fun vs H Q _ => ∃ (a : Addr) (j : Nat) (D0 : Hp) (F : Res) (l : List (V × PyData)) (N : Addr → Prop), vs = [.ref a] ∧ j < 12 ∧ ExAt D0 a (He.ga K (nm j)) ∧ At K D0 F l N H ∧ ∀ u l3, (∀ q ∈ l, InL l3 q.1 q.2) → RD K D0 F ((u, .list ((List.range 8).map fun i => .bool (decide (i = grpI.getD j 0)))) :: l3) (Q u)
def t__law_built (K : PySem.W.Frag) (W : WX) : TS := (tSeq (tAsg (tLst (tCons (tCB (rIsE K) (tCons (tVar 0) (tCons (tC (.ty "ValueError")) tNil))) (tCons (tCB (rIsE K) (tCons (tVar 0) (tCons (tC (.ty "LookupError")) tNil))) (tCons (tCB (rIsE K) (tCons (tVar 0) (tCons (tC (.ty "RuntimeError")) tNil))) tNil)))) (gName 1))
  (tSeq (tAsg (tOp (gAdd K) (tVar 1) (tLst (tCons (tCB (rIsE K) (tCons (tVar 0) (tCons (tC (.ty "OverflowError")) tNil))) (tCons (tCB (rIsE K) (tCons (tVar 0) (tCons (tC (.ty "KeyError")) tNil))) (tCons (tCB (rIsE K) (tCons (tVar 0) (tCons (tC (.ty "IndexError")) tNil))) tNil))))) (gName 1))
  (tRet (tOp (gAdd K) (tVar 1) (tLst (tCons (tCB (rIsE K) (tCons (tVar 0) (tCons (tC (.ty "NotImplementedError")) tNil))) (tCons (tCB (rIsE K) (tCons (tVar 0) (tCons (tC (.ty "ZeroDivisionError")) tNil))) tNil)))))))

def t_law (K : PySem.W.Frag) (W : WX) : TS := (tSeq (tAsg (tOp gMod (tCB gAbs (tCons (tCB (rSumG K) (tCons (tSl (gSl K) (tVar 0) tNoPart (tPart (tC (.int 3)))) tNil)) tNil)) (tC (.int 1000003))) (gName 1))
  (tSeq (tPar 2 3 (tCons (tTup (tCons (tVar 1) (tCons (tC (.int 0)) tNil))) (tCons (tTup (tCons (tVar 1) (tCons (tC (.str "a")) (tCons (tC (.int 0)) tNil)))) tNil)))
  (tSeq (tAsg (tLst (tCons (tMkX (He.ga K "NotALog") "value" (tCons (tVar 2) tNil)) (tCons (tMkX (He.ga K "InvalidRules") "place" (tCons (tVar 2) tNil)) (tCons (tMk0 (He.ga K "InvalidClaim")) (tCons (tMk0 (He.ga K "Unpaired")) (tCons (tMkX (He.ga K "ParseError") "line" (tCons (tVar 1) tNil)) tNil)))))) (gName 4))
  (tSeq (tAsg (tOp (gAdd K) (tVar 4) (tLst (tCons (tMkX (He.ga K "UnknownState") "state" (tCons (tVar 1) tNil)) (tCons (tMkX (He.ga K "UnknownEdge") "edge" (tCons (tVar 3) tNil)) (tCons (tMkX (He.ga K "UnknownCheckpoint") "number" (tCons (tVar 1) tNil)) tNil))))) (gName 4))
  (tSeq (tAsg (tOp (gAdd K) (tVar 4) (tLst (tCons (tMkX (He.ga K "UnknownRecord") "number" (tCons (tVar 1) tNil)) (tCons (tMkX (He.ga K "EdgeExists") "edge" (tCons (tVar 3) tNil)) (tCons (tMk0 (He.ga K "Endless")) (tCons (tMkX (He.ga K "LimitExceeded") "limit" (tCons (tVar 1) tNil)) tNil)))))) (gName 4))
  (tSeq (tAsg (tOp (gAdd K) (tOp (gAdd K) (tOp rRep (tLst (tCons (tC (.int 0)) tNil)) (tC (.int 5))) (tOp rRep (tLst (tCons (tC (.int 1)) tNil)) (tC (.int 4)))) (tLst (tCons (tC (.int 2)) (tCons (tC (.int 2)) (tCons (tC (.int 3)) tNil))))) (gName 5))
  (tSeq (tFor (iRng1 (tCons (tC (.int 12)) tNil)) (gName 6) (tSeq (tIfS (tTest (tOp (gNe K) (tG (sp__law_kinds K) W (tCons (tOp (rIx K) (tVar 4) (tVar 6)) tNil)) (tLc (iRng1 (tCons (tC (.int 12)) tNil)) (gName 7) tYes (tOp (gEq K) (tVar 7) (tVar 6)) [7]))) (tRet (tC (.bl false))) tNext)
  (tIfS (tTest (tOp (gNe K) (tG (sp__law_built K) W (tCons (tOp (rIx K) (tVar 4) (tVar 6)) tNil)) (tLc (iRng1 (tCons (tC (.int 8)) tNil)) (gName 7) tYes (tOp (gEq K) (tVar 7) (tOp (rIx K) (tVar 5) (tVar 6))) [7]))) (tRet (tC (.bl false))) tNext)))
  (tSeq (tAsg (tLst (tCons (tFldE K "value" (tOp (rIx K) (tVar 4) (tC (.int 0)))) (tCons (tFldE K "place" (tOp (rIx K) (tVar 4) (tC (.int 1)))) (tCons (tFldE K "value" (tMkX (He.ga K "NotALog") "value" (tCons (tVar 2) tNil))) (tCons (tFldE K "place" (tMkX (He.ga K "InvalidRules") "place" (tCons (tVar 2) tNil))) tNil))))) (gName 8))
  (tSeq (tAsg (tLst (tCons (tFldE K "edge" (tOp (rIx K) (tVar 4) (tC (.int 6)))) (tCons (tFldE K "edge" (tOp (rIx K) (tVar 4) (tC (.int 9)))) (tCons (tFldE K "edge" (tMkX (He.ga K "UnknownEdge") "edge" (tCons (tVar 3) tNil))) (tCons (tFldE K "edge" (tMkX (He.ga K "EdgeExists") "edge" (tCons (tVar 3) tNil))) tNil))))) (gName 9))
  (tSeq (tIfS (tOr (tTest (tOp (gNe K) (tVar 8) (tOp rRep (tLst (tCons (tVar 2) tNil)) (tC (.int 4))))) (tTest (tOp (gNe K) (tVar 9) (tOp rRep (tLst (tCons (tVar 3) tNil)) (tC (.int 4)))))) (tRet (tC (.bl false))) tNext)
  (tSeq (tAsg (tLst (tCons (tFldE K "line" (tOp (rIx K) (tVar 4) (tC (.int 4)))) (tCons (tFldE K "state" (tOp (rIx K) (tVar 4) (tC (.int 5)))) (tCons (tFldE K "number" (tOp (rIx K) (tVar 4) (tC (.int 7)))) (tCons (tFldE K "number" (tOp (rIx K) (tVar 4) (tC (.int 8)))) (tCons (tFldE K "limit" (tOp (rIx K) (tVar 4) (tC (.int 11)))) (tCons (tFldE K "line" (tMkX (He.ga K "ParseError") "line" (tCons (tVar 1) tNil))) tNil))))))) (gName 8))
  (tSeq (tAsg (tOp (gAdd K) (tVar 8) (tLst (tCons (tFldE K "state" (tMkX (He.ga K "UnknownState") "state" (tCons (tVar 1) tNil))) (tCons (tFldE K "number" (tMkX (He.ga K "UnknownCheckpoint") "number" (tCons (tVar 1) tNil))) (tCons (tFldE K "number" (tMkX (He.ga K "UnknownRecord") "number" (tCons (tVar 1) tNil))) tNil))))) (gName 8))
  (tRet (tOp (gEq K) (tOp (gAdd K) (tVar 8) (tLst (tCons (tFldE K "limit" (tMkX (He.ga K "LimitExceeded") "limit" (tCons (tVar 1) tNil))) tNil))) (tOp rRep (tLst (tCons (tVar 1) tNil)) (tC (.int 10)))))))))))))))))

section
variable {K : PySem.W.Frag} {W : WX} {D0 : Hp} {R : Res} {l : List (V × PyData)} {Q : VK} {vs : List V} {H : Hp} {E : XK} {T : Hp → Prop} {σ : L2.St} {D : Ends}
theorem len__law_kinds (h : sp__law_kinds K vs H Q E) : vs.length = 1 := by
  obtain ⟨_, _, _, _, _, _, rfl, _⟩ := h
  rfl
theorem len__law_built (h : sp__law_built K vs H Q E) : vs.length = 1 := by
  obtain ⟨_, _, _, _, _, _, rfl, _⟩ := h
  rfl
theorem ExAt.up {D1 D2 : Hp} {a C : Addr} (s : Same D1 D2) (h : ExAt D1 a C) : ExAt D2 a C := by
  rcases h with ⟨d, fs, h1, h2⟩ | h1
  · exact .inl ⟨d, fs, s _ _ h1, s _ _ h2⟩
  · exact .inr (s _ _ h1)
theorem d_isE {a C : Addr} {c : V} {u : Value} {b : Bool} (hx : ExAt D0 a C) (T : ExcC K C) (cv : ClsV c u) (hk : PySem.W.kitOne K (.ref C) u = some b) (k : RD K D0 R l (Q (.bl b))) : RD K D0 R l (fun H => rIsE K [.ref a, c] H Q) := fun N H A =>
  ⟨a, C, c, u, b, rfl, cv, ExAt.up (fun b u e => A.fixed e) hx, T, hk, k N H A⟩
theorem d_own {a : Addr} {j i : Nat} {n : String} (KI : KitsOk K) (hj : j < 12) (hi : i < 12) (hx : ExAt D0 a (He.ga K (nm j))) (e : n = nm i) (k : RD K D0 R l (Q (.bl (decide (i = j))))) : RD K D0 R l (fun H => rIsE K [.ref a, .ref (He.ga K n)] H Q) := by
  rw [e]
  exact d_isE hx (KI.exc j hj) (.own _) (KI.own j hj i hi) k
theorem d_blt {a : Addr} {j i : Nat} {n : String} (KI : KitsOk K) (hj : j < 12) (hi : i < 8) (hx : ExAt D0 a (He.ga K (nm j))) (e : n = builts.getD i "") (k : RD K D0 R l (Q (.bl (decide (i = grpI.getD j 0))))) : RD K D0 R l (fun H => rIsE K [.ref a, .ty n] H Q) := by
  rw [e]
  exact d_isE hx (KI.exc j hj) (.ty _) (KI.blt j hj i hi) k
theorem pure__law_kinds (KI : KitsOk K) (h : sp__law_kinds K vs H Q E) : t__law_kinds K W { nx := fun _ H' => Q .non H', rt := Q } (start ["e", "found"] vs) H := by
  obtain ⟨a, j, D0, F, l, N, rfl, hj, hx, A, kk⟩ := h
  refine (?_ : RD K D0 F l (fun H => t__law_kinds K W _ [some (.ref a), none] H)) N H A
  have big := line_big
  unfold t__law_kinds
  walk_at "go"
  refine d_own (i := 0) KI hj (by decide) hx rfl ?_
  walk_at "go"
  refine d_own (i := 1) KI hj (by decide) hx rfl ?_
  walk_at "go"
  refine d_own (i := 2) KI hj (by decide) hx rfl ?_
  walk_at "go"
  refine d_own (i := 3) KI hj (by decide) hx rfl ?_
  walk_at "go"
  refine d_newL (ds := [.bool (decide (0 = j)), .bool (decide (1 = j)), .bool (decide (2 = j)), .bool (decide (3 = j))]) (Nat.le_trans (show 4 ≤ 16777216 by decide) big) (by walk_at "inls") fun u1 => ?_
  walk_at "go"
  refine d_own (i := 4) KI hj (by decide) hx rfl ?_
  walk_at "go"
  refine d_own (i := 5) KI hj (by decide) hx rfl ?_
  walk_at "go"
  refine d_own (i := 6) KI hj (by decide) hx rfl ?_
  walk_at "go"
  refine d_newL (ds := [.bool (decide (4 = j)), .bool (decide (5 = j)), .bool (decide (6 = j))]) (Nat.le_trans (show 3 ≤ 16777216 by decide) big) (by walk_at "inls") fun u2 => ?_
  refine d_catL (.mem (by walk_at "mem")) (.mem (List.Mem.head _)) (Nat.le_trans (show 7 ≤ 16777216 by decide) big) fun u3 => ?_
  walk_at "go"
  refine d_own (i := 7) KI hj (by decide) hx rfl ?_
  walk_at "go"
  refine d_own (i := 8) KI hj (by decide) hx rfl ?_
  walk_at "go"
  refine d_own (i := 9) KI hj (by decide) hx rfl ?_
  walk_at "go"
  refine d_newL (ds := [.bool (decide (7 = j)), .bool (decide (8 = j)), .bool (decide (9 = j))]) (Nat.le_trans (show 3 ≤ 16777216 by decide) big) (by walk_at "inls") fun u4 => ?_
  refine d_catL (.mem (by walk_at "mem")) (.mem (List.Mem.head _)) (Nat.le_trans (show 10 ≤ 16777216 by decide) big) fun u5 => ?_
  walk_at "go"
  refine d_own (i := 10) KI hj (by decide) hx rfl ?_
  walk_at "go"
  refine d_own (i := 11) KI hj (by decide) hx rfl ?_
  walk_at "go"
  refine d_newL (ds := [.bool (decide (10 = j)), .bool (decide (11 = j))]) (Nat.le_trans (show 2 ≤ 16777216 by decide) big) (by walk_at "inls") fun u6 => ?_
  refine d_catL (.mem (by walk_at "mem")) (.mem (List.Mem.head _)) (Nat.le_trans (show 12 ≤ 16777216 by decide) big) fun u7 => ?_
  exact kk u7 _ (by walk_at "tails")
theorem pure__law_built (KI : KitsOk K) (h : sp__law_built K vs H Q E) : t__law_built K W { nx := fun _ H' => Q .non H', rt := Q } (start ["e", "found"] vs) H := by
  obtain ⟨a, j, D0, F, l, N, rfl, hj, hx, A, kk⟩ := h
  refine (?_ : RD K D0 F l (fun H => t__law_built K W _ [some (.ref a), none] H)) N H A
  have big := line_big
  unfold t__law_built
  walk_at "go"
  refine d_blt (i := 0) KI hj (by decide) hx rfl ?_
  walk_at "go"
  refine d_blt (i := 1) KI hj (by decide) hx rfl ?_
  walk_at "go"
  refine d_blt (i := 2) KI hj (by decide) hx rfl ?_
  walk_at "go"
  refine d_newL (ds := [.bool (decide (0 = grpI.getD j 0)), .bool (decide (1 = grpI.getD j 0)), .bool (decide (2 = grpI.getD j 0))]) (Nat.le_trans (show 3 ≤ 16777216 by decide) big) (by walk_at "inls") fun u1 => ?_
  walk_at "go"
  refine d_blt (i := 3) KI hj (by decide) hx rfl ?_
  walk_at "go"
  refine d_blt (i := 4) KI hj (by decide) hx rfl ?_
  walk_at "go"
  refine d_blt (i := 5) KI hj (by decide) hx rfl ?_
  walk_at "go"
  refine d_newL (ds := [.bool (decide (3 = grpI.getD j 0)), .bool (decide (4 = grpI.getD j 0)), .bool (decide (5 = grpI.getD j 0))]) (Nat.le_trans (show 3 ≤ 16777216 by decide) big) (by walk_at "inls") fun u2 => ?_
  refine d_catL (.mem (by walk_at "mem")) (.mem (List.Mem.head _)) (Nat.le_trans (show 6 ≤ 16777216 by decide) big) fun u3 => ?_
  walk_at "go"
  refine d_blt (i := 6) KI hj (by decide) hx rfl ?_
  walk_at "go"
  refine d_blt (i := 7) KI hj (by decide) hx rfl ?_
  walk_at "go"
  refine d_newL (ds := [.bool (decide (6 = grpI.getD j 0)), .bool (decide (7 = grpI.getD j 0))]) (Nat.le_trans (show 2 ≤ 16777216 by decide) big) (by walk_at "inls") fun u4 => ?_
  refine d_catL (.mem (by walk_at "mem")) (.mem (List.Mem.head _)) (Nat.le_trans (show 8 ≤ 16777216 by decide) big) fun u5 => ?_
  exact kk u5 _ (by walk_at "tails")
theorem d_kinds {a : Addr} {j : Nat} (hj : j < 12) (hx : ExAt D0 a (He.ga K (nm j))) (kk : ∀ u l3, (∀ q ∈ l, InL l3 q.1 q.2) → RD K D0 R ((u, .list ((List.range 12).map fun i => .bool (decide (i = j)))) :: l3) (Q u)) : RD K D0 R l (fun H => sp__law_kinds K [.ref a] H Q E) := fun N H A => ⟨a, j, D0, R, l, N, rfl, hj, hx, A, kk⟩
theorem d_built {a : Addr} {j : Nat} (hj : j < 12) (hx : ExAt D0 a (He.ga K (nm j))) (kk : ∀ u l3, (∀ q ∈ l, InL l3 q.1 q.2) → RD K D0 R ((u, .list ((List.range 8).map fun i => .bool (decide (i = grpI.getD j 0)))) :: l3) (Q u)) : RD K D0 R l (fun H => sp__law_built K [.ref a] H Q E) := fun N H A => ⟨a, j, D0, R, l, N, rfl, hj, hx, A, kk⟩
theorem zero_of_At {N : Addr → Prop} {p : Addr} (A : At K D0 R l N H) (hp : H p = none) : D0 p = none := by
  cases e : D0 p with
  | none => rfl
  | some u =>
    have z := A.fixed e
    rw [hp] at z
    cases z
theorem newDA {N : Addr → Prop} {p : Addr} {o : HO} (A : At K D0 R l N H) (hp : H p = none) : At K (upd D0 p o) R l N (upd H p o) := by
  obtain ⟨A1, e⟩ := A.new o hp
  refine ⟨A1.nt, A1.r, fun b u h => ?_, A1.f⟩
  by_cases z : b = p
  · subst z
    rw [upd_same] at h
    cases h
    exact e
  · rw [upd_ne z] at h
    exact A1.d0 b u h
def Kept (D0 : Hp) (a C : Addr) (n : Str) (y : V) : Prop := ∃ d, D0 a = some (exo a C (some d)) ∧ D0 d = some (exd d [(n, y)])
theorem Kept.up {D1 D2 : Hp} {a C : Addr} {n : Str} {y : V} (h : Kept D1 a C n y) (s : Same D1 D2) : Kept D2 a C n y := by
  obtain ⟨d, h1, h2⟩ := h
  exact ⟨d, s _ _ h1, s _ _ h2⟩
theorem Kept.at {a C : Addr} {n : Str} {y : V} (h : Kept D0 a C n y) : ExAt D0 a C := by
  obtain ⟨d, h1, h2⟩ := h
  exact .inl ⟨d, _, h1, h2⟩
theorem d_mkX {C : Addr} {n : Str} {y : V} (k : ∀ D1 a, Same D0 D1 → Kept D1 a C n y → RD K D1 R l (Q (.ref a))) : RD K D0 R l (fun H => kMkX C n [y] H Q) := fun N H A => ⟨y, rfl, fun a d ha hd ne => by
  have A1 := newDA A (o := exd d [(n, y)]) hd
  have ha2 : upd H d (exd d [(n, y)]) a = none := by
    rw [upd_ne (Ne.symm ne)]
    exact ha
  have A2 := newDA A1 (o := exo a C (some d)) ha2
  have za := zero_of_At A ha
  have zd := zero_of_At A hd
  refine k _ a (fun b u e => ?_) ⟨d, upd_same, ?_⟩ N _ A2
  · have n1 : b ≠ a := fun z => by rw [z, za] at e; cases e
    have n2 : b ≠ d := fun z => by rw [z, zd] at e; cases e
    rw [upd_ne n1, upd_ne n2]
    exact e
  · rw [upd_ne ne]
    exact upd_same⟩
theorem same_new {p : Addr} {o : HO} {N : Addr → Prop} (A : At K D0 R l N H) (hp : H p = none) : Same D0 (upd D0 p o) := fun b u e => by
  have z := zero_of_At A hp
  have n1 : b ≠ p := fun y => by rw [y, z] at e; cases e
  rw [upd_ne n1]
  exact e
theorem d_mk0 {C : Addr} (k : ∀ D1 a, Same D0 D1 → D1 a = some (ExO (.ref C) a) → RD K D1 R l (Q (.ref a))) : RD K D0 R l (fun H => tMk0 C σ H Q) := fun N H A a ha => k _ a (same_new A ha) upd_same N _ (newDA A ha)
theorem d_newLD {xs : List V} (hl : xs.length ≤ sizeLine) (k : ∀ D1 a, Same D0 D1 → D1 a = some (.lst xs) → RD K D1 R l (Q (.ref a))) : RD K D0 R l (fun H => kLst xs H Q) := fun N H A => ⟨hl, fun p hp => k _ p (same_new A hp) upd_same N _ (newDA A hp)⟩
theorem d_catLD {a b : Addr} {xs ys : List V} (ha : D0 a = some (.lst xs)) (hb : D0 b = some (.lst ys)) (hl : xs.length + ys.length ≤ sizeLine) (k : ∀ D1 c, Same D0 D1 → D1 c = some (.lst (xs ++ ys)) → RD K D1 R l (Q (.ref c))) : RD K D0 R l (fun H => gAdd K (.ref a) (.ref b) H Q) := fun N H A =>
  .inr (.inr (.inl ⟨a, b, xs, ys, rfl, rfl, A.fixed ha, A.fixed hb, hl, fun p hp => k _ p (same_new A hp) upd_same N _ (newDA A hp)⟩))
theorem d_ixLD {a : Addr} {xs : List V} {i : Int} {v : V} (ha : D0 a = some (.lst xs)) (hi : atI xs i = some v) (k : RD K D0 R l (Q v)) : RD K D0 R l (fun H => rIx K (.ref a) (.int i) H Q) := fun N H A => .inl ⟨a, xs, i, v, rfl, rfl, SqL.of (A.fixed ha), hi, k N H A⟩
theorem d_fldE {a C : Addr} {n : Str} {y : V} (h : Kept D0 a C n y) (X : XfC K C) (no : PySem.W.findIn K (.ref C) n = some none) (k : RD K D0 R l (Q y)) : RD K D0 R l (fun H => kFldE K n (.ref a) H Q) := fun N H A => by
  obtain ⟨d, h1, h2⟩ := h
  exact ⟨a, d, C, _, y, rfl, A.fixed h1, A.fixed h2, by simp [List.lookup], X, no, k N H A⟩
theorem repDt {H : Hp} {xs : List V} {ds : List PyData} (h : DtAll K H xs ds) : ∀ k : Nat, DtAll K H (List.replicate k xs).flatten (List.replicate k ds).flatten
  | 0 => .nil
  | k + 1 => by
    rw [List.replicate_succ, List.replicate_succ, List.flatten_cons, List.flatten_cons]
    exact h.append (repDt h k)
theorem d_rep {v : V} {ds : List PyData} {k : Nat} (hv : InL l v (.list ds)) (hk : k ≤ 1000) (hz : ds.length * k ≤ 16777216) (kk : ∀ u, RD K D0 R ((u, .list (List.replicate k ds).flatten) :: l) (Q u)) : RD K D0 R l (fun H => rRep v (.int k) H Q) := fun N H A => by
  obtain ⟨a, xs, rfl, ha, hd⟩ := (A.dt hv).list
  refine ⟨a, k, xs, rfl, rfl, off_same a _ ha, by omega, by omega, ?_, fun p hp => ?_⟩
  · rw [hd.len, Int.toNat_natCast]
    exact Nat.le_trans hz line_big
  · rw [Int.toNat_natCast]
    obtain ⟨A1, e⟩ := A.new (.lst (List.replicate k xs).flatten) hp
    obtain ⟨a2, xs2, e2, ha2, hd2⟩ := (A1.dt hv).list
    cases e2
    have e3 : xs2 = xs := by
      have y1 := off_same _ _ ha2
      have y2 := off_same _ _ ha
      have ne : a ≠ p := fun z => by rw [z, hp] at y2; cases y2
      rw [upd_ne ne, y2] at y1
      cases y1
      rfl
    subst e3
    exact kk (.ref p) N _ (A1.facts (.lst e (repDt hd2 k)))
theorem d_abs {i : Int} (k : RD K D0 R l (Q (.int (if i < 0 then -i else i)))) : RD K D0 R l (fun H => gAbs [.int i] H Q) := fun N H A => ⟨i, rfl, k N H A⟩
theorem eqv_bools (f : Nat → Bool) : ∀ xs : List Nat, PyData.eqvAll (xs.map fun i => .bool (f i)) (xs.map fun i => .bool (f i)) = true
  | [] => by simp [PyData.eqvAll]
  | x :: xs => by
    rw [List.map_cons]
    simp only [PyData.eqvAll]
    rw [eqv_bools f xs]
    simp [PyData.eqv]
theorem dep_bools (f : Nat → Bool) (xs : List Nat) : (PyData.list (xs.map fun i => .bool (f i))).depth ≤ 60 := by
  have h : PyData.depthAll (xs.map fun i => .bool (f i)) = 0 := by
    induction xs with
    | nil => simp [PyData.depthAll]
    | cons x xs ih =>
      rw [List.map_cons]
      simp only [PyData.depthAll]
      rw [ih]
      simp [PyData.depth]
  simp only [PyData.depth, h]
  omega
theorem at_nat {α : Type} {xs : List α} {j : Nat} {x : α} (h : xs[j]? = some x) : atI xs (0 + (j : Int)) = some x := by
  obtain ⟨hj, e⟩ := List.getElem?_eq_some_iff.1 h
  have hn : ixN xs.length (0 + (j : Int)) = some j := by
    unfold ixN
    rw [if_pos (by omega), if_pos (by omega)]
    rw [show (0 + (j : Int)).toNat = j by omega]
  show (ixN xs.length (0 + (j : Int))).bind _ = _
  rw [hn]
  exact h
abbrev bmV : List Value := [.type "ValueError", .type "Exception", .type "BaseException", .type "object"]
def grpD : List PyData := [.int 0, .int 0, .int 0, .int 0, .int 0] ++ [.int 1, .int 1, .int 1, .int 1] ++ [.int 2, .int 2, .int 3]
theorem grp_at : ∀ j < 12, grpD[j]? = some (.int (grpI.getD j 0 : Nat)) := fun j hj => by
  have : j = 0 ∨ j = 1 ∨ j = 2 ∨ j = 3 ∨ j = 4 ∨ j = 5 ∨ j = 6 ∨ j = 7 ∨ j = 8 ∨ j = 9 ∨ j = 10 ∨ j = 11 := by omega
  rcases this with rfl | rfl | rfl | rfl | rfl | rfl | rfl | rfl | rfl | rfl | rfl | rfl <;> rfl
end
def t_f (K : PySem.W.Frag) (W : WX) : TS := (tSeq (tIfS (tTest (tOp (gNe K) (tG (sp__law_kinds K) W (tCons (tOp (rIx K) (tVar 4) (tVar 6)) tNil)) (tLc (iRng1 (tCons (tC (.int 12)) tNil)) (gName 7) tYes (tOp (gEq K) (tVar 7) (tVar 6)) [7]))) (tRet (tC (.bl false))) tNext)
  (tIfS (tTest (tOp (gNe K) (tG (sp__law_built K) W (tCons (tOp (rIx K) (tVar 4) (tVar 6)) tNil)) (tLc (iRng1 (tCons (tC (.int 8)) tNil)) (gName 7) tYes (tOp (gEq K) (tVar 7) (tOp (rIx K) (tVar 5) (tVar 6))) [7]))) (tRet (tC (.bl false))) tNext))

def t_e (K : PySem.W.Frag) (W : WX) : TS := (tSeq (tAsg (tLst (tCons (tFldE K "value" (tOp (rIx K) (tVar 4) (tC (.int 0)))) (tCons (tFldE K "place" (tOp (rIx K) (tVar 4) (tC (.int 1)))) (tCons (tFldE K "value" (tMkX (He.ga K "NotALog") "value" (tCons (tVar 2) tNil))) (tCons (tFldE K "place" (tMkX (He.ga K "InvalidRules") "place" (tCons (tVar 2) tNil))) tNil))))) (gName 8))
  (tSeq (tAsg (tLst (tCons (tFldE K "edge" (tOp (rIx K) (tVar 4) (tC (.int 6)))) (tCons (tFldE K "edge" (tOp (rIx K) (tVar 4) (tC (.int 9)))) (tCons (tFldE K "edge" (tMkX (He.ga K "UnknownEdge") "edge" (tCons (tVar 3) tNil))) (tCons (tFldE K "edge" (tMkX (He.ga K "EdgeExists") "edge" (tCons (tVar 3) tNil))) tNil))))) (gName 9))
  (tSeq (tIfS (tOr (tTest (tOp (gNe K) (tVar 8) (tOp rRep (tLst (tCons (tVar 2) tNil)) (tC (.int 4))))) (tTest (tOp (gNe K) (tVar 9) (tOp rRep (tLst (tCons (tVar 3) tNil)) (tC (.int 4)))))) (tRet (tC (.bl false))) tNext)
  (tSeq (tAsg (tLst (tCons (tFldE K "line" (tOp (rIx K) (tVar 4) (tC (.int 4)))) (tCons (tFldE K "state" (tOp (rIx K) (tVar 4) (tC (.int 5)))) (tCons (tFldE K "number" (tOp (rIx K) (tVar 4) (tC (.int 7)))) (tCons (tFldE K "number" (tOp (rIx K) (tVar 4) (tC (.int 8)))) (tCons (tFldE K "limit" (tOp (rIx K) (tVar 4) (tC (.int 11)))) (tCons (tFldE K "line" (tMkX (He.ga K "ParseError") "line" (tCons (tVar 1) tNil))) tNil))))))) (gName 8))
  (tSeq (tAsg (tOp (gAdd K) (tVar 8) (tLst (tCons (tFldE K "state" (tMkX (He.ga K "UnknownState") "state" (tCons (tVar 1) tNil))) (tCons (tFldE K "number" (tMkX (He.ga K "UnknownCheckpoint") "number" (tCons (tVar 1) tNil))) (tCons (tFldE K "number" (tMkX (He.ga K "UnknownRecord") "number" (tCons (tVar 1) tNil))) tNil))))) (gName 8))
  (tRet (tOp (gEq K) (tOp (gAdd K) (tVar 8) (tLst (tCons (tFldE K "limit" (tMkX (He.ga K "LimitExceeded") "limit" (tCons (tVar 1) tNil))) tNil))) (tOp rRep (tLst (tCons (tVar 1) tNil)) (tC (.int 10))))))))))

def t_r1 (K : PySem.W.Frag) (W : WX) : TS := (tSeq (tPar 2 3 (tCons (tTup (tCons (tVar 1) (tCons (tC (.int 0)) tNil))) (tCons (tTup (tCons (tVar 1) (tCons (tC (.str "a")) (tCons (tC (.int 0)) tNil)))) tNil)))
  (tSeq (tAsg (tLst (tCons (tMkX (He.ga K "NotALog") "value" (tCons (tVar 2) tNil)) (tCons (tMkX (He.ga K "InvalidRules") "place" (tCons (tVar 2) tNil)) (tCons (tMk0 (He.ga K "InvalidClaim")) (tCons (tMk0 (He.ga K "Unpaired")) (tCons (tMkX (He.ga K "ParseError") "line" (tCons (tVar 1) tNil)) tNil)))))) (gName 4))
  (tSeq (tAsg (tOp (gAdd K) (tVar 4) (tLst (tCons (tMkX (He.ga K "UnknownState") "state" (tCons (tVar 1) tNil)) (tCons (tMkX (He.ga K "UnknownEdge") "edge" (tCons (tVar 3) tNil)) (tCons (tMkX (He.ga K "UnknownCheckpoint") "number" (tCons (tVar 1) tNil)) tNil))))) (gName 4))
  (tSeq (tAsg (tOp (gAdd K) (tVar 4) (tLst (tCons (tMkX (He.ga K "UnknownRecord") "number" (tCons (tVar 1) tNil)) (tCons (tMkX (He.ga K "EdgeExists") "edge" (tCons (tVar 3) tNil)) (tCons (tMk0 (He.ga K "Endless")) (tCons (tMkX (He.ga K "LimitExceeded") "limit" (tCons (tVar 1) tNil)) tNil)))))) (gName 4))
  (tSeq (tAsg (tOp (gAdd K) (tOp (gAdd K) (tOp rRep (tLst (tCons (tC (.int 0)) tNil)) (tC (.int 5))) (tOp rRep (tLst (tCons (tC (.int 1)) tNil)) (tC (.int 4)))) (tLst (tCons (tC (.int 2)) (tCons (tC (.int 2)) (tCons (tC (.int 3)) tNil))))) (gName 5))
  (tSeq (tFor (iRng1 (tCons (tC (.int 12)) tNil)) (gName 6) (tSeq (tIfS (tTest (tOp (gNe K) (tG (sp__law_kinds K) W (tCons (tOp (rIx K) (tVar 4) (tVar 6)) tNil)) (tLc (iRng1 (tCons (tC (.int 12)) tNil)) (gName 7) tYes (tOp (gEq K) (tVar 7) (tVar 6)) [7]))) (tRet (tC (.bl false))) tNext)
  (tIfS (tTest (tOp (gNe K) (tG (sp__law_built K) W (tCons (tOp (rIx K) (tVar 4) (tVar 6)) tNil)) (tLc (iRng1 (tCons (tC (.int 8)) tNil)) (gName 7) tYes (tOp (gEq K) (tVar 7) (tOp (rIx K) (tVar 5) (tVar 6))) [7]))) (tRet (tC (.bl false))) tNext)))
  (tSeq (tAsg (tLst (tCons (tFldE K "value" (tOp (rIx K) (tVar 4) (tC (.int 0)))) (tCons (tFldE K "place" (tOp (rIx K) (tVar 4) (tC (.int 1)))) (tCons (tFldE K "value" (tMkX (He.ga K "NotALog") "value" (tCons (tVar 2) tNil))) (tCons (tFldE K "place" (tMkX (He.ga K "InvalidRules") "place" (tCons (tVar 2) tNil))) tNil))))) (gName 8))
  (tSeq (tAsg (tLst (tCons (tFldE K "edge" (tOp (rIx K) (tVar 4) (tC (.int 6)))) (tCons (tFldE K "edge" (tOp (rIx K) (tVar 4) (tC (.int 9)))) (tCons (tFldE K "edge" (tMkX (He.ga K "UnknownEdge") "edge" (tCons (tVar 3) tNil))) (tCons (tFldE K "edge" (tMkX (He.ga K "EdgeExists") "edge" (tCons (tVar 3) tNil))) tNil))))) (gName 9))
  (tSeq (tIfS (tOr (tTest (tOp (gNe K) (tVar 8) (tOp rRep (tLst (tCons (tVar 2) tNil)) (tC (.int 4))))) (tTest (tOp (gNe K) (tVar 9) (tOp rRep (tLst (tCons (tVar 3) tNil)) (tC (.int 4)))))) (tRet (tC (.bl false))) tNext)
  (tSeq (tAsg (tLst (tCons (tFldE K "line" (tOp (rIx K) (tVar 4) (tC (.int 4)))) (tCons (tFldE K "state" (tOp (rIx K) (tVar 4) (tC (.int 5)))) (tCons (tFldE K "number" (tOp (rIx K) (tVar 4) (tC (.int 7)))) (tCons (tFldE K "number" (tOp (rIx K) (tVar 4) (tC (.int 8)))) (tCons (tFldE K "limit" (tOp (rIx K) (tVar 4) (tC (.int 11)))) (tCons (tFldE K "line" (tMkX (He.ga K "ParseError") "line" (tCons (tVar 1) tNil))) tNil))))))) (gName 8))
  (tSeq (tAsg (tOp (gAdd K) (tVar 8) (tLst (tCons (tFldE K "state" (tMkX (He.ga K "UnknownState") "state" (tCons (tVar 1) tNil))) (tCons (tFldE K "number" (tMkX (He.ga K "UnknownCheckpoint") "number" (tCons (tVar 1) tNil))) (tCons (tFldE K "number" (tMkX (He.ga K "UnknownRecord") "number" (tCons (tVar 1) tNil))) tNil))))) (gName 8))
  (tRet (tOp (gEq K) (tOp (gAdd K) (tVar 8) (tLst (tCons (tFldE K "limit" (tMkX (He.ga K "LimitExceeded") "limit" (tCons (tVar 1) tNil))) tNil))) (tOp rRep (tLst (tCons (tVar 1) tNil)) (tC (.int 10))))))))))))))))

section
variable {K : PySem.W.Frag} {W : WX} {D0 : Hp} {R : Res} {l : List (V × PyData)} {Q : VK} {vs : List V} {H : Hp} {E : XK} {T : Hp → Prop} {σ : L2.St} {D : Ends}
theorem pure_law (KI : KitsOk K) (T_EdgeExists : ExB "RuntimeError" "RuntimeError.__new__" bmRE K (He.ga K "EdgeExists") (He.ma K (He.ga K "EdgeExists") "__init__") "edge") (T_InvalidRules : ExB "ValueError" "ValueError.__new__" bmV K (He.ga K "InvalidRules") (He.ma K (He.ga K "InvalidRules") "__init__") "place") (T_LimitExceeded : ExB "OverflowError" "OverflowError.__new__" bmOE K (He.ga K "LimitExceeded") (He.ma K (He.ga K "LimitExceeded") "__init__") "limit") (T_NotALog : ExB "ValueError" "ValueError.__new__" bmV K (He.ga K "NotALog") (He.ma K (He.ga K "NotALog") "__init__") "value") (T_ParseError : ExB "ValueError" "ValueError.__new__" bmV K (He.ga K "ParseError") (He.ma K (He.ga K "ParseError") "__init__") "line") (T_UnknownCheckpoint : ExB "LookupError" "LookupError.__new__" bmLE K (He.ga K "UnknownCheckpoint") (He.ma K (He.ga K "UnknownCheckpoint") "__init__") "number") (T_UnknownEdge : ExB "LookupError" "LookupError.__new__" bmLE K (He.ga K "UnknownEdge") (He.ma K (He.ga K "UnknownEdge") "__init__") "edge") (T_UnknownRecord : ExB "LookupError" "LookupError.__new__" bmLE K (He.ga K "UnknownRecord") (He.ma K (He.ga K "UnknownRecord") "__init__") "number") (T_UnknownState : ExB "LookupError" "LookupError.__new__" bmLE K (He.ga K "UnknownState") (He.ma K (He.ga K "UnknownState") "__init__") "state") (h : spLaw K vs H Q E) : t_law K W { nx := fun _ H' => Q .non H', rt := Q } (start ["script", "many", "some", "triple", "made", "groups", "k", "at", "found", "edges"] vs) H := by
  obtain ⟨a, ns, rfl, hS, hl, kk⟩ := h
  have big := line_big
  obtain ⟨ms, em, hm⟩ := cutV_ints ns none (some 3)
  unfold t_law
  refine ⟨.ref a, rfl, ?_⟩
  refine ⟨3, rfl, ?_⟩
  refine .inl ⟨a, _, rfl, hS, fun p hp => ?_⟩
  rw [em]
  refine ⟨p, ms, rfl, .inl (SqL.of upd_same), ?_⟩
  refine ⟨_, rfl, ?_⟩
  refine ⟨_, _, rfl, rfl, (show (0 : Int) < 1000003 by decide), ?_⟩
  have A0 : At K (fun _ => none) emp [] (fun _ => False) H := ⟨fun _ h => h.elim, fun _ h => h, (fun _ _ h => by cases h), (fun _ h => absurd h List.not_mem_nil)⟩
  obtain ⟨A1, _⟩ := A0.new (.lst (ms.map V.int)) hp
  refine (?_ : RD K (fun _ => none) emp [] (fun H => t_r1 K W { nx := fun _ H' => Q .non H', rt := Q } [some (.ref a), some (.int ((if ms.sum < 0 then -ms.sum else ms.sum) % 1000003)), none, none, none, none, none, none, none, none] H)) _ _ A1
  generalize (if ms.sum < 0 then -ms.sum else ms.sum) % 1000003 = m
  unfold t_r1
  walk_at "go"
  refine d_newT (ds := [.int m, .int 0]) (show 2 ≤ sizeLine by decide) (by walk_at "inls") fun w2 => ?_
  walk_at "go"
  refine d_newT (ds := [.int m, .str "a", .int 0]) (show 3 ≤ sizeLine by decide) (by walk_at "inls") fun w3 => ?_
  walk_at "go"
  refine d_mkX fun D1 a0 s1 h0 => ?_
  walk_at "go"
  refine d_mkX fun D2 a1 s2 h1 => ?_
  walk_at "go"
  refine d_mk0 fun D3 a2 s3 h2 => ?_
  walk_at "go"
  refine d_mk0 fun D4 a3 s4 h3 => ?_
  walk_at "go"
  refine d_mkX fun D5 a4 s5 h4 => ?_
  walk_at "go"
  refine d_newLD (Nat.le_trans (show 5 ≤ 16777216 by decide) big) fun D6 p1 s6 kp1 => ?_
  walk_at "go"
  refine d_mkX fun D7 a5 s7 h5 => ?_
  walk_at "go"
  refine d_mkX fun D8 a6 s8 h6 => ?_
  walk_at "go"
  refine d_mkX fun D9 a7 s9 h7 => ?_
  walk_at "go"
  refine d_newLD (Nat.le_trans (show 3 ≤ 16777216 by decide) big) fun D10 p2 s10 kp2 => ?_
  refine d_catLD (s10 _ _ (s9 _ _ (s8 _ _ (s7 _ _ kp1)))) kp2 (Nat.le_trans (show 8 ≤ 16777216 by decide) big) fun D11 p3 s11 kp3 => ?_
  walk_at "go"
  refine d_mkX fun D12 a8 s12 h8 => ?_
  walk_at "go"
  refine d_mkX fun D13 a9 s13 h9 => ?_
  walk_at "go"
  refine d_mk0 fun D14 a10 s14 h10 => ?_
  walk_at "go"
  refine d_mkX fun D15 a11 s15 h11 => ?_
  walk_at "go"
  refine d_newLD (Nat.le_trans (show 4 ≤ 16777216 by decide) big) fun D16 p4 s16 kp4 => ?_
  refine d_catLD (s16 _ _ (s15 _ _ (s14 _ _ (s13 _ _ (s12 _ _ kp3))))) kp4 (Nat.le_trans (show 12 ≤ 16777216 by decide) big) fun D17 p5 s17 kp5 => ?_
  have g0 := (Kept.up (Kept.up (Kept.up (Kept.up (Kept.up (Kept.up (Kept.up (Kept.up (Kept.up (Kept.up (Kept.up (Kept.up (Kept.up (Kept.up (Kept.up (Kept.up h0 s2) s3) s4) s5) s6) s7) s8) s9) s10) s11) s12) s13) s14) s15) s16) s17)
  have g1 := (Kept.up (Kept.up (Kept.up (Kept.up (Kept.up (Kept.up (Kept.up (Kept.up (Kept.up (Kept.up (Kept.up (Kept.up (Kept.up (Kept.up (Kept.up h1 s3) s4) s5) s6) s7) s8) s9) s10) s11) s12) s13) s14) s15) s16) s17)
  have g2 := (s17 _ _ (s16 _ _ (s15 _ _ (s14 _ _ (s13 _ _ (s12 _ _ (s11 _ _ (s10 _ _ (s9 _ _ (s8 _ _ (s7 _ _ (s6 _ _ (s5 _ _ (s4 _ _ h2))))))))))))))
  have g3 := (s17 _ _ (s16 _ _ (s15 _ _ (s14 _ _ (s13 _ _ (s12 _ _ (s11 _ _ (s10 _ _ (s9 _ _ (s8 _ _ (s7 _ _ (s6 _ _ (s5 _ _ h3)))))))))))))
  have g4 := (Kept.up (Kept.up (Kept.up (Kept.up (Kept.up (Kept.up (Kept.up (Kept.up (Kept.up (Kept.up (Kept.up (Kept.up h4 s6) s7) s8) s9) s10) s11) s12) s13) s14) s15) s16) s17)
  have g5 := (Kept.up (Kept.up (Kept.up (Kept.up (Kept.up (Kept.up (Kept.up (Kept.up (Kept.up (Kept.up h5 s8) s9) s10) s11) s12) s13) s14) s15) s16) s17)
  have g6 := (Kept.up (Kept.up (Kept.up (Kept.up (Kept.up (Kept.up (Kept.up (Kept.up (Kept.up h6 s9) s10) s11) s12) s13) s14) s15) s16) s17)
  have g7 := (Kept.up (Kept.up (Kept.up (Kept.up (Kept.up (Kept.up (Kept.up (Kept.up h7 s10) s11) s12) s13) s14) s15) s16) s17)
  have g8 := (Kept.up (Kept.up (Kept.up (Kept.up (Kept.up h8 s13) s14) s15) s16) s17)
  have g9 := (Kept.up (Kept.up (Kept.up (Kept.up h9 s14) s15) s16) s17)
  have g10 := (s17 _ _ (s16 _ _ (s15 _ _ h10)))
  have g11 := (Kept.up (Kept.up h11 s16) s17)
  walk_at "go"
  refine d_newL (ds := [.int 0]) (Nat.le_trans (show 1 ≤ 16777216 by decide) big) (by walk_at "inls") fun u1 => ?_
  walk_at "go"
  refine d_rep (ds := [.int 0]) (k := 5) (.mem (List.Mem.head _)) (by decide) (by decide) fun u2 => ?_
  walk_at "go"
  refine d_newL (ds := [.int 1]) (Nat.le_trans (show 1 ≤ 16777216 by decide) big) (by walk_at "inls") fun u3 => ?_
  walk_at "go"
  refine d_rep (ds := [.int 1]) (k := 4) (.mem (List.Mem.head _)) (by decide) (by decide) fun u4 => ?_
  refine d_catL (ds := (List.replicate 5 [PyData.int 0]).flatten) (es := (List.replicate 4 [PyData.int 1]).flatten) (.mem (by walk_at "mem")) (.mem (List.Mem.head _)) (Nat.le_trans (show 9 ≤ 16777216 by decide) big) fun u5 => ?_
  walk_at "go"
  refine d_newL (ds := [.int 2, .int 2, .int 3]) (Nat.le_trans (show 3 ≤ 16777216 by decide) big) (by walk_at "inls") fun u6 => ?_
  refine d_catL (ds := (List.replicate 5 [PyData.int 0]).flatten ++ (List.replicate 4 [PyData.int 1]).flatten) (es := [.int 2, .int 2, .int 3]) (.mem (by walk_at "mem")) (.mem (List.Mem.head _)) (Nat.le_trans (show 12 ≤ 16777216 by decide) big) fun u7 => ?_
  walk_at "go"
  generalize hL : (u7, PyData.list ((List.replicate 5 [PyData.int 0]).flatten ++ (List.replicate 4 [PyData.int 1]).flatten ++ [.int 2, .int 2, .int 3])) :: _ = L1
  have hu : InL L1 u7 (.list grpD) := by rw [← hL]; exact .mem (List.Mem.head _)
  have hw2 : InL L1 w2 (.tuple [.int m, .int 0]) := by rw [← hL]; exact .mem (by walk_at "mem")
  have hw3 : InL L1 w3 (.tuple [.int m, .str "a", .int 0]) := by rw [← hL]; exact .mem (by walk_at "mem")
  have made : ∀ j < 12, ∃ b, ([.ref a0, .ref a1, .ref a2, .ref a3, .ref a4, .ref a5, .ref a6, .ref a7, .ref a8, .ref a9, .ref a10, .ref a11] : List V)[j]? = some (.ref b) ∧ ExAt D17 b (He.ga K (nm j)) := fun j hj => by
    have : j = 0 ∨ j = 1 ∨ j = 2 ∨ j = 3 ∨ j = 4 ∨ j = 5 ∨ j = 6 ∨ j = 7 ∨ j = 8 ∨ j = 9 ∨ j = 10 ∨ j = 11 := by omega
    rcases this with rfl | rfl | rfl | rfl | rfl | rfl | rfl | rfl | rfl | rfl | rfl | rfl
    · exact ⟨a0, rfl, Kept.at g0⟩
    · exact ⟨a1, rfl, Kept.at g1⟩
    · exact ⟨a2, rfl, .inr g2⟩
    · exact ⟨a3, rfl, .inr g3⟩
    · exact ⟨a4, rfl, Kept.at g4⟩
    · exact ⟨a5, rfl, Kept.at g5⟩
    · exact ⟨a6, rfl, Kept.at g6⟩
    · exact ⟨a7, rfl, Kept.at g7⟩
    · exact ⟨a8, rfl, Kept.at g8⟩
    · exact ⟨a9, rfl, Kept.at g9⟩
    · exact ⟨a10, rfl, .inr g10⟩
    · exact ⟨a11, rfl, Kept.at g11⟩
  have kp : D17 p5 = some (.lst [.ref a0, .ref a1, .ref a2, .ref a3, .ref a4, .ref a5, .ref a6, .ref a7, .ref a8, .ref a9, .ref a10, .ref a11]) := kp5
  refine d_rng1 (j := 12) (by decide) (by decide) ?_
  refine d_forRange (fun _ R' σ' l' => R' = emp ∧ l' = L1 ∧ ∃ v6 : Option V, σ' = [some (.ref a), some (.int m), some w2, some w3, some (.ref p5), some u7, v6, none, none, none]) ?_ ?_ ?_
  · exact ⟨rfl, rfl, none, rfl⟩
  · rintro j R' σ' l' hj ⟨rfl, rfl, v6, rfl⟩
    have hj : j < 12 := hj
    obtain ⟨b, hb, hE⟩ := made j hj
    walk_at "go"
    refine d_ixLD kp (at_nat hb) ?_
    walk_at "go"
    refine d_kinds hj hE fun u8 l8 h8 => ?_
    walk_at "go"
    refine d_rng1 (j := 12) (by decide) (by decide) ?_
    refine d_lcRange1 (fun i es => es = (List.range i).map fun z => .bool (decide (z = j))) rfl ?_ ?_
    · rintro i Dd es hi rfl
      walk_at "go"
      rw [show decide ((0 + (i : Int)) = 0 + (j : Int)) = decide (i = j) from decide_eq_decide.2 (by omega)]
      refine d_item1 (d := .bool (decide (i = j))) (.bl _) ?_ ?_ (by walk_at "tails")
      · rw [List.length_map, List.length_range]
        have hi : i < 12 := hi
        exact Nat.lt_of_lt_of_le (show i < 16777216 by omega) big
      · rw [List.range_succ, List.map_append]
        rfl
    rintro u9 es rfl
    refine d_ne (d := .list ((List.range 12).map fun i => .bool (decide (i = j)))) (e := .list ((List.range 12).map fun i => .bool (decide (i = j)))) (.mem (by walk_at "mem")) (.mem (List.Mem.head _)) (dep_bools _ _) ?_
    rw [show PyData.eqv (.list ((List.range 12).map fun i => .bool (decide (i = j)))) (.list ((List.range 12).map fun i => .bool (decide (i = j)))) = true from by
      rw [PyData.eqv]
      exact eqv_bools (fun i => decide (i = j)) _]
    walk_at "go"
    refine d_ixLD kp (at_nat hb) ?_
    walk_at "go"
    refine d_built hj hE fun u10 l10 h10 => ?_
    walk_at "go"
    refine d_rng1 (j := 8) (by decide) (by decide) ?_
    have hu2 : InL ((u10, .list ((List.range 8).map fun i => .bool (decide (i = grpI.getD j 0)))) :: l10) u7 (.list grpD) := ((hu.weak h8).tail.tail.weak h10).tail
    refine d_lcRange1 (fun i es => es = (List.range i).map fun z => .bool (decide (z = grpI.getD j 0))) rfl ?_ ?_
    · rintro i Dd es hi rfl
      walk_at "go"
      refine d_ixL (ds := grpD) (d := .int (grpI.getD j 0 : Nat)) hu2 (at_nat (grp_at j hj)) fun w hw => ?_
      cases hw
      walk_at "go"
      rw [show decide ((0 + (i : Int)) = ((grpI.getD j 0 : Nat) : Int)) = decide (i = grpI.getD j 0) from decide_eq_decide.2 (by omega)]
      refine d_item1 (d := .bool (decide (i = grpI.getD j 0))) (.bl _) ?_ ?_ (by walk_at "tails")
      · rw [List.length_map, List.length_range]
        have hi : i < 8 := hi
        exact Nat.lt_of_lt_of_le (show i < 16777216 by omega) big
      · rw [List.range_succ, List.map_append]
        rfl
    rintro u11 es rfl
    refine d_ne (d := .list ((List.range 8).map fun i => .bool (decide (i = grpI.getD j 0)))) (e := .list ((List.range 8).map fun i => .bool (decide (i = grpI.getD j 0)))) (.mem (by walk_at "mem")) (.mem (List.Mem.head _)) (dep_bools _ _) ?_
    rw [show PyData.eqv (.list ((List.range 8).map fun i => .bool (decide (i = grpI.getD j 0)))) (.list ((List.range 8).map fun i => .bool (decide (i = grpI.getD j 0)))) = true from by
      rw [PyData.eqv]
      exact eqv_bools (fun i => decide (i = grpI.getD j 0)) _]
    walk_at "go"
    dsimp only
    refine d_end (l' := l') ?_ (fun q hq => (((h8 q hq).tail.tail).weak h10).tail.tail)
    exact ⟨rfl, rfl, _, rfl⟩
  rintro R' σ' l' ⟨rfl, rfl, v6, rfl⟩
  walk_at "go"
  refine d_ixLD kp (i := 0) (v := .ref a0) rfl ?_
  walk_at "go"
  refine d_fldE g0 T_NotALog.X T_NotALog.no ?_
  walk_at "go"
  refine d_ixLD kp (i := 1) (v := .ref a1) rfl ?_
  walk_at "go"
  refine d_fldE g1 T_InvalidRules.X T_InvalidRules.no ?_
  walk_at "go"
  refine d_mkX fun D18 a12 s18 h12 => ?_
  refine d_fldE h12 T_NotALog.X T_NotALog.no ?_
  walk_at "go"
  refine d_mkX fun D19 a13 s19 h13 => ?_
  refine d_fldE h13 T_InvalidRules.X T_InvalidRules.no ?_
  walk_at "go"
  refine d_newL (ds := [.tuple [.int m, .int 0], .tuple [.int m, .int 0], .tuple [.int m, .int 0], .tuple [.int m, .int 0]]) (Nat.le_trans (show 4 ≤ 16777216 by decide) big) (.cons hw2 (.cons hw2 (.cons hw2 (.cons hw2 .nil)))) fun f1 => ?_
  walk_at "go"
  refine d_ixLD (s19 _ _ (s18 _ _ kp)) (i := 6) (v := .ref a6) rfl ?_
  walk_at "go"
  refine d_fldE (Kept.up (Kept.up g6 s18) s19) T_UnknownEdge.X T_UnknownEdge.no ?_
  walk_at "go"
  refine d_ixLD (s19 _ _ (s18 _ _ kp)) (i := 9) (v := .ref a9) rfl ?_
  walk_at "go"
  refine d_fldE (Kept.up (Kept.up g9 s18) s19) T_EdgeExists.X T_EdgeExists.no ?_
  walk_at "go"
  refine d_mkX fun D20 a14 s20 h14 => ?_
  refine d_fldE h14 T_UnknownEdge.X T_UnknownEdge.no ?_
  walk_at "go"
  refine d_mkX fun D21 a15 s21 h15 => ?_
  refine d_fldE h15 T_EdgeExists.X T_EdgeExists.no ?_
  walk_at "go"
  refine d_newL (ds := [.tuple [.int m, .str "a", .int 0], .tuple [.int m, .str "a", .int 0], .tuple [.int m, .str "a", .int 0], .tuple [.int m, .str "a", .int 0]]) (Nat.le_trans (show 4 ≤ 16777216 by decide) big) (.cons hw3.tail (.cons hw3.tail (.cons hw3.tail (.cons hw3.tail .nil)))) fun f2 => ?_
  walk_at "go"
  refine d_newL (ds := [.tuple [.int m, .int 0]]) (Nat.le_trans (show 1 ≤ 16777216 by decide) big) (.cons hw2.tail.tail .nil) fun f3 => ?_
  walk_at "go"
  refine d_rep (ds := [.tuple [.int m, .int 0]]) (k := 4) (.mem (List.Mem.head _)) (by decide) (Nat.le_of_ble_eq_true rfl) fun f4 => ?_
  refine d_ne (d := .list [.tuple [.int m, .int 0], .tuple [.int m, .int 0], .tuple [.int m, .int 0], .tuple [.int m, .int 0]]) (e := .list [.tuple [.int m, .int 0], .tuple [.int m, .int 0], .tuple [.int m, .int 0], .tuple [.int m, .int 0]]) (.mem (by walk_at "mem")) (.mem (List.Mem.head _)) (by simp [PyData.depth, PyData.depthAll]) ?_
  rw [show PyData.eqv (.list [.tuple [.int m, .int 0], .tuple [.int m, .int 0], .tuple [.int m, .int 0], .tuple [.int m, .int 0]]) (.list [.tuple [.int m, .int 0], .tuple [.int m, .int 0], .tuple [.int m, .int 0], .tuple [.int m, .int 0]]) = true by simp [PyData.eqv, PyData.eqvAll]]
  walk_at "go"
  refine d_newL (ds := [.tuple [.int m, .str "a", .int 0]]) (Nat.le_trans (show 1 ≤ 16777216 by decide) big) (.cons hw3.tail.tail.tail.tail .nil) fun f5 => ?_
  walk_at "go"
  refine d_rep (ds := [.tuple [.int m, .str "a", .int 0]]) (k := 4) (.mem (List.Mem.head _)) (by decide) (Nat.le_of_ble_eq_true rfl) fun f6 => ?_
  refine d_ne (d := .list [.tuple [.int m, .str "a", .int 0], .tuple [.int m, .str "a", .int 0], .tuple [.int m, .str "a", .int 0], .tuple [.int m, .str "a", .int 0]]) (e := .list [.tuple [.int m, .str "a", .int 0], .tuple [.int m, .str "a", .int 0], .tuple [.int m, .str "a", .int 0], .tuple [.int m, .str "a", .int 0]]) (.mem (by walk_at "mem")) (.mem (List.Mem.head _)) (by simp [PyData.depth, PyData.depthAll]) ?_
  rw [show PyData.eqv (.list [.tuple [.int m, .str "a", .int 0], .tuple [.int m, .str "a", .int 0], .tuple [.int m, .str "a", .int 0], .tuple [.int m, .str "a", .int 0]]) (.list [.tuple [.int m, .str "a", .int 0], .tuple [.int m, .str "a", .int 0], .tuple [.int m, .str "a", .int 0], .tuple [.int m, .str "a", .int 0]]) = true by simp [PyData.eqv, PyData.eqvAll]]
  walk_at "go"
  refine d_ixLD (s21 _ _ (s20 _ _ (s19 _ _ (s18 _ _ kp)))) (i := 4) (v := .ref a4) rfl ?_
  walk_at "go"
  refine d_fldE (Kept.up (Kept.up (Kept.up (Kept.up g4 s18) s19) s20) s21) T_ParseError.X T_ParseError.no ?_
  walk_at "go"
  refine d_ixLD (s21 _ _ (s20 _ _ (s19 _ _ (s18 _ _ kp)))) (i := 5) (v := .ref a5) rfl ?_
  walk_at "go"
  refine d_fldE (Kept.up (Kept.up (Kept.up (Kept.up g5 s18) s19) s20) s21) T_UnknownState.X T_UnknownState.no ?_
  walk_at "go"
  refine d_ixLD (s21 _ _ (s20 _ _ (s19 _ _ (s18 _ _ kp)))) (i := 7) (v := .ref a7) rfl ?_
  walk_at "go"
  refine d_fldE (Kept.up (Kept.up (Kept.up (Kept.up g7 s18) s19) s20) s21) T_UnknownCheckpoint.X T_UnknownCheckpoint.no ?_
  walk_at "go"
  refine d_ixLD (s21 _ _ (s20 _ _ (s19 _ _ (s18 _ _ kp)))) (i := 8) (v := .ref a8) rfl ?_
  walk_at "go"
  refine d_fldE (Kept.up (Kept.up (Kept.up (Kept.up g8 s18) s19) s20) s21) T_UnknownRecord.X T_UnknownRecord.no ?_
  walk_at "go"
  refine d_ixLD (s21 _ _ (s20 _ _ (s19 _ _ (s18 _ _ kp)))) (i := 11) (v := .ref a11) rfl ?_
  walk_at "go"
  refine d_fldE (Kept.up (Kept.up (Kept.up (Kept.up g11 s18) s19) s20) s21) T_LimitExceeded.X T_LimitExceeded.no ?_
  walk_at "go"
  refine d_mkX fun D22 a16 s22 h16 => ?_
  refine d_fldE h16 T_ParseError.X T_ParseError.no ?_
  walk_at "go"
  refine d_newL (ds := [.int m, .int m, .int m, .int m, .int m, .int m]) (Nat.le_trans (show 6 ≤ 16777216 by decide) big) (by walk_at "inls") fun f7 => ?_
  walk_at "go"
  refine d_mkX fun D23 a17 s23 h17 => ?_
  refine d_fldE h17 T_UnknownState.X T_UnknownState.no ?_
  walk_at "go"
  refine d_mkX fun D24 a18 s24 h18 => ?_
  refine d_fldE h18 T_UnknownCheckpoint.X T_UnknownCheckpoint.no ?_
  walk_at "go"
  refine d_mkX fun D25 a19 s25 h19 => ?_
  refine d_fldE h19 T_UnknownRecord.X T_UnknownRecord.no ?_
  walk_at "go"
  refine d_newL (ds := [.int m, .int m, .int m]) (Nat.le_trans (show 3 ≤ 16777216 by decide) big) (by walk_at "inls") fun f8 => ?_
  refine d_catL (ds := [.int m, .int m, .int m, .int m, .int m, .int m]) (es := [.int m, .int m, .int m]) (.mem (by walk_at "mem")) (.mem (List.Mem.head _)) (Nat.le_trans (show 9 ≤ 16777216 by decide) big) fun f9 => ?_
  walk_at "go"
  refine d_mkX fun D26 a20 s26 h20 => ?_
  refine d_fldE h20 T_LimitExceeded.X T_LimitExceeded.no ?_
  walk_at "go"
  refine d_newL (ds := [.int m]) (Nat.le_trans (show 1 ≤ 16777216 by decide) big) (by walk_at "inls") fun f10 => ?_
  refine d_catL (ds := [.int m, .int m, .int m, .int m, .int m, .int m] ++ [.int m, .int m, .int m]) (es := [.int m]) (.mem (by walk_at "mem")) (.mem (List.Mem.head _)) (Nat.le_trans (show 10 ≤ 16777216 by decide) big) fun f11 => ?_
  walk_at "go"
  refine d_newL (ds := [.int m]) (Nat.le_trans (show 1 ≤ 16777216 by decide) big) (by walk_at "inls") fun f12 => ?_
  walk_at "go"
  refine d_rep (ds := [.int m]) (k := 10) (.mem (List.Mem.head _)) (by decide) (Nat.le_of_ble_eq_true rfl) fun f13 => ?_
  refine d_eq (d := .list [.int m, .int m, .int m, .int m, .int m, .int m, .int m, .int m, .int m, .int m]) (e := .list [.int m, .int m, .int m, .int m, .int m, .int m, .int m, .int m, .int m, .int m]) (.mem (by walk_at "mem")) (.mem (List.Mem.head _)) (by simp [PyData.depth, PyData.depthAll]) ?_
  rw [show PyData.eqv (.list [.int m, .int m, .int m, .int m, .int m, .int m, .int m, .int m, .int m, .int m]) (.list [.int m, .int m, .int m, .int m, .int m, .int m, .int m, .int m, .int m, .int m]) = true by simp [PyData.eqv, PyData.eqvAll]]
  exact fun N H A => kk H
end
end L85

/-! D85: each def of the text keeps its promise; the head. -/
namespace D85
open PySem PySem.Spec L2 GL
open PyProof.Rows hiding St
open L85
def top (i : Nat) : Stmt := PySem.Challenge.pw_gaprules_k85_errors.main.body.getD i (.Pass ⟨0, 0, 0, 0⟩)
abbrev s__law_kinds : Stmt := (top 14)
abbrev N__law_kinds : List Str := ["e", "found"]
theorem sc__law_kinds : FnScope N__law_kinds ["e"] (defScope s__law_kinds) := ⟨rfl, rfl, rfl, by decide +kernel, rfl, by decide +kernel, by decide +kernel⟩
abbrev s__law_built : Stmt := (top 15)
abbrev N__law_built : List Str := ["e", "found"]
theorem sc__law_built : FnScope N__law_built ["e"] (defScope s__law_built) := ⟨rfl, rfl, rfl, by decide +kernel, rfl, by decide +kernel, by decide +kernel⟩
abbrev s_law : Stmt := (top 16)
abbrev N_law : List Str := ["script", "many", "some", "triple", "made", "groups", "k", "at", "found", "edges"]
theorem sc_law : FnScope N_law ["script"] (defScope s_law) := ⟨rfl, rfl, rfl, by decide +kernel, rfl, by decide +kernel, by decide +kernel⟩
abbrev s_EdgeExists___init__ : Stmt := (inClass (top 10) 0)
theorem sc_EdgeExists___init__ : FnScope ["self", "edge"] ["self", "edge"] (defScope s_EdgeExists___init__) := ⟨rfl, rfl, rfl, by decide +kernel, rfl, by decide +kernel, by decide +kernel⟩
abbrev s_InvalidRules___init__ : Stmt := (inClass (top 2) 0)
theorem sc_InvalidRules___init__ : FnScope ["self", "place"] ["self", "place"] (defScope s_InvalidRules___init__) := ⟨rfl, rfl, rfl, by decide +kernel, rfl, by decide +kernel, by decide +kernel⟩
abbrev s_LimitExceeded___init__ : Stmt := (inClass (top 12) 0)
theorem sc_LimitExceeded___init__ : FnScope ["self", "limit"] ["self", "limit"] (defScope s_LimitExceeded___init__) := ⟨rfl, rfl, rfl, by decide +kernel, rfl, by decide +kernel, by decide +kernel⟩
abbrev s_NotALog___init__ : Stmt := (inClass (top 1) 0)
theorem sc_NotALog___init__ : FnScope ["self", "value"] ["self", "value"] (defScope s_NotALog___init__) := ⟨rfl, rfl, rfl, by decide +kernel, rfl, by decide +kernel, by decide +kernel⟩
abbrev s_ParseError___init__ : Stmt := (inClass (top 5) 0)
theorem sc_ParseError___init__ : FnScope ["self", "line"] ["self", "line"] (defScope s_ParseError___init__) := ⟨rfl, rfl, rfl, by decide +kernel, rfl, by decide +kernel, by decide +kernel⟩
abbrev s_UnknownCheckpoint___init__ : Stmt := (inClass (top 8) 0)
theorem sc_UnknownCheckpoint___init__ : FnScope ["self", "number"] ["self", "number"] (defScope s_UnknownCheckpoint___init__) := ⟨rfl, rfl, rfl, by decide +kernel, rfl, by decide +kernel, by decide +kernel⟩
abbrev s_UnknownEdge___init__ : Stmt := (inClass (top 7) 0)
theorem sc_UnknownEdge___init__ : FnScope ["self", "edge"] ["self", "edge"] (defScope s_UnknownEdge___init__) := ⟨rfl, rfl, rfl, by decide +kernel, rfl, by decide +kernel, by decide +kernel⟩
abbrev s_UnknownRecord___init__ : Stmt := (inClass (top 9) 0)
theorem sc_UnknownRecord___init__ : FnScope ["self", "number"] ["self", "number"] (defScope s_UnknownRecord___init__) := ⟨rfl, rfl, rfl, by decide +kernel, rfl, by decide +kernel, by decide +kernel⟩
abbrev s_UnknownState___init__ : Stmt := (inClass (top 6) 0)
theorem sc_UnknownState___init__ : FnScope ["self", "state"] ["self", "state"] (defScope s_UnknownState___init__) := ⟨rfl, rfl, rfl, by decide +kernel, rfl, by decide +kernel, by decide +kernel⟩
section
variable {P : Program} {w : World} {K : PySem.W.Frag} {mg : Str → Option Value} {base : Heap}
theorem oki_EdgeExists {fd : FuncData} (F : FunD K "__init__" "EdgeExists.__init__" (defArgs s_EdgeExists___init__) (defBody s_EdgeExists___init__) (defScope s_EdgeExists___init__) [] [] (He.ma K (He.ga K "EdgeExists") "__init__") fd) (T : ExB "RuntimeError" "RuntimeError.__new__" bmRE K (He.ga K "EdgeExists") (He.ma K (He.ga K "EdgeExists") "__init__") "edge") : FnOk P w K mg base CX0 1 (He.ma K (He.ga K "EdgeExists") "__init__") fd ["self", "edge"] (spInit (He.ga K "EdgeExists") "edge") :=
  F.ok sc_EdgeExists___init__ (fun vs H Q E h => len_init h) (fun cdv A outer s H vs Q E hr h => ⟨tOstB K (He.ga K "EdgeExists") "edge" (tVar 0) (tVar 1), PSs.nox (pss_one (ps_ostB PySem.F.store_RuntimeError T (pv 0) (pv 1))), pure_initB h⟩)
theorem oki_InvalidRules {fd : FuncData} (F : FunD K "__init__" "InvalidRules.__init__" (defArgs s_InvalidRules___init__) (defBody s_InvalidRules___init__) (defScope s_InvalidRules___init__) [] [] (He.ma K (He.ga K "InvalidRules") "__init__") fd) (T : ExB "ValueError" "ValueError.__new__" [.type "ValueError", .type "Exception", .type "BaseException", .type "object"] K (He.ga K "InvalidRules") (He.ma K (He.ga K "InvalidRules") "__init__") "place") : FnOk P w K mg base CX0 1 (He.ma K (He.ga K "InvalidRules") "__init__") fd ["self", "place"] (spInit (He.ga K "InvalidRules") "place") :=
  F.ok sc_InvalidRules___init__ (fun vs H Q E h => len_init h) (fun cdv A outer s H vs Q E hr h => ⟨tOstB K (He.ga K "InvalidRules") "place" (tVar 0) (tVar 1), PSs.nox (pss_one (ps_ostB PySem.F.store_ValueError T (pv 0) (pv 1))), pure_initB h⟩)
theorem oki_LimitExceeded {fd : FuncData} (F : FunD K "__init__" "LimitExceeded.__init__" (defArgs s_LimitExceeded___init__) (defBody s_LimitExceeded___init__) (defScope s_LimitExceeded___init__) [] [] (He.ma K (He.ga K "LimitExceeded") "__init__") fd) (T : ExB "OverflowError" "OverflowError.__new__" bmOE K (He.ga K "LimitExceeded") (He.ma K (He.ga K "LimitExceeded") "__init__") "limit") : FnOk P w K mg base CX0 1 (He.ma K (He.ga K "LimitExceeded") "__init__") fd ["self", "limit"] (spInit (He.ga K "LimitExceeded") "limit") :=
  F.ok sc_LimitExceeded___init__ (fun vs H Q E h => len_init h) (fun cdv A outer s H vs Q E hr h => ⟨tOstB K (He.ga K "LimitExceeded") "limit" (tVar 0) (tVar 1), PSs.nox (pss_one (ps_ostB PySem.F.store_OverflowError T (pv 0) (pv 1))), pure_initB h⟩)
theorem oki_NotALog {fd : FuncData} (F : FunD K "__init__" "NotALog.__init__" (defArgs s_NotALog___init__) (defBody s_NotALog___init__) (defScope s_NotALog___init__) [] [] (He.ma K (He.ga K "NotALog") "__init__") fd) (T : ExB "ValueError" "ValueError.__new__" [.type "ValueError", .type "Exception", .type "BaseException", .type "object"] K (He.ga K "NotALog") (He.ma K (He.ga K "NotALog") "__init__") "value") : FnOk P w K mg base CX0 1 (He.ma K (He.ga K "NotALog") "__init__") fd ["self", "value"] (spInit (He.ga K "NotALog") "value") :=
  F.ok sc_NotALog___init__ (fun vs H Q E h => len_init h) (fun cdv A outer s H vs Q E hr h => ⟨tOstB K (He.ga K "NotALog") "value" (tVar 0) (tVar 1), PSs.nox (pss_one (ps_ostB PySem.F.store_ValueError T (pv 0) (pv 1))), pure_initB h⟩)
theorem oki_ParseError {fd : FuncData} (F : FunD K "__init__" "ParseError.__init__" (defArgs s_ParseError___init__) (defBody s_ParseError___init__) (defScope s_ParseError___init__) [] [] (He.ma K (He.ga K "ParseError") "__init__") fd) (T : ExB "ValueError" "ValueError.__new__" [.type "ValueError", .type "Exception", .type "BaseException", .type "object"] K (He.ga K "ParseError") (He.ma K (He.ga K "ParseError") "__init__") "line") : FnOk P w K mg base CX0 1 (He.ma K (He.ga K "ParseError") "__init__") fd ["self", "line"] (spInit (He.ga K "ParseError") "line") :=
  F.ok sc_ParseError___init__ (fun vs H Q E h => len_init h) (fun cdv A outer s H vs Q E hr h => ⟨tOstB K (He.ga K "ParseError") "line" (tVar 0) (tVar 1), PSs.nox (pss_one (ps_ostB PySem.F.store_ValueError T (pv 0) (pv 1))), pure_initB h⟩)
theorem oki_UnknownCheckpoint {fd : FuncData} (F : FunD K "__init__" "UnknownCheckpoint.__init__" (defArgs s_UnknownCheckpoint___init__) (defBody s_UnknownCheckpoint___init__) (defScope s_UnknownCheckpoint___init__) [] [] (He.ma K (He.ga K "UnknownCheckpoint") "__init__") fd) (T : ExB "LookupError" "LookupError.__new__" bmLE K (He.ga K "UnknownCheckpoint") (He.ma K (He.ga K "UnknownCheckpoint") "__init__") "number") : FnOk P w K mg base CX0 1 (He.ma K (He.ga K "UnknownCheckpoint") "__init__") fd ["self", "number"] (spInit (He.ga K "UnknownCheckpoint") "number") :=
  F.ok sc_UnknownCheckpoint___init__ (fun vs H Q E h => len_init h) (fun cdv A outer s H vs Q E hr h => ⟨tOstB K (He.ga K "UnknownCheckpoint") "number" (tVar 0) (tVar 1), PSs.nox (pss_one (ps_ostB PySem.F.store_LookupError T (pv 0) (pv 1))), pure_initB h⟩)
theorem oki_UnknownEdge {fd : FuncData} (F : FunD K "__init__" "UnknownEdge.__init__" (defArgs s_UnknownEdge___init__) (defBody s_UnknownEdge___init__) (defScope s_UnknownEdge___init__) [] [] (He.ma K (He.ga K "UnknownEdge") "__init__") fd) (T : ExB "LookupError" "LookupError.__new__" bmLE K (He.ga K "UnknownEdge") (He.ma K (He.ga K "UnknownEdge") "__init__") "edge") : FnOk P w K mg base CX0 1 (He.ma K (He.ga K "UnknownEdge") "__init__") fd ["self", "edge"] (spInit (He.ga K "UnknownEdge") "edge") :=
  F.ok sc_UnknownEdge___init__ (fun vs H Q E h => len_init h) (fun cdv A outer s H vs Q E hr h => ⟨tOstB K (He.ga K "UnknownEdge") "edge" (tVar 0) (tVar 1), PSs.nox (pss_one (ps_ostB PySem.F.store_LookupError T (pv 0) (pv 1))), pure_initB h⟩)
theorem oki_UnknownRecord {fd : FuncData} (F : FunD K "__init__" "UnknownRecord.__init__" (defArgs s_UnknownRecord___init__) (defBody s_UnknownRecord___init__) (defScope s_UnknownRecord___init__) [] [] (He.ma K (He.ga K "UnknownRecord") "__init__") fd) (T : ExB "LookupError" "LookupError.__new__" bmLE K (He.ga K "UnknownRecord") (He.ma K (He.ga K "UnknownRecord") "__init__") "number") : FnOk P w K mg base CX0 1 (He.ma K (He.ga K "UnknownRecord") "__init__") fd ["self", "number"] (spInit (He.ga K "UnknownRecord") "number") :=
  F.ok sc_UnknownRecord___init__ (fun vs H Q E h => len_init h) (fun cdv A outer s H vs Q E hr h => ⟨tOstB K (He.ga K "UnknownRecord") "number" (tVar 0) (tVar 1), PSs.nox (pss_one (ps_ostB PySem.F.store_LookupError T (pv 0) (pv 1))), pure_initB h⟩)
theorem oki_UnknownState {fd : FuncData} (F : FunD K "__init__" "UnknownState.__init__" (defArgs s_UnknownState___init__) (defBody s_UnknownState___init__) (defScope s_UnknownState___init__) [] [] (He.ma K (He.ga K "UnknownState") "__init__") fd) (T : ExB "LookupError" "LookupError.__new__" bmLE K (He.ga K "UnknownState") (He.ma K (He.ga K "UnknownState") "__init__") "state") : FnOk P w K mg base CX0 1 (He.ma K (He.ga K "UnknownState") "__init__") fd ["self", "state"] (spInit (He.ga K "UnknownState") "state") :=
  F.ok sc_UnknownState___init__ (fun vs H Q E h => len_init h) (fun cdv A outer s H vs Q E hr h => ⟨tOstB K (He.ga K "UnknownState") "state" (tVar 0) (tVar 1), PSs.nox (pss_one (ps_ostB PySem.F.store_LookupError T (pv 0) (pv 1))), pure_initB h⟩)
theorem ok__law_kinds {f : Addr} {fd : FuncData} (F : FunD K "_law_kinds" "_law_kinds" (defArgs s__law_kinds) (defBody s__law_kinds) (defScope s__law_kinds) [] [] f fd)
    (KI : KitsOk K)
    (b_isinstance : mg "isinstance" = none)
    (m_EdgeExists : mg "EdgeExists" = some (.ref (He.ga K "EdgeExists")))
    (m_Endless : mg "Endless" = some (.ref (He.ga K "Endless")))
    (m_InvalidClaim : mg "InvalidClaim" = some (.ref (He.ga K "InvalidClaim")))
    (m_InvalidRules : mg "InvalidRules" = some (.ref (He.ga K "InvalidRules")))
    (m_LimitExceeded : mg "LimitExceeded" = some (.ref (He.ga K "LimitExceeded")))
    (m_NotALog : mg "NotALog" = some (.ref (He.ga K "NotALog")))
    (m_ParseError : mg "ParseError" = some (.ref (He.ga K "ParseError")))
    (m_UnknownCheckpoint : mg "UnknownCheckpoint" = some (.ref (He.ga K "UnknownCheckpoint")))
    (m_UnknownEdge : mg "UnknownEdge" = some (.ref (He.ga K "UnknownEdge")))
    (m_UnknownRecord : mg "UnknownRecord" = some (.ref (He.ga K "UnknownRecord")))
    (m_UnknownState : mg "UnknownState" = some (.ref (He.ga K "UnknownState")))
    (m_Unpaired : mg "Unpaired" = some (.ref (He.ga K "Unpaired"))) : Gn P w K mg base 1 f 1 (sp__law_kinds K) :=
  gn_ok F sc__law_kinds (fun _ _ _ _ _ _ us hl => match us, hl with | [_], _ => rfl) (fun vs H Q E h => len__law_kinds h) (fun cdv A outer s H vs Q E hg hr h => ⟨t__law_kinds K (fun cls d _ H => E cls d H), (pss_cons (ps_set (i := 1) sc__law_kinds.nd rfl (by first | exact Or.inl rfl | exact Or.inr rfl) (pe_lst (pa_cons (pe_callB call_isE (by rfl) b_isinstance PyProof.Rows.boot_isinstance (pa_cons (pv 0) (pa_cons (pe_glob rfl m_NotALog rfl) pa_nil))) (pa_cons (pe_callB call_isE (by rfl) b_isinstance PyProof.Rows.boot_isinstance (pa_cons (pv 0) (pa_cons (pe_glob rfl m_InvalidRules rfl) pa_nil))) (pa_cons (pe_callB call_isE (by rfl) b_isinstance PyProof.Rows.boot_isinstance (pa_cons (pv 0) (pa_cons (pe_glob rfl m_InvalidClaim rfl) pa_nil))) (pa_cons (pe_callB call_isE (by rfl) b_isinstance PyProof.Rows.boot_isinstance (pa_cons (pv 0) (pa_cons (pe_glob rfl m_Unpaired rfl) pa_nil))) pa_nil))))))
  (pss_cons (ps_set (i := 1) sc__law_kinds.nd rfl (by first | exact Or.inl rfl | exact Or.inr rfl) (pe_op op_gadd (pv 1) (pe_lst (pa_cons (pe_callB call_isE (by rfl) b_isinstance PyProof.Rows.boot_isinstance (pa_cons (pv 0) (pa_cons (pe_glob rfl m_ParseError rfl) pa_nil))) (pa_cons (pe_callB call_isE (by rfl) b_isinstance PyProof.Rows.boot_isinstance (pa_cons (pv 0) (pa_cons (pe_glob rfl m_UnknownState rfl) pa_nil))) (pa_cons (pe_callB call_isE (by rfl) b_isinstance PyProof.Rows.boot_isinstance (pa_cons (pv 0) (pa_cons (pe_glob rfl m_UnknownEdge rfl) pa_nil))) pa_nil))))))
  (pss_cons (ps_set (i := 1) sc__law_kinds.nd rfl (by first | exact Or.inl rfl | exact Or.inr rfl) (pe_op op_gadd (pv 1) (pe_lst (pa_cons (pe_callB call_isE (by rfl) b_isinstance PyProof.Rows.boot_isinstance (pa_cons (pv 0) (pa_cons (pe_glob rfl m_UnknownCheckpoint rfl) pa_nil))) (pa_cons (pe_callB call_isE (by rfl) b_isinstance PyProof.Rows.boot_isinstance (pa_cons (pv 0) (pa_cons (pe_glob rfl m_UnknownRecord rfl) pa_nil))) (pa_cons (pe_callB call_isE (by rfl) b_isinstance PyProof.Rows.boot_isinstance (pa_cons (pv 0) (pa_cons (pe_glob rfl m_EdgeExists rfl) pa_nil))) pa_nil))))))
  (pss_one (ps_ret (pe_op op_gadd (pv 1) (pe_lst (pa_cons (pe_callB call_isE (by rfl) b_isinstance PyProof.Rows.boot_isinstance (pa_cons (pv 0) (pa_cons (pe_glob rfl m_Endless rfl) pa_nil))) (pa_cons (pe_callB call_isE (by rfl) b_isinstance PyProof.Rows.boot_isinstance (pa_cons (pv 0) (pa_cons (pe_glob rfl m_LimitExceeded rfl) pa_nil))) pa_nil))))))))), pure__law_kinds KI h⟩)
theorem ok__law_built {f : Addr} {fd : FuncData} (F : FunD K "_law_built" "_law_built" (defArgs s__law_built) (defBody s__law_built) (defScope s__law_built) [] [] f fd)
    (KI : KitsOk K)
    (b_IndexError : mg "IndexError" = none)
    (b_KeyError : mg "KeyError" = none)
    (b_LookupError : mg "LookupError" = none)
    (b_NotImplementedError : mg "NotImplementedError" = none)
    (b_OverflowError : mg "OverflowError" = none)
    (b_RuntimeError : mg "RuntimeError" = none)
    (b_ValueError : mg "ValueError" = none)
    (b_ZeroDivisionError : mg "ZeroDivisionError" = none)
    (b_isinstance : mg "isinstance" = none) : Gn P w K mg base 1 f 1 (sp__law_built K) :=
  gn_ok F sc__law_built (fun _ _ _ _ _ _ us hl => match us, hl with | [_], _ => rfl) (fun vs H Q E h => len__law_built h) (fun cdv A outer s H vs Q E hg hr h => ⟨t__law_built K (fun cls d _ H => E cls d H), (pss_cons (ps_set (i := 1) sc__law_built.nd rfl (by first | exact Or.inl rfl | exact Or.inr rfl) (pe_lst (pa_cons (pe_callB call_isE (by rfl) b_isinstance PyProof.Rows.boot_isinstance (pa_cons (pv 0) (pa_cons (pe_bltn (u := .type "ValueError") (by rfl) b_ValueError (by decide +kernel) rfl) pa_nil))) (pa_cons (pe_callB call_isE (by rfl) b_isinstance PyProof.Rows.boot_isinstance (pa_cons (pv 0) (pa_cons (pe_bltn (u := .type "LookupError") (by rfl) b_LookupError (by decide +kernel) rfl) pa_nil))) (pa_cons (pe_callB call_isE (by rfl) b_isinstance PyProof.Rows.boot_isinstance (pa_cons (pv 0) (pa_cons (pe_bltn (u := .type "RuntimeError") (by rfl) b_RuntimeError (by decide +kernel) rfl) pa_nil))) pa_nil)))))
  (pss_cons (ps_set (i := 1) sc__law_built.nd rfl (by first | exact Or.inl rfl | exact Or.inr rfl) (pe_op op_gadd (pv 1) (pe_lst (pa_cons (pe_callB call_isE (by rfl) b_isinstance PyProof.Rows.boot_isinstance (pa_cons (pv 0) (pa_cons (pe_bltn (u := .type "OverflowError") (by rfl) b_OverflowError (by decide +kernel) rfl) pa_nil))) (pa_cons (pe_callB call_isE (by rfl) b_isinstance PyProof.Rows.boot_isinstance (pa_cons (pv 0) (pa_cons (pe_bltn (u := .type "KeyError") (by rfl) b_KeyError (by decide +kernel) rfl) pa_nil))) (pa_cons (pe_callB call_isE (by rfl) b_isinstance PyProof.Rows.boot_isinstance (pa_cons (pv 0) (pa_cons (pe_bltn (u := .type "IndexError") (by rfl) b_IndexError (by decide +kernel) rfl) pa_nil))) pa_nil))))))
  (pss_one (ps_ret (pe_op op_gadd (pv 1) (pe_lst (pa_cons (pe_callB call_isE (by rfl) b_isinstance PyProof.Rows.boot_isinstance (pa_cons (pv 0) (pa_cons (pe_bltn (u := .type "NotImplementedError") (by rfl) b_NotImplementedError (by decide +kernel) rfl) pa_nil))) (pa_cons (pe_callB call_isE (by rfl) b_isinstance PyProof.Rows.boot_isinstance (pa_cons (pv 0) (pa_cons (pe_bltn (u := .type "ZeroDivisionError") (by rfl) b_ZeroDivisionError (by decide +kernel) rfl) pa_nil))) pa_nil)))))))), pure__law_built KI h⟩)
theorem ok_law {f : Addr} {fd : FuncData} {fdi_EdgeExists : FuncData} {fdi_InvalidRules : FuncData} {fdi_LimitExceeded : FuncData} {fdi_NotALog : FuncData} {fdi_ParseError : FuncData} {fdi_UnknownCheckpoint : FuncData} {fdi_UnknownEdge : FuncData} {fdi_UnknownRecord : FuncData} {fdi_UnknownState : FuncData} (F : FunD K "law" "law" (defArgs s_law) (defBody s_law) (defScope s_law) [] [] f fd)
    (KI : KitsOk K)
    (B_EdgeExists : Binds K fdi_EdgeExists ["self", "edge"] [])
    (B_InvalidRules : Binds K fdi_InvalidRules ["self", "place"] [])
    (B_LimitExceeded : Binds K fdi_LimitExceeded ["self", "limit"] [])
    (B_NotALog : Binds K fdi_NotALog ["self", "value"] [])
    (B_ParseError : Binds K fdi_ParseError ["self", "line"] [])
    (B_UnknownCheckpoint : Binds K fdi_UnknownCheckpoint ["self", "number"] [])
    (B_UnknownEdge : Binds K fdi_UnknownEdge ["self", "edge"] [])
    (B_UnknownRecord : Binds K fdi_UnknownRecord ["self", "number"] [])
    (B_UnknownState : Binds K fdi_UnknownState ["self", "state"] [])
    (G__law_built : Gn P w K mg base 1 (He.ga K "_law_built") 1 (sp__law_built K))
    (G__law_kinds : Gn P w K mg base 1 (He.ga K "_law_kinds") 1 (sp__law_kinds K))
    (I_EdgeExists : FnOk P w K mg base CX0 1 (He.ma K (He.ga K "EdgeExists") "__init__") fdi_EdgeExists ["self", "edge"] (spInit (He.ga K "EdgeExists") "edge"))
    (I_InvalidRules : FnOk P w K mg base CX0 1 (He.ma K (He.ga K "InvalidRules") "__init__") fdi_InvalidRules ["self", "place"] (spInit (He.ga K "InvalidRules") "place"))
    (I_LimitExceeded : FnOk P w K mg base CX0 1 (He.ma K (He.ga K "LimitExceeded") "__init__") fdi_LimitExceeded ["self", "limit"] (spInit (He.ga K "LimitExceeded") "limit"))
    (I_NotALog : FnOk P w K mg base CX0 1 (He.ma K (He.ga K "NotALog") "__init__") fdi_NotALog ["self", "value"] (spInit (He.ga K "NotALog") "value"))
    (I_ParseError : FnOk P w K mg base CX0 1 (He.ma K (He.ga K "ParseError") "__init__") fdi_ParseError ["self", "line"] (spInit (He.ga K "ParseError") "line"))
    (I_UnknownCheckpoint : FnOk P w K mg base CX0 1 (He.ma K (He.ga K "UnknownCheckpoint") "__init__") fdi_UnknownCheckpoint ["self", "number"] (spInit (He.ga K "UnknownCheckpoint") "number"))
    (I_UnknownEdge : FnOk P w K mg base CX0 1 (He.ma K (He.ga K "UnknownEdge") "__init__") fdi_UnknownEdge ["self", "edge"] (spInit (He.ga K "UnknownEdge") "edge"))
    (I_UnknownRecord : FnOk P w K mg base CX0 1 (He.ma K (He.ga K "UnknownRecord") "__init__") fdi_UnknownRecord ["self", "number"] (spInit (He.ga K "UnknownRecord") "number"))
    (I_UnknownState : FnOk P w K mg base CX0 1 (He.ma K (He.ga K "UnknownState") "__init__") fdi_UnknownState ["self", "state"] (spInit (He.ga K "UnknownState") "state"))
    (Q_EdgeExists : KBd fdi_EdgeExists ["self", "edge"] "edge")
    (Q_InvalidRules : KBd fdi_InvalidRules ["self", "place"] "place")
    (Q_LimitExceeded : KBd fdi_LimitExceeded ["self", "limit"] "limit")
    (Q_NotALog : KBd fdi_NotALog ["self", "value"] "value")
    (Q_ParseError : KBd fdi_ParseError ["self", "line"] "line")
    (Q_UnknownCheckpoint : KBd fdi_UnknownCheckpoint ["self", "number"] "number")
    (Q_UnknownEdge : KBd fdi_UnknownEdge ["self", "edge"] "edge")
    (Q_UnknownRecord : KBd fdi_UnknownRecord ["self", "number"] "number")
    (Q_UnknownState : KBd fdi_UnknownState ["self", "state"] "state")
    (T_EdgeExists : ExB "RuntimeError" "RuntimeError.__new__" bmRE K (He.ga K "EdgeExists") (He.ma K (He.ga K "EdgeExists") "__init__") "edge")
    (T_Endless : Ex0 "RuntimeError.__new__" bmRE K (He.ga K "Endless"))
    (T_InvalidClaim : Ex0 "ValueError.__new__" [.type "ValueError", .type "Exception", .type "BaseException", .type "object"] K (He.ga K "InvalidClaim"))
    (T_InvalidRules : ExB "ValueError" "ValueError.__new__" [.type "ValueError", .type "Exception", .type "BaseException", .type "object"] K (He.ga K "InvalidRules") (He.ma K (He.ga K "InvalidRules") "__init__") "place")
    (T_LimitExceeded : ExB "OverflowError" "OverflowError.__new__" bmOE K (He.ga K "LimitExceeded") (He.ma K (He.ga K "LimitExceeded") "__init__") "limit")
    (T_NotALog : ExB "ValueError" "ValueError.__new__" [.type "ValueError", .type "Exception", .type "BaseException", .type "object"] K (He.ga K "NotALog") (He.ma K (He.ga K "NotALog") "__init__") "value")
    (T_ParseError : ExB "ValueError" "ValueError.__new__" [.type "ValueError", .type "Exception", .type "BaseException", .type "object"] K (He.ga K "ParseError") (He.ma K (He.ga K "ParseError") "__init__") "line")
    (T_UnknownCheckpoint : ExB "LookupError" "LookupError.__new__" bmLE K (He.ga K "UnknownCheckpoint") (He.ma K (He.ga K "UnknownCheckpoint") "__init__") "number")
    (T_UnknownEdge : ExB "LookupError" "LookupError.__new__" bmLE K (He.ga K "UnknownEdge") (He.ma K (He.ga K "UnknownEdge") "__init__") "edge")
    (T_UnknownRecord : ExB "LookupError" "LookupError.__new__" bmLE K (He.ga K "UnknownRecord") (He.ma K (He.ga K "UnknownRecord") "__init__") "number")
    (T_UnknownState : ExB "LookupError" "LookupError.__new__" bmLE K (He.ga K "UnknownState") (He.ma K (He.ga K "UnknownState") "__init__") "state")
    (T_Unpaired : Ex0 "ValueError.__new__" [.type "ValueError", .type "Exception", .type "BaseException", .type "object"] K (He.ga K "Unpaired"))
    (b_abs : mg "abs" = none)
    (b_range : mg "range" = none)
    (b_sum : mg "sum" = none)
    (k__law_built : PySem.W.keepIn K (.ref (He.ga K "_law_built")) = true)
    (k__law_kinds : PySem.W.keepIn K (.ref (He.ga K "_law_kinds")) = true)
    (m_EdgeExists : mg "EdgeExists" = some (.ref (He.ga K "EdgeExists")))
    (m_Endless : mg "Endless" = some (.ref (He.ga K "Endless")))
    (m_InvalidClaim : mg "InvalidClaim" = some (.ref (He.ga K "InvalidClaim")))
    (m_InvalidRules : mg "InvalidRules" = some (.ref (He.ga K "InvalidRules")))
    (m_LimitExceeded : mg "LimitExceeded" = some (.ref (He.ga K "LimitExceeded")))
    (m_NotALog : mg "NotALog" = some (.ref (He.ga K "NotALog")))
    (m_ParseError : mg "ParseError" = some (.ref (He.ga K "ParseError")))
    (m_UnknownCheckpoint : mg "UnknownCheckpoint" = some (.ref (He.ga K "UnknownCheckpoint")))
    (m_UnknownEdge : mg "UnknownEdge" = some (.ref (He.ga K "UnknownEdge")))
    (m_UnknownRecord : mg "UnknownRecord" = some (.ref (He.ga K "UnknownRecord")))
    (m_UnknownState : mg "UnknownState" = some (.ref (He.ga K "UnknownState")))
    (m_Unpaired : mg "Unpaired" = some (.ref (He.ga K "Unpaired")))
    (m__law_built : mg "_law_built" = some (.ref (He.ga K "_law_built")))
    (m__law_kinds : mg "_law_kinds" = some (.ref (He.ga K "_law_kinds"))) : Gn P w K mg base 3 f 1 (spLaw K) :=
  gn_ok F sc_law (fun _ _ _ _ _ _ us hl => match us, hl with | [_], _ => rfl) (fun vs H Q E h => len_law h) (fun cdv A outer s H vs Q E hg hr h => ⟨t_law K (fun cls d _ H => E cls d H), (pss_cons (ps_set (i := 1) sc_law.nd rfl (by first | exact Or.inl rfl | exact Or.inr rfl) (pe_op op_mod (pe_callB call_abs (by rfl) b_abs (by decide +kernel) (pa_cons (pe_callB (cr_sumG rfl) (by rfl) b_sum (by decide +kernel) (pa_cons (pe_slice sl_g (pv 0) po_none (po_some pe_int)) pa_nil)) pa_nil)) pe_int))
  (pss_cons (ps_par (i := 2) (j := 3) (by rfl) sc_law.nd rfl rfl (by decide) rfl rfl (pa_cons (pe_tup (pa_cons (pv 1) (pa_cons pe_int pa_nil))) (pa_cons (pe_tup (pa_cons (pv 1) (pa_cons pe_str (pa_cons pe_int pa_nil)))) pa_nil)) (by rfl))
  (pss_cons (ps_set (i := 4) sc_law.nd rfl (by first | exact Or.inl rfl | exact Or.inr rfl) (pe_lst (pa_cons (g_mkXK PySem.F.excBase_ValueError T_NotALog I_NotALog (hr.mono (by decide)) Q_NotALog rfl m_NotALog (pv 2)) (pa_cons (g_mkXK PySem.F.excBase_ValueError T_InvalidRules I_InvalidRules (hr.mono (by decide)) Q_InvalidRules rfl m_InvalidRules (pv 2)) (pa_cons (g_mk0 PySem.F.excBase_ValueError T_InvalidClaim.q rfl m_InvalidClaim T_InvalidClaim.kp) (pa_cons (g_mk0 PySem.F.excBase_ValueError T_Unpaired.q rfl m_Unpaired T_Unpaired.kp) (pa_cons (g_mkXK PySem.F.excBase_ValueError T_ParseError I_ParseError (hr.mono (by decide)) Q_ParseError rfl m_ParseError (pv 1)) pa_nil)))))))
  (pss_cons (ps_set (i := 4) sc_law.nd rfl (by first | exact Or.inl rfl | exact Or.inr rfl) (pe_op op_gadd (pv 4) (pe_lst (pa_cons (g_mkXK PySem.F.excBase_LookupError T_UnknownState I_UnknownState (hr.mono (by decide)) Q_UnknownState rfl m_UnknownState (pv 1)) (pa_cons (g_mkXK PySem.F.excBase_LookupError T_UnknownEdge I_UnknownEdge (hr.mono (by decide)) Q_UnknownEdge rfl m_UnknownEdge (pv 3)) (pa_cons (g_mkXK PySem.F.excBase_LookupError T_UnknownCheckpoint I_UnknownCheckpoint (hr.mono (by decide)) Q_UnknownCheckpoint rfl m_UnknownCheckpoint (pv 1)) pa_nil))))))
  (pss_cons (ps_set (i := 4) sc_law.nd rfl (by first | exact Or.inl rfl | exact Or.inr rfl) (pe_op op_gadd (pv 4) (pe_lst (pa_cons (g_mkXK PySem.F.excBase_LookupError T_UnknownRecord I_UnknownRecord (hr.mono (by decide)) Q_UnknownRecord rfl m_UnknownRecord (pv 1)) (pa_cons (g_mkXK PySem.F.excBase_RuntimeError T_EdgeExists I_EdgeExists (hr.mono (by decide)) Q_EdgeExists rfl m_EdgeExists (pv 3)) (pa_cons (g_mk0 PySem.F.excBase_RuntimeError T_Endless.q rfl m_Endless T_Endless.kp) (pa_cons (g_mkXK PySem.F.excBase_OverflowError T_LimitExceeded I_LimitExceeded (hr.mono (by decide)) Q_LimitExceeded rfl m_LimitExceeded (pv 1)) pa_nil)))))))
  (pss_cons (ps_set (i := 5) sc_law.nd rfl (by first | exact Or.inl rfl | exact Or.inr rfl) (pe_op op_gadd (pe_op op_gadd (pe_op op_rep (pe_lst (pa_cons pe_int pa_nil)) pe_int) (pe_op op_rep (pe_lst (pa_cons pe_int pa_nil)) pe_int)) (pe_lst (pa_cons pe_int (pa_cons pe_int (pa_cons pe_int pa_nil))))))
  (pss_cons (ps_for (L2.passes_of rfl) rfl (pi_range1 rfl b_range (pa_cons pe_int pa_nil)) (pg_name (i := 6) sc_law.nd rfl (by first | exact Or.inl rfl | exact Or.inr rfl)) (pss_cons (ps_if (pt_cmpR (op_gne hr.units) (g_call G__law_kinds hg (hr.mono (by decide)) (L2.takes_of rfl rfl rfl rfl) rfl m__law_kinds k__law_kinds (pa_cons (pe_ix ix_seq (pv 4) (pv 6) (fun _ _ => rfl)) pa_nil)) (pe_lc (own := [("at", 7)]) (g := (gName 7)) rfl sc_law.nd (pi_range1 rfl b_range (pa_cons pe_int pa_nil)) (blkOk_by (own := [("at", 7)]) (N := N_law) (sc := defScope s_law) (by decide +kernel)) (fun _ _ _ _ _ => (pg_name (i := 7) sc_law.nd rfl (by first | exact Or.inl rfl | exact Or.inr rfl))) (fun _ _ _ _ _ => pts_nil) (fun _ _ _ _ _ => (pe_cmpR (op_geq hr.units) (pv 7) (pv 6) (nomark _)))) (nomark _)) (pss_one (ps_ret pe_bl)) pss_nil)
  (pss_one (ps_if (pt_cmpR (op_gne hr.units) (g_call G__law_built hg (hr.mono (by decide)) (L2.takes_of rfl rfl rfl rfl) rfl m__law_built k__law_built (pa_cons (pe_ix ix_seq (pv 4) (pv 6) (fun _ _ => rfl)) pa_nil)) (pe_lc (own := [("at", 7)]) (g := (gName 7)) rfl sc_law.nd (pi_range1 rfl b_range (pa_cons pe_int pa_nil)) (blkOk_by (own := [("at", 7)]) (N := N_law) (sc := defScope s_law) (by decide +kernel)) (fun _ _ _ _ _ => (pg_name (i := 7) sc_law.nd rfl (by first | exact Or.inl rfl | exact Or.inr rfl))) (fun _ _ _ _ _ => pts_nil) (fun _ _ _ _ _ => (pe_cmpR (op_geq hr.units) (pv 7) (pe_ix ix_seq (pv 5) (pv 6) (fun _ _ => rfl)) (nomark _)))) (nomark _)) (pss_one (ps_ret pe_bl)) pss_nil))))
  (pss_cons (ps_set (i := 8) sc_law.nd rfl (by first | exact Or.inl rfl | exact Or.inr rfl) (pe_lst (pa_cons (pe_fldE (pe_ix ix_seq (pv 4) pe_int (fun _ _ => rfl))) (pa_cons (pe_fldE (pe_ix ix_seq (pv 4) pe_int (fun _ _ => rfl))) (pa_cons (pe_fldE (g_mkX PySem.F.excBase_ValueError T_NotALog I_NotALog (hr.mono (by decide)) B_NotALog rfl m_NotALog (pa_cons (pv 2) pa_nil))) (pa_cons (pe_fldE (g_mkX PySem.F.excBase_ValueError T_InvalidRules I_InvalidRules (hr.mono (by decide)) B_InvalidRules rfl m_InvalidRules (pa_cons (pv 2) pa_nil))) pa_nil))))))
  (pss_cons (ps_set (i := 9) sc_law.nd rfl (by first | exact Or.inl rfl | exact Or.inr rfl) (pe_lst (pa_cons (pe_fldE (pe_ix ix_seq (pv 4) pe_int (fun _ _ => rfl))) (pa_cons (pe_fldE (pe_ix ix_seq (pv 4) pe_int (fun _ _ => rfl))) (pa_cons (pe_fldE (g_mkX PySem.F.excBase_LookupError T_UnknownEdge I_UnknownEdge (hr.mono (by decide)) B_UnknownEdge rfl m_UnknownEdge (pa_cons (pv 3) pa_nil))) (pa_cons (pe_fldE (g_mkX PySem.F.excBase_RuntimeError T_EdgeExists I_EdgeExists (hr.mono (by decide)) B_EdgeExists rfl m_EdgeExists (pa_cons (pv 3) pa_nil))) pa_nil))))))
  (pss_cons (ps_if (PW.pt (pw_or (pt_cmpR (op_gne hr.units) (pv 8) (pe_op op_rep (pe_lst (pa_cons (pv 2) pa_nil)) pe_int) (nomark _)) (pw_or1 (pt_cmpR (op_gne hr.units) (pv 9) (pe_op op_rep (pe_lst (pa_cons (pv 3) pa_nil)) pe_int) (nomark _))))) (pss_one (ps_ret pe_bl)) pss_nil)
  (pss_cons (ps_set (i := 8) sc_law.nd rfl (by first | exact Or.inl rfl | exact Or.inr rfl) (pe_lst (pa_cons (pe_fldE (pe_ix ix_seq (pv 4) pe_int (fun _ _ => rfl))) (pa_cons (pe_fldE (pe_ix ix_seq (pv 4) pe_int (fun _ _ => rfl))) (pa_cons (pe_fldE (pe_ix ix_seq (pv 4) pe_int (fun _ _ => rfl))) (pa_cons (pe_fldE (pe_ix ix_seq (pv 4) pe_int (fun _ _ => rfl))) (pa_cons (pe_fldE (pe_ix ix_seq (pv 4) pe_int (fun _ _ => rfl))) (pa_cons (pe_fldE (g_mkX PySem.F.excBase_ValueError T_ParseError I_ParseError (hr.mono (by decide)) B_ParseError rfl m_ParseError (pa_cons (pv 1) pa_nil))) pa_nil))))))))
  (pss_cons (ps_set (i := 8) sc_law.nd rfl (by first | exact Or.inl rfl | exact Or.inr rfl) (pe_op op_gadd (pv 8) (pe_lst (pa_cons (pe_fldE (g_mkX PySem.F.excBase_LookupError T_UnknownState I_UnknownState (hr.mono (by decide)) B_UnknownState rfl m_UnknownState (pa_cons (pv 1) pa_nil))) (pa_cons (pe_fldE (g_mkX PySem.F.excBase_LookupError T_UnknownCheckpoint I_UnknownCheckpoint (hr.mono (by decide)) B_UnknownCheckpoint rfl m_UnknownCheckpoint (pa_cons (pv 1) pa_nil))) (pa_cons (pe_fldE (g_mkX PySem.F.excBase_LookupError T_UnknownRecord I_UnknownRecord (hr.mono (by decide)) B_UnknownRecord rfl m_UnknownRecord (pa_cons (pv 1) pa_nil))) pa_nil))))))
  (pss_one (ps_ret (pe_cmpR (op_geq hr.units) (pe_op op_gadd (pv 8) (pe_lst (pa_cons (pe_fldE (g_mkX PySem.F.excBase_OverflowError T_LimitExceeded I_LimitExceeded (hr.mono (by decide)) B_LimitExceeded rfl m_LimitExceeded (pa_cons (pv 1) pa_nil))) pa_nil))) (pe_op op_rep (pe_lst (pa_cons (pv 1) pa_nil)) pe_int) (nomark _)))))))))))))))), pure_law KI T_EdgeExists T_InvalidRules T_LimitExceeded T_NotALog T_ParseError T_UnknownCheckpoint T_UnknownEdge T_UnknownRecord T_UnknownState h⟩)
end
def d__law_kinds : He.DefD := ⟨("_law_kinds", none), "_law_kinds", "_law_kinds", defArgs s__law_kinds, defBody s__law_kinds, defScope s__law_kinds, [], []⟩
def d__law_built : He.DefD := ⟨("_law_built", none), "_law_built", "_law_built", defArgs s__law_built, defBody s__law_built, defScope s__law_built, [], []⟩
def d_law : He.DefD := ⟨("law", none), "law", "law", defArgs s_law, defBody s_law, defScope s_law, [], []⟩
def d_EdgeExists___init__ : He.DefD := ⟨("EdgeExists", some "__init__"), "__init__", "EdgeExists.__init__", defArgs s_EdgeExists___init__, defBody s_EdgeExists___init__, defScope s_EdgeExists___init__, [], []⟩
def d_InvalidRules___init__ : He.DefD := ⟨("InvalidRules", some "__init__"), "__init__", "InvalidRules.__init__", defArgs s_InvalidRules___init__, defBody s_InvalidRules___init__, defScope s_InvalidRules___init__, [], []⟩
def d_LimitExceeded___init__ : He.DefD := ⟨("LimitExceeded", some "__init__"), "__init__", "LimitExceeded.__init__", defArgs s_LimitExceeded___init__, defBody s_LimitExceeded___init__, defScope s_LimitExceeded___init__, [], []⟩
def d_NotALog___init__ : He.DefD := ⟨("NotALog", some "__init__"), "__init__", "NotALog.__init__", defArgs s_NotALog___init__, defBody s_NotALog___init__, defScope s_NotALog___init__, [], []⟩
def d_ParseError___init__ : He.DefD := ⟨("ParseError", some "__init__"), "__init__", "ParseError.__init__", defArgs s_ParseError___init__, defBody s_ParseError___init__, defScope s_ParseError___init__, [], []⟩
def d_UnknownCheckpoint___init__ : He.DefD := ⟨("UnknownCheckpoint", some "__init__"), "__init__", "UnknownCheckpoint.__init__", defArgs s_UnknownCheckpoint___init__, defBody s_UnknownCheckpoint___init__, defScope s_UnknownCheckpoint___init__, [], []⟩
def d_UnknownEdge___init__ : He.DefD := ⟨("UnknownEdge", some "__init__"), "__init__", "UnknownEdge.__init__", defArgs s_UnknownEdge___init__, defBody s_UnknownEdge___init__, defScope s_UnknownEdge___init__, [], []⟩
def d_UnknownRecord___init__ : He.DefD := ⟨("UnknownRecord", some "__init__"), "__init__", "UnknownRecord.__init__", defArgs s_UnknownRecord___init__, defBody s_UnknownRecord___init__, defScope s_UnknownRecord___init__, [], []⟩
def d_UnknownState___init__ : He.DefD := ⟨("UnknownState", some "__init__"), "__init__", "UnknownState.__init__", defArgs s_UnknownState___init__, defBody s_UnknownState___init__, defScope s_UnknownState___init__, [], []⟩
def fn : List He.DefD := [d__law_kinds, d__law_built, d_law, d_EdgeExists___init__, d_InvalidRules___init__, d_LimitExceeded___init__, d_NotALog___init__, d_ParseError___init__, d_UnknownCheckpoint___init__, d_UnknownEdge___init__, d_UnknownRecord___init__, d_UnknownState___init__]
def ex (K : PySem.W.Frag) : Bool := exB "RuntimeError.__new__" bmRE "EdgeExists" "edge" K && exB "ValueError.__new__" [.type "ValueError", .type "Exception", .type "BaseException", .type "object"] "InvalidRules" "place" K && exB "OverflowError.__new__" bmOE "LimitExceeded" "limit" K && exB "ValueError.__new__" [.type "ValueError", .type "Exception", .type "BaseException", .type "object"] "NotALog" "value" K && exB "ValueError.__new__" [.type "ValueError", .type "Exception", .type "BaseException", .type "object"] "ParseError" "line" K && exB "LookupError.__new__" bmLE "UnknownCheckpoint" "number" K && exB "LookupError.__new__" bmLE "UnknownEdge" "edge" K && exB "LookupError.__new__" bmLE "UnknownRecord" "number" K && exB "LookupError.__new__" bmLE "UnknownState" "state" K && ex0 "RuntimeError.__new__" bmRE "Endless" K && ex0 "ValueError.__new__" [.type "ValueError", .type "Exception", .type "BaseException", .type "object"] "InvalidClaim" K && ex0 "ValueError.__new__" [.type "ValueError", .type "Exception", .type "BaseException", .type "object"] "Unpaired" K && kitsB K
def fa : List He.Fa := [.free "isinstance", .glo "EdgeExists", .glo "Endless", .glo "InvalidClaim", .glo "InvalidRules", .glo "LimitExceeded", .glo "NotALog", .glo "ParseError", .glo "UnknownCheckpoint", .glo "UnknownEdge", .glo "UnknownRecord", .glo "UnknownState", .glo "Unpaired", .free "IndexError", .free "KeyError", .free "LookupError", .free "NotImplementedError", .free "OverflowError", .free "RuntimeError", .free "ValueError", .free "ZeroDivisionError", .free "abs", .free "range", .free "sum", .glo "_law_built", .glo "_law_kinds", .glo "law"]
abbrev R : PySem.W.OpenRow := PySem.W.OpenLaw.row PySem.Challenge.rw_gaprules_k85_errors
abbrev hk : PySem.W.Hook := hookX 4 fa fn ex
def ob (s : PySem.W.SharedT) : He.AlD × Bool := obsX 4 fa fn ex (HandSHeadRun.getT s)
theorem ob_eq (s : PySem.W.SharedT) : ob s = hk.obs s.abs := obsX_eq (HandSHeadRun.getT_eq s)
def loose : List Str := ["NotALog", "InvalidRules", "InvalidClaim", "Unpaired", "ParseError", "UnknownState", "UnknownEdge", "UnknownCheckpoint", "UnknownRecord", "EdgeExists", "Endless", "LimitExceeded", "_law_kinds", "_law_built"]
theorem run (w : World) : HandSHeadRun.RunEq R (PySem.W.view R.prog [16]) hk ob 8000 loose w := by
  intro os
  kernel_rfl
theorem facts {P : Program} {w : World} {K : PySem.W.Frag} {h : Heap} {mg : Str → Option Value} {f : Addr} (X : K.In h) (G : h.Ns mainGlobals mg) (hfa : mg ("law" : Str) = some (.ref f)) (c : He.SaysD fa fn K) (hx : ex K = true) :
    ∀ base : Heap, K.In base → base.Ns mainGlobals mg → Gn P w K mg base 3 f 1 (spLaw K) := by
  obtain ⟨fd__law_kinds, F__law_kinds⟩ := c.def_ 0 (d := d__law_kinds) rfl
  obtain ⟨fd__law_built, F__law_built⟩ := c.def_ 1 (d := d__law_built) rfl
  obtain ⟨fd_law, F_law⟩ := c.def_ 2 (d := d_law) rfl
  obtain ⟨fdi_EdgeExists, Fi_EdgeExists⟩ := c.def_ 3 (d := d_EdgeExists___init__) rfl
  obtain ⟨fdi_InvalidRules, Fi_InvalidRules⟩ := c.def_ 4 (d := d_InvalidRules___init__) rfl
  obtain ⟨fdi_LimitExceeded, Fi_LimitExceeded⟩ := c.def_ 5 (d := d_LimitExceeded___init__) rfl
  obtain ⟨fdi_NotALog, Fi_NotALog⟩ := c.def_ 6 (d := d_NotALog___init__) rfl
  obtain ⟨fdi_ParseError, Fi_ParseError⟩ := c.def_ 7 (d := d_ParseError___init__) rfl
  obtain ⟨fdi_UnknownCheckpoint, Fi_UnknownCheckpoint⟩ := c.def_ 8 (d := d_UnknownCheckpoint___init__) rfl
  obtain ⟨fdi_UnknownEdge, Fi_UnknownEdge⟩ := c.def_ 9 (d := d_UnknownEdge___init__) rfl
  obtain ⟨fdi_UnknownRecord, Fi_UnknownRecord⟩ := c.def_ 10 (d := d_UnknownRecord___init__) rfl
  obtain ⟨fdi_UnknownState, Fi_UnknownState⟩ := c.def_ 11 (d := d_UnknownState___init__) rfl
  unfold ex at hx
  simp only [Bool.and_eq_true] at hx
  have T_EdgeExists : ExB "RuntimeError" "RuntimeError.__new__" bmRE K (He.ga K "EdgeExists") (He.ma K (He.ga K "EdgeExists") "__init__") "edge" := exB_ok hx.1.1.1.1.1.1.1.1.1.1.1.1
  have T_InvalidRules : ExB "ValueError" "ValueError.__new__" [.type "ValueError", .type "Exception", .type "BaseException", .type "object"] K (He.ga K "InvalidRules") (He.ma K (He.ga K "InvalidRules") "__init__") "place" := exB_ok hx.1.1.1.1.1.1.1.1.1.1.1.2
  have T_LimitExceeded : ExB "OverflowError" "OverflowError.__new__" bmOE K (He.ga K "LimitExceeded") (He.ma K (He.ga K "LimitExceeded") "__init__") "limit" := exB_ok hx.1.1.1.1.1.1.1.1.1.1.2
  have T_NotALog : ExB "ValueError" "ValueError.__new__" [.type "ValueError", .type "Exception", .type "BaseException", .type "object"] K (He.ga K "NotALog") (He.ma K (He.ga K "NotALog") "__init__") "value" := exB_ok hx.1.1.1.1.1.1.1.1.1.2
  have T_ParseError : ExB "ValueError" "ValueError.__new__" [.type "ValueError", .type "Exception", .type "BaseException", .type "object"] K (He.ga K "ParseError") (He.ma K (He.ga K "ParseError") "__init__") "line" := exB_ok hx.1.1.1.1.1.1.1.1.2
  have T_UnknownCheckpoint : ExB "LookupError" "LookupError.__new__" bmLE K (He.ga K "UnknownCheckpoint") (He.ma K (He.ga K "UnknownCheckpoint") "__init__") "number" := exB_ok hx.1.1.1.1.1.1.1.2
  have T_UnknownEdge : ExB "LookupError" "LookupError.__new__" bmLE K (He.ga K "UnknownEdge") (He.ma K (He.ga K "UnknownEdge") "__init__") "edge" := exB_ok hx.1.1.1.1.1.1.2
  have T_UnknownRecord : ExB "LookupError" "LookupError.__new__" bmLE K (He.ga K "UnknownRecord") (He.ma K (He.ga K "UnknownRecord") "__init__") "number" := exB_ok hx.1.1.1.1.1.2
  have T_UnknownState : ExB "LookupError" "LookupError.__new__" bmLE K (He.ga K "UnknownState") (He.ma K (He.ga K "UnknownState") "__init__") "state" := exB_ok hx.1.1.1.1.2
  have T_Endless : Ex0 "RuntimeError.__new__" bmRE K (He.ga K "Endless") := ex0_ok hx.1.1.1.2
  have T_InvalidClaim : Ex0 "ValueError.__new__" [.type "ValueError", .type "Exception", .type "BaseException", .type "object"] K (He.ga K "InvalidClaim") := ex0_ok hx.1.1.2
  have T_Unpaired : Ex0 "ValueError.__new__" [.type "ValueError", .type "Exception", .type "BaseException", .type "object"] K (He.ga K "Unpaired") := ex0_ok hx.1.2
  have KI : KitsOk K := kits_ok hx.2
  have e := hfa.symm.trans (He.glo_ok X G (c.fact 26 (f := .glo "law") rfl))
  cases e
  intro base _ _
  have G__law_kinds : Gn P w K mg base 1 (He.ga K "_law_kinds") 1 (sp__law_kinds K) := ok__law_kinds F__law_kinds KI (He.free_ok X G (c.fact 0 (f := .free "isinstance") rfl)) (He.glo_ok X G (c.fact 1 (f := .glo "EdgeExists") rfl)) (He.glo_ok X G (c.fact 2 (f := .glo "Endless") rfl)) (He.glo_ok X G (c.fact 3 (f := .glo "InvalidClaim") rfl)) (He.glo_ok X G (c.fact 4 (f := .glo "InvalidRules") rfl)) (He.glo_ok X G (c.fact 5 (f := .glo "LimitExceeded") rfl)) (He.glo_ok X G (c.fact 6 (f := .glo "NotALog") rfl)) (He.glo_ok X G (c.fact 7 (f := .glo "ParseError") rfl)) (He.glo_ok X G (c.fact 8 (f := .glo "UnknownCheckpoint") rfl)) (He.glo_ok X G (c.fact 9 (f := .glo "UnknownEdge") rfl)) (He.glo_ok X G (c.fact 10 (f := .glo "UnknownRecord") rfl)) (He.glo_ok X G (c.fact 11 (f := .glo "UnknownState") rfl)) (He.glo_ok X G (c.fact 12 (f := .glo "Unpaired") rfl))
  have G__law_built : Gn P w K mg base 1 (He.ga K "_law_built") 1 (sp__law_built K) := ok__law_built F__law_built KI (He.free_ok X G (c.fact 13 (f := .free "IndexError") rfl)) (He.free_ok X G (c.fact 14 (f := .free "KeyError") rfl)) (He.free_ok X G (c.fact 15 (f := .free "LookupError") rfl)) (He.free_ok X G (c.fact 16 (f := .free "NotImplementedError") rfl)) (He.free_ok X G (c.fact 17 (f := .free "OverflowError") rfl)) (He.free_ok X G (c.fact 18 (f := .free "RuntimeError") rfl)) (He.free_ok X G (c.fact 19 (f := .free "ValueError") rfl)) (He.free_ok X G (c.fact 20 (f := .free "ZeroDivisionError") rfl)) (He.free_ok X G (c.fact 0 (f := .free "isinstance") rfl))
  have G_law : Gn P w K mg base 3 (He.ga K "law") 1 (spLaw K) := ok_law F_law KI (Fi_EdgeExists.bindsN fun _ _ _ _ _ _ us hl => match us, hl with | [_, _], _ => rfl) (Fi_InvalidRules.bindsN fun _ _ _ _ _ _ us hl => match us, hl with | [_, _], _ => rfl) (Fi_LimitExceeded.bindsN fun _ _ _ _ _ _ us hl => match us, hl with | [_, _], _ => rfl) (Fi_NotALog.bindsN fun _ _ _ _ _ _ us hl => match us, hl with | [_, _], _ => rfl) (Fi_ParseError.bindsN fun _ _ _ _ _ _ us hl => match us, hl with | [_, _], _ => rfl) (Fi_UnknownCheckpoint.bindsN fun _ _ _ _ _ _ us hl => match us, hl with | [_, _], _ => rfl) (Fi_UnknownEdge.bindsN fun _ _ _ _ _ _ us hl => match us, hl with | [_, _], _ => rfl) (Fi_UnknownRecord.bindsN fun _ _ _ _ _ _ us hl => match us, hl with | [_, _], _ => rfl) (Fi_UnknownState.bindsN fun _ _ _ _ _ _ us hl => match us, hl with | [_, _], _ => rfl) G__law_built G__law_kinds (oki_EdgeExists Fi_EdgeExists T_EdgeExists) (oki_InvalidRules Fi_InvalidRules T_InvalidRules) (oki_LimitExceeded Fi_LimitExceeded T_LimitExceeded) (oki_NotALog Fi_NotALog T_NotALog) (oki_ParseError Fi_ParseError T_ParseError) (oki_UnknownCheckpoint Fi_UnknownCheckpoint T_UnknownCheckpoint) (oki_UnknownEdge Fi_UnknownEdge T_UnknownEdge) (oki_UnknownRecord Fi_UnknownRecord T_UnknownRecord) (oki_UnknownState Fi_UnknownState T_UnknownState) (bindKw Fi_EdgeExists fun _ _ _ _ _ _ _ _ => rfl) (bindKw Fi_InvalidRules fun _ _ _ _ _ _ _ _ => rfl) (bindKw Fi_LimitExceeded fun _ _ _ _ _ _ _ _ => rfl) (bindKw Fi_NotALog fun _ _ _ _ _ _ _ _ => rfl) (bindKw Fi_ParseError fun _ _ _ _ _ _ _ _ => rfl) (bindKw Fi_UnknownCheckpoint fun _ _ _ _ _ _ _ _ => rfl) (bindKw Fi_UnknownEdge fun _ _ _ _ _ _ _ _ => rfl) (bindKw Fi_UnknownRecord fun _ _ _ _ _ _ _ _ => rfl) (bindKw Fi_UnknownState fun _ _ _ _ _ _ _ _ => rfl) T_EdgeExists T_Endless T_InvalidClaim T_InvalidRules T_LimitExceeded T_NotALog T_ParseError T_UnknownCheckpoint T_UnknownEdge T_UnknownRecord T_UnknownState T_Unpaired (He.free_ok X G (c.fact 21 (f := .free "abs") rfl)) (He.free_ok X G (c.fact 22 (f := .free "range") rfl)) (He.free_ok X G (c.fact 23 (f := .free "sum") rfl)) F__law_built.kp F__law_kinds.kp (He.glo_ok X G (c.fact 1 (f := .glo "EdgeExists") rfl)) (He.glo_ok X G (c.fact 2 (f := .glo "Endless") rfl)) (He.glo_ok X G (c.fact 3 (f := .glo "InvalidClaim") rfl)) (He.glo_ok X G (c.fact 4 (f := .glo "InvalidRules") rfl)) (He.glo_ok X G (c.fact 5 (f := .glo "LimitExceeded") rfl)) (He.glo_ok X G (c.fact 6 (f := .glo "NotALog") rfl)) (He.glo_ok X G (c.fact 7 (f := .glo "ParseError") rfl)) (He.glo_ok X G (c.fact 8 (f := .glo "UnknownCheckpoint") rfl)) (He.glo_ok X G (c.fact 9 (f := .glo "UnknownEdge") rfl)) (He.glo_ok X G (c.fact 10 (f := .glo "UnknownRecord") rfl)) (He.glo_ok X G (c.fact 11 (f := .glo "UnknownState") rfl)) (He.glo_ok X G (c.fact 12 (f := .glo "Unpaired") rfl)) (He.glo_ok X G (c.fact 24 (f := .glo "_law_built") rfl)) (He.glo_ok X G (c.fact 25 (f := .glo "_law_kinds") rfl))
  exact G_law
end D85
open PySem PySem.W PySem.Calls PyProof.Rows
theorem PySem.Challenge.cw_gaprules_k85_errors_holds : PySem.Challenge.rw_gaprules_k85_errors.Holds := by
  w_on; o_law
  refine HandSHeadRun.head_any (r := OpenLaw.row PySem.Challenge.rw_gaprules_k85_errors) (q := view (OpenLaw.row PySem.Challenge.rw_gaprules_k85_errors).prog [16]) (H := D85.hk) (ob := D85.ob) (M := 8000) (loose := D85.loose) (d := HandSHeadRun.topDef (OpenLaw.row PySem.Challenge.rw_gaprules_k85_errors).prog 16) (kwd := []) D85.ob_eq
    (by kernel_rfl) (fun s => by kernel_rfl) D85.run (by kernel_rfl) (by kernel_rfl) (by kernel_rfl) (by rfl) (by first | assumption | decide +kernel) (by decide +kernel) ⟨rfl, rfl, rfl, rfl, rfl, by decide +kernel⟩ ?hw ?hc
  case hw => w_witness2
  case hc =>
    refine GL.g_walk (l := PySem.Challenge.rw_gaprules_k85_errors) (n := 63) (k := 3) rfl (by decide) (by kernel_rfl) ⟨rfl, by decide, by decide⟩ ?_
    intro w mg fa h Y G hmg0
    obtain ⟨K, KX, c, hx⟩ := Y
    have hmg : mg ("law" : PySem.Str) = some (.ref fa) := by
      have e : (HandSHeadRun.topDef (OpenLaw.row PySem.Challenge.rw_gaprules_k85_errors).prog 16).name = ("law" : PySem.Str) := by kernel_rfl
      rw [← e]
      exact hmg0
    exact ⟨K, GL.spLaw K, KX, fun H a ns hl _ hS => ⟨a, ns, rfl, hS, hl, fun _ => rfl⟩, D85.facts (P := (PySem.Challenge.rw_gaprules_k85_errors).prog) (w := w) KX G hmg c hx⟩

