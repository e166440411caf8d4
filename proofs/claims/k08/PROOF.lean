import PyProof.Rows.All
import Wide.All
import OpenK.AllK
import Wide.FinOn
import HandS.ForMost
import HandS.ForExc
import HandS.Head0
import HandS.Head1
import HandS.Head2
import HandS.HeadEnd
import HandS.HeadHook1
import HandS.HeadHook2
import HandS.ExcInit
import KE.Datum
import HandS.StrMore
import HandS.Codes
import KE.GoesNew
import KE.GoesMore
import HandS.IsInst
import HandS.Style
import HandS.ExcField
import HandS.Defaults
import KE.KExcInit
import HandS.TryMany
import KE.SortData
import HandS.Conv
import KE.KDictSum
import HandS.DictTup
import HandS.TupLen
import HandS.WordsDict
import PySem.Challenge.RW_gaprules_k08_limits_of_machines
set_option Elab.async false
set_option linter.all false
set_option maxRecDepth 100000
set_option maxHeartbeats 4000000
/-! G1: a def's promise where no repr is under way (guards), positional calls; everything may let exceptions out. -/
namespace GL
open PySem PySem.Spec L2
open PyProof.Rows hiding St

/-- no container is being shown around here -/
abbrev NoG (A : Around) : Prop := A.guards = some []

/-- the def at f keeps sp at level k, called with positional values -/
structure Gn (P : Program) (w : World) (K : PySem.W.Frag) (mg : Str → Option Value) (base : Heap) (k : Nat) (f : Addr) (n : Nat) (sp : Sp) : Prop where
  len : ∀ vs H Q E, sp vs H Q E → vs.length = n
  run : ∀ (A : Around) (outer : List Env) (s : Shared) (H : Hp) (us : List Value) (vs : List V) (Q : VK) (E : XK), NoG A → Room k A →
    Env0 P w K mg base A outer s H → Vals vs us → sp vs H Q E → codeAny (model P w) A (.call (.ref f) ⟨us, []⟩) (CR (L2.CX P w) outer P w H s Q E) s

section
variable {P : Program} {w : World} {K : PySem.W.Frag} {mg : Str → Option Value} {base : Heap} {x qual : Str} {params : Arguments} {body : List Stmt} {scope : Scope} {dvs : List V} {kws : List (Str × V)} {f : Addr} {fd : FuncData}
theorem Gn.mono {j k n : Nat} {sp : Sp} (F : Gn P w K mg base j f n sp) (h : j ≤ k) : Gn P w K mg base k f n sp :=
  ⟨F.len, fun A outer s H us vs Q E hg hr => F.run A outer s H us vs Q E hg (hr.mono h)⟩

/-- the rule for a def -/
theorem gn_ok {N ps : List Str} {k : Nat} {sp : Sp} (F : FunD K x qual params body scope [] kws f fd) (S : FnScope N ps scope)
    (hb : ∀ (kV doc pm : Value) (an : Option Addr) (cdv ct : Value) (us : List Value), us.length = ps.length → bindArgs (PySem.W.fnOf x qual params body scope .none kV doc pm an cdv ct) ⟨us, []⟩ = pure (ps.zip us))
    (len : ∀ vs H Q E, sp vs H Q E → vs.length = ps.length)
    (hbody : ∀ (cdv : Value) (A : Around) (outer : List Env) (s : Shared) (H : Hp) (vs : List V) (Q : VK) (E : XK), NoG A → Room k (A.deeper (envOfC qual scope s.heap.objs.size f cdv)) → sp vs H Q E →
      ∃ t, PSs (cxOf (L2.CX P w) P w K mg base N qual scope f cdv A outer s H E) body t ∧ t { nx := fun _ H' => Q .non H', rt := Q } (start N vs) H) :
    Gn P w K mg base (k + 1) f ps.length sp := by
  constructor
  · exact len
  intro A outer s H us vs Q E hg hr e0 r hsp
  have hl := len vs H Q E hsp
  have hul : us.length = ps.length := hl ▸ r.length.symm
  have kIn : K.In s.heap := e0.mod.kin.keeps fun b o q => (e0.bs b o q).1
  have lim : s.heap.NoLimit := e0.mod.nolimit.keeps fun b o q => (e0.bs b o q).1
  have B := FunD.bindsN F hb s us kIn (by simpa using hul)
  rw [List.append_nil] at B
  obtain ⟨oc, od, dV, kV, doc, pm, an, cdv, ct, osl, rfl, lk, hcd, _⟩ := F.ex
  have par : ∀ y ∈ ps.zip us, scope.names.lookup y.1 = some .local ∨
      (scope.names.lookup y.1 = some .cell ∧ ((cellsFrom (s.heap.objs.size + 1) scope.names []).lookup y.1).isSome = true) := by
    rintro ⟨y, v⟩ hy
    have hm := (List.of_mem_zip hy).1
    refine (S.par y hm).imp id fun c => ⟨c, ?_⟩
    exact PySem.W.cellsFrom_some _ _ _ (Or.inl c)
  have rec_ := PySem.W.codeRec_of kIn hcd
  apply codeAny_call_function hr.depth (kIn _ _ lk) rfl S.co S.gen rfl rec_
  apply B
  apply wpAny_newFunctionEnv_cells S.kind par
  intro env he s1 x
  subst he
  refine ⟨lim.keeps x.toInCall.keep, codeAny_func ?_⟩
  obtain ⟨t, ht, hq⟩ := hbody cdv A outer s H vs Q E hg (hr.deeper _) hsp
  have I := inv_start (CX := L2.CX P w) (E := E) S hr.hd e0 hl r x
  have R := ht.run [] s1 (start N vs) H _ I hq
  refine wpAny_mono R ?_ (fun _ _ z => z)
  intro fl s' hs
  cases fl with
  | next => obtain ⟨σ', H', J, q⟩ := hs; exact ⟨V.non, H', J.os, J.bare, J.base, J.hok, rfl, q⟩
  | ret u => obtain ⟨v, σ', H', J, rv, q⟩ := hs; exact ⟨v, H', J.os, J.bare, J.base, J.hok, rv, q⟩
  | brk => obtain ⟨_, _, _, q⟩ := hs; exact q.elim
  | cont => obtain ⟨_, _, _, q⟩ := hs; exact q.elim
end

section
variable {X : Cx} {k n : Nat} {f C : Addr} {sp : Sp} {W : WX} {x m : Str} {p pos apos : Pos} {e o : Expr} {es : List Expr} {ta : TE} {t : TA}
/-- the callee runs, at the slots σ -/
theorem g_run {pins : List (Addr × Obj)} {σ : St} {H : Hp} {s : Shared} {Q : VK} {us : List Value} {vs : List V} (F : Gn X.prog X.w X.K X.mg X.base k f n sp) (hg : NoG X.A) (hr : Room k X.A) (tk : Takes X W)
    (I : Inv X pins σ H s) (r : Vals vs us) (h : sp vs H Q (WE W σ)) : wpAny (model X.prog X.w) X.A (call (.ref f) us) (EP X pins σ Q) X.xe s := by
  apply wpAny_call
  apply codeAny_mono (F.run X.A X.stack s H us vs Q (WE W σ) hg hr I.env0 r h)
  intro r s' hq
  cases r with
  | error e => exact passAt tk σ pins H s e s' I hq
  | ok fl => cases fl with
    | ret u => exact I.after hq
    | next => exact hq.elim
    | brk => exact hq.elim
    | cont => exact hq.elim
/-- f(..) -/
def tG (sp : Sp) (W : WX) (t : TA) : TE := fun σ H Q => t σ H fun vs H1 => sp vs H1 Q (WE W σ)
theorem g_call (F : Gn X.prog X.w X.K X.mg X.base k f n sp) (hg : NoG X.A) (hr : Room k X.A) (tk : Takes X W) (gl : Gl X x) (hm : X.mg x = some (.ref f)) (kp : PySem.W.keepIn X.K (.ref f) = true)
    (ha : PA X (e :: es) t) (hdb : (x == ("__debug__" : Str)) = false := by decide) (he : starEach (e :: es) X.env = (false, eval e X.env) :: starEach es X.env := by rfl) (hpl : (backTo pos (starEach es X.env)).any (·.1) = false := by rfl) :
    PE X (.Call (.Name x p) (e :: es) [] pos) (tG sp W t) := by
  constructor
  intro pins s σ H Q I h
  apply wpAny_Call_Name_kw
  apply ld_glob I gl hm _ hdb
  apply PySem.W.callWith_K (h₀ := X.base) I.ok.mod.kin kp _ he hpl
  apply thn (ha.run pos pins s σ H _ I h)
  rintro us s1 ⟨vs, H1, I1, r, q⟩
  exact ⟨I1.kIn, g_run F hg hr tk I1 r q⟩
/-- f() -/
theorem g_call0 (F : Gn X.prog X.w X.K X.mg X.base k f n sp) (hg : NoG X.A) (hr : Room k X.A) (tk : Takes X W) (gl : Gl X x) (hm : X.mg x = some (.ref f)) (kp : PySem.W.keepIn X.K (.ref f) = true)
    (hdb : (x == ("__debug__" : Str)) = false := by decide) : PE X (.Call (.Name x p) [] [] pos) (tG sp W tNil) := by
  constructor
  intro pins s σ H Q I h
  apply wpAny_Call_Name_kw
  apply ld_glob I gl hm _ hdb
  exact PySem.W.callWith_K0 I.kIn kp (g_run (us := []) F hg hr tk I .nil h)
/-- o.m(..), o an instance of the class at C -/
def tGM (C : Addr) (m : Str) (sp : Sp) (W : WX) (ta : TE) (t : TA) : TE := fun σ H Q => ta σ H fun x H1 => ∃ a dx fs, x = .ref a ∧ H1 a = some (.ins C dx fs) ∧ fs.lookup m = none ∧
  t σ H1 fun vs H2 => sp (x :: vs) H2 Q (WE W σ)
theorem g_meth {pl : Sem Bool} (he : PE X o ta) (c : Cls X.K C) (hm : Meth X.K C m f) (F : Gn X.prog X.w X.K X.mg X.base k f n sp) (hg : NoG X.A) (hr : Room k X.A) (tk : Takes X W) (ha : PA X (e :: es) t)
    (hst : starEach (e :: es) X.env = (false, eval e X.env) :: starEach es X.env := by rfl) (hpl : (backTo pos (starEach es X.env)).any (·.1) = false := by rfl)
    (ht : eval (.Call (.Attribute o m apos) (e :: es) [] pos) X.env = (do
      let u ← eval o X.env; standAt apos.atName
      let (g, first) ← holding [u] (getMethod u m pl)
      callWith pos g first (backTo pos (starEach (e :: es) X.env)) (backToKw pos (keywordEach [] X.env))) := by rfl) :
    PE X (.Call (.Attribute o m apos) (e :: es) [] pos) (tGM C m sp W ta t) := by
  constructor
  intro pins s σ H Q I h
  refine PySem.W.methodCall_KW (pl := pl) (thn (he.run pins s σ H _ I h) ?_) ht
  rintro u s1 ⟨x, H1, I1, rx, a, dx, fs, rfl, ea, l, q⟩
  cases rx
  apply getmeth_ok I1 ea c hm l
  apply PySem.W.callWith_K (first := [.ref a]) (h₀ := X.base) I.ok.mod.kin hm.kp _ hst hpl
  apply thn (ha.run pos pins s1 σ H1 _ I1 q)
  rintro us s2 ⟨vs, H2, I2, r, q2⟩
  exact ⟨I2.kIn, g_run (us := .ref a :: us) (vs := .ref a :: vs) F hg hr tk I2 (.cons rfl r) q2⟩
/-- o.m() -/
theorem g_meth0 {pl : Sem Bool} (he : PE X o ta) (c : Cls X.K C) (hm : Meth X.K C m f) (F : Gn X.prog X.w X.K X.mg X.base k f n sp) (hg : NoG X.A) (hr : Room k X.A) (tk : Takes X W)
    (ht : eval (.Call (.Attribute o m apos) [] [] pos) X.env = (do
      let u ← eval o X.env; standAt apos.atName
      let (g, first) ← holding [u] (getMethod u m pl)
      callWith pos g first (backTo pos (starEach [] X.env)) (backToKw pos (keywordEach [] X.env))) := by rfl) :
    PE X (.Call (.Attribute o m apos) [] [] pos) (tGM C m sp W ta tNil) := by
  constructor
  intro pins s σ H Q I h
  refine PySem.W.methodCall_KW (pl := pl) (thn (he.run pins s σ H _ I h) ?_) ht
  rintro u s1 ⟨x, H1, I1, rx, a, dx, fs, rfl, ea, l, q⟩
  cases rx
  apply getmeth_ok I1 ea c hm l
  exact PySem.W.callWith_K0 (first := [.ref a]) I1.kIn hm.kp (g_run (us := [.ref a]) (vs := [.ref a]) F hg hr tk I1 (.cons rfl .nil) q)
theorem NoG.make {A : Around} (h : NoG A) (C : Addr) (us : List Value) : NoG (A.under (.builtin "type.__call__" ⟨.ref C :: us, []⟩)) := by
  show pushGuards (Code.guards (.builtin "type.__call__" ⟨.ref C :: us, []⟩)) A.guards = some []
  rw [h]
  have e : Code.guards (.builtin "type.__call__" ⟨.ref C :: us, []⟩) = [] := by
    unfold Code.guards
    rw [if_neg]
    have z : guardIds.contains "type.__call__" = false := by decide +kernel
    intro q
    have q' : guardIds.contains "type.__call__" = true := q
    rw [z] at q'
    cases q'
  rw [e]
  rfl
/-- C(..): a new instance, then __init__ -/
def tGN (C : Addr) (sp : Sp) (W : WX) (t : TA) : TE := fun σ H Q => t σ H fun vs H1 => ∀ x dx, H1 x = none → H1 dx = none → dx ≠ x →
  sp (.ref x :: vs) (upd (upd H1 dx (.own x)) x (.ins C dx [])) (fun v H2 => v = .non ∧ Q (.ref x) H2) (WE W σ)
theorem g_runMake {pins : List (Addr × Obj)} {σ : St} {H : Hp} {s : Shared} {Q : VK} {us : List Value} {vs : List V} (M : Mk X.K C f) (F : Gn X.prog X.w X.K X.mg X.base k f n sp) (hg : NoG X.A) (hr : Room (k + 1) X.A) (tk : Takes X W)
    (I : Inv X pins σ H s) (r : Vals vs us)
    (h : ∀ x dx, H x = none → H dx = none → dx ≠ x → sp (.ref x :: vs) (upd (upd H dx (.own x)) x (.ins C dx [])) (fun v H2 => v = .non ∧ Q (.ref x) H2) (WE W σ)) :
    wpAny (model X.prog X.w) X.A (call (.ref C) us) (EP X pins σ Q) X.xe s := by
  have hq := h (s.heap.objs.size + 1) s.heap.objs.size (I.hok.fresh (Nat.le_succ _)) (I.hok.fresh (Nat.le_refl _)) (Nat.ne_of_lt (Nat.lt_succ_self _))
  have I2 := Inv.made (C := C) I
  have R := F.run (X.A.under (.builtin "type.__call__" ⟨.ref C :: us, []⟩)) X.stack _ _ (.ref (s.heap.objs.size + 1) :: us) (.ref (s.heap.objs.size + 1) :: vs) _ _ (hg.make C us) (hr.make C us []) (I2.env0.make C us []) (.cons rfl r) hq
  apply wpAny_call
  apply make_map (f := f) I.kIn M.makes M.init (beq_iff_eq.mp M.fn)
  apply codeAny_mono R
  intro r s' hq'
  cases r with
  | error e => exact passAt tk σ pins _ _ e s' I2 hq'
  | ok fl => cases fl with
    | ret u =>
      obtain ⟨v, H', I3, rv, ev, q3⟩ := I2.after hq'
      subst ev
      exact ⟨rv, V.ref (s.heap.objs.size + 1), H', I3, rfl, q3⟩
    | next => exact hq'.elim
    | brk => exact hq'.elim
    | cont => exact hq'.elim
theorem g_make (M : Mk X.K C f) (F : Gn X.prog X.w X.K X.mg X.base k f n sp) (hg : NoG X.A) (hr : Room (k + 1) X.A) (tk : Takes X W) (gl : Gl X x) (hm : X.mg x = some (.ref C))
    (ha : PA X (e :: es) t) (hdb : (x == ("__debug__" : Str)) = false := by decide) (he : starEach (e :: es) X.env = (false, eval e X.env) :: starEach es X.env := by rfl) (hpl : (backTo pos (starEach es X.env)).any (·.1) = false := by rfl) :
    PE X (.Call (.Name x p) (e :: es) [] pos) (tGN C sp W t) := by
  constructor
  intro pins s σ H Q I h
  apply wpAny_Call_Name_kw
  apply ld_glob I gl hm _ hdb
  apply PySem.W.callWith_K (h₀ := X.base) I.ok.mod.kin M.kp _ he hpl
  apply thn (ha.run pos pins s σ H _ I h)
  rintro us s1 ⟨vs, H1, I1, r, q⟩
  exact ⟨I1.kIn, g_runMake M F hg hr tk I1 r q⟩
theorem PE.or {t1 t2 : TE} (h1 : PE X e t1) (h2 : PE X e t2) : PE X e (fun σ H Q => t1 σ H Q ∨ t2 σ H Q) :=
  ⟨fun pins s σ H Q I h => h.elim (h1.run pins s σ H Q I) (h2.run pins s σ H Q I)⟩
end

section
variable {X : Cx}
/-- repr of data -/
def rRepr (K : PySem.W.Frag) : List V → Hp → VK → Prop := fun vs H Q => ∃ v d, vs = [v] ∧ Dp K H v d ∧ d.showable = true ∧ d.hasDict = false ∧ d.depth ≤ 60 ∧ d.shown.length ≤ sizeLine ∧ Q (.str d.shown) H
theorem call_repr (hg : NoG X.A) (hu : X.A.units + 64 < cLine) : CallR X (.builtin "repr") (rRepr X.K) := by
  intro pins s σ H xs us Q I r h
  obtain ⟨v, d, rfl, hd, sh, nd, dp, sz, q⟩ := h
  obtain ⟨u, rfl, ru⟩ := vals1 r
  obtain ⟨as, rd⟩ := Dp.reads I d v u hd ru
  have fin : ∀ (h' : Heap) (t : Tok) (tk : Nat), (∀ b o, s.heap.get? b = some o → h'.get? b = some o) → EP X pins σ Q (.str d.shown t) { s with heap := h', toks := tk } :=
    fun h' t tk k => ⟨.str d.shown, H, I.kept (t' := tk) k, ⟨t, rfl⟩, q⟩
  cases hd with
  | non => cases ru; exact P.repr_of_none (fin _ _ _ fun _ _ z => z)
  | bl b => cases ru; exact P.repr_of_bool (by have z := fin s.heap s.toks (s.toks + 1) (fun _ _ z => z); cases b <;> exact z)
  | int i => obtain ⟨t, rfl⟩ := ru; exact P.repr_of_int (of_decide_eq_true sh) (fin _ _ _ fun _ _ z => z)
  | str x => obtain ⟨t, rfl⟩ := ru; exact P.repr_of_str (fin _ _ _ fun _ _ z => z) sz
  | lst h1 h2 => cases ru; exact repr_of_reads' rd sh (PyData.noDict_hsm nd) hg (by omega) (fun _ _ z => z) (fun h' u tk k => fin h' u tk k) sz
  | tup h1 h2 => cases ru; exact repr_of_reads' rd sh (PyData.noDict_hsm nd) hg (by omega) (fun _ _ z => z) (fun h' u tk k => fin h' u tk k) sz
end

/-! ### the law's own call -/
theorem g_law {P : Program} {w : World} {K : PySem.W.Frag} {mg mb : Str → Option Value} {k : Nat} {fa a : Addr} {sp : Sp} {s₁ : Shared} {vs : List Value} {ns : List Int}
    (KX : K.In s₁.heap) (hns : s₁.heap.Ns mainGlobals mg) (hb : s₁.heap.Ns builtinsNs mb) (hbb : ∀ x : Str, x ≠ "__name__" → mb x = bootBuiltins x) (hlim : s₁.heap.NoLimit) (hg : s₁.gens = #[])
    (ha : s₁.heap.get? a = some { cls := .type "list", data := .seq vs.toArray }) (hi : IntsAre vs ns) (hl : ns.length ≤ sizeLine) (hr : Room k callerA)
    (F : ∀ base : Heap, K.In base → base.Ns mainGlobals mg → Gn P w K mg base k fa 1 sp)
    (hsp : ∀ H : Hp, Only H → SqL K H a (ns.map V.int) → sp [.ref a] H (fun v _ => v = .bl true) fun _ _ _ => False) :
    codeAny (model P w) callerA (.call (.ref fa) ⟨[.ref a], []⟩) (fun r s' => r = .ok (.ret (.bool true)) ∧ OldK s₁.heap s'.heap ∧ s'.os = s₁.os ∧ AllBare s'.gens) s₁ := by
  have rv := vals_ints hi
  have lenV := hi.length
  suffices core : ∀ H : Hp, Only H → SqL K H a (ns.map V.int) → HOk P w H s₁.heap → (∀ b, H b ≠ none → b = a ∧ K.lookup b = none) →
      codeAny (model P w) callerA (.call (.ref fa) ⟨[.ref a], []⟩) (fun r s' => r = .ok (.ret (.bool true)) ∧ OldK s₁.heap s'.heap ∧ s'.os = s₁.os ∧ AllBare s'.gens) s₁ by
    cases hk : K.lookup a with
    | some o =>
      have e := KX a o hk
      rw [ha] at e
      cases e
      have sq : SqL K (fun _ => none) a (ns.map V.int) := by
        right
        refine ⟨_, vs.toArray, _, hk, rfl, rfl, rfl, ?_, ?_⟩
        · rw [List.size_toArray, lenV]; exact hl
        · simpa using rv
      refine core (fun _ => none) (fun _ => .inl rfl) sq ?_ ?_
      · intro b u z
        simp at z
      · intro b z
        exact absurd rfl z
    | none =>
      let o0 : Obj := { cls := .type "list", data := .seq vs.toArray }
      let H0 : Hp := fun b => if b = a then some (.frz o0 (.lst (ns.map V.int))) else none
      have at_a : H0 a = some (.frz o0 (.lst (ns.map V.int))) := if_pos rfl
      have off_a : ∀ b, b ≠ a → H0 b = none := fun b n => if_neg n
      refine core H0 (fun b => ?_) (.inl (.inr ⟨o0, at_a⟩)) (fun b u z => ?_) (fun b z => ?_)
      · by_cases n : b = a
        · subst n; exact .inr ⟨_, _, at_a⟩
        · exact .inl (off_a b n)
      · by_cases n : b = a
        · subst n
          rw [at_a] at z
          cases z
          refine ⟨ha, ?_, vs, _, rv, ha⟩
          rw [List.length_map]; exact hl
        · rw [off_a b n] at z; cases z
      · by_cases n : b = a
        · subst n; exact ⟨rfl, hk⟩
        · exact absurd (off_a b n) z
  intro H hO hS hok hA
  -- all that stood, but the script, is the ground
  have keepB : ∀ {b : Addr} {o : Obj}, s₁.heap.get? b = some o → H b = none → (hidT s₁.heap H).get? b = some o := fun e n => hidT_get e n
  have notA : ∀ {b : Addr} {o : Obj} {es : Array DictEntry} {ep : Nat}, s₁.heap.get? b = some o → o.data = .dict es ep → H b = none := by
    intro b o es ep e d
    cases q : H b with
    | none => rfl
    | some u =>
      obtain ⟨rfl, _⟩ := hA b (by rw [q]; simp)
      rw [ha] at e
      cases e
      cases d
  have nsB : ∀ {b : Addr} {m : Str → Option Value}, s₁.heap.Ns b m → (hidT s₁.heap H).Ns b m := by
    rintro b m ⟨o, es, ep, e, d, r⟩
    exact ⟨o, es, ep, keepB e (notA e d), d, r⟩
  have KB : K.In (hidT s₁.heap H) := by
    intro b o e
    refine keepB (KX b o e) ?_
    cases q : H b with
    | none => rfl
    | some u =>
      have z := (hA b (by rw [q]; simp)).2
      rw [e] at z; cases z
  obtain ⟨mc, lim1, lim2⟩ := hlim
  have M : Mod K mg (hidT s₁.heap H) := ⟨KB, nsB hns, ⟨mb, nsB hb, hbb⟩, mc, nsB lim1, lim2⟩
  have e0 : Env0 P w K mg (hidT s₁.heap H) callerA [] s₁ H :=
    ⟨rfl, M, fun b o e => of_hidT e, Nat.le_of_eq (hidT_size _ _), trivial, (fun b hb => absurd hb (by simp [frs])), hok, .of_eq hg⟩
  have R := (F _ KB (nsB hns)).run callerA [] s₁ H [.ref a] [.ref a] _ _ rfl hr e0 (.cons rfl .nil) (hsp H hO hS)
  apply codeAny_mono R
  intro r s' h
  cases r with
  | error e =>
    obtain ⟨_, _, _, _, _, _, _, _, _, _, _, _, z⟩ := h
    exact z.elim
  | ok fl => cases fl with
    | next => exact h.elim
    | brk => exact h.elim
    | cont => exact h.elim
    | ret u =>
      obtain ⟨v, H', os, bare, un, hok', r', rfl⟩ := h
      cases r'
      refine ⟨rfl, OldK.of_keep fun b o e => ?_, os, bare⟩
      cases q : H b with
      | none => exact un.keep b o e q (by simp [frs]) (by simp)
      | some u =>
        rcases hO b with z | ⟨ob, xs, z⟩
        · rw [q] at z; cases z
        · obtain ⟨e1, _⟩ := hok b _ z
          obtain ⟨e2, _⟩ := hok' b _ (un.frzs b ob _ z)
          rw [e] at e1
          cases e1
          exact e2
theorem g_walk {l : PySem.W.OpenLaw} {n k : Nat} {q : Program} {loose : List Str} {XP : (Str → Option Value) → Heap → Prop} {YP : World → Heap → Prop} {d : DefRec}
    (hn : l.most = some n) (hn2 : n ≤ sizeLine) (hdf : d.params.defaults = []) (hr : Room k callerA)
    (F : ∀ (w : World) (mg : Str → Option Value) (fa : Addr) (h : Heap), YP w h → h.Ns mainGlobals mg → mg d.name = some (.ref fa) →
      ∃ (K : PySem.W.Frag) (sp : Sp), K.In h ∧
        (∀ (H : Hp) (a : Addr) (ns : List Int), ns.length ≤ n → Only H → SqL K H a (ns.map V.int) → sp [.ref a] H (fun v _ => v = .bl true) fun _ _ _ => False) ∧
        ∀ base : Heap, K.In base → base.Ns mainGlobals mg → Gn l.prog w K mg base k fa 1 sp) :
    PySem.W.WalkO q loose XP YP l.row.toRowW d [] (fun f vs => PySem.call f vs) := by
  apply Att.attach_call hn hdf
  intro w s₀ s₁ mg mb fa o pm cd doc a vs ns G Y ho hd hcd hmg hobj hints hlen hg
  obtain ⟨K, sp, KX, hsp, hF⟩ := F w mg fa _ Y G.T.g hmg
  apply g_law KX G.T.g G.T.b G.T.builtins G.T.nolimit hg hobj hints (Nat.le_trans hlen hn2) hr hF
  intro H hO hS
  exact hsp H a ns hlen hO hS
end GL

/-! G2: data at values, resources, and the judgement RD: a reading holds of every heap with these data and resources. -/
namespace GL
open PySem PySem.Spec L2

mutual
/-- the value stands for this data -/
inductive Dt (K : PySem.W.Frag) (H : Hp) : V → PyData → Prop
  | non : Dt K H .non .none
  | bl (b : Bool) : Dt K H (.bl b) (.bool b)
  | int (i : Int) : Dt K H (.int i) (.int i)
  | str (x : Str) : Dt K H (.str x) (.str x)
  | lst {a : Addr} {xs : List V} {ds : List PyData} : H a = some (.lst xs) → DtAll K H xs ds → Dt K H (.ref a) (.list ds)
  | tup {a : Addr} {xs : List V} {ds : List PyData} : SqT K H a xs → DtAll K H xs ds → Dt K H (.ref a) (.tuple ds)
inductive DtAll (K : PySem.W.Frag) (H : Hp) : List V → List PyData → Prop
  | nil : DtAll K H [] []
  | cons {v : V} {d : PyData} {vs : List V} {ds : List PyData} : Dt K H v d → DtAll K H vs ds → DtAll K H (v :: vs) (d :: ds)
end
section
variable {K : PySem.W.Frag} {H H' : Hp}
theorem same_sqT {a : Addr} {xs : List V} (e : Same H H') (h : SqT K H a xs) : SqT K H' a xs := by
  rcases h with (h | ⟨o, h⟩) | h
  · left; left; exact e _ _ h
  · left; right; exact ⟨o, e _ _ h⟩
  · right; exact h
mutual
theorem Dt.mono (e : Same H H') {v : V} {d : PyData} : Dt K H v d → Dt K H' v d
  | .non => .non
  | .bl b => .bl b
  | .int i => .int i
  | .str x => .str x
  | .lst h r => .lst (e _ _ h) (DtAll.mono e r)
  | .tup h r => .tup (same_sqT e h) (DtAll.mono e r)
theorem DtAll.mono (e : Same H H') {vs : List V} {ds : List PyData} : DtAll K H vs ds → DtAll K H' vs ds
  | .nil => .nil
  | .cons a b => .cons (Dt.mono e a) (DtAll.mono e b)
end
mutual
theorem Dt.dp {v : V} {d : PyData} : Dt K H v d → Dp K H v d
  | .non => .non
  | .bl b => .bl b
  | .int i => .int i
  | .str x => .str x
  | .lst h r => .lst (.inl (.inl h)) (DtAll.dp r)
  | .tup h r => .tup h (DtAll.dp r)
theorem DtAll.dp {vs : List V} {ds : List PyData} : DtAll K H vs ds → DpAll K H vs ds
  | .nil => .nil
  | .cons a b => .cons (Dt.dp a) (DtAll.dp b)
end
theorem DtAll.len : ∀ {vs : List V} {ds : List PyData}, DtAll K H vs ds → vs.length = ds.length
  | _, _, .nil => rfl
  | _, _, .cons _ b => congrArg Nat.succ (DtAll.len b)
theorem DtAll.get : ∀ {vs : List V} {ds : List PyData}, DtAll K H vs ds → ∀ {i : Nat} {v : V}, vs[i]? = some v → ∃ d, ds[i]? = some d ∧ Dt K H v d
  | _, _, .nil, i, v, h => by simp at h
  | _, _, .cons a b, 0, v, h => by simp at h; subst h; exact ⟨_, rfl, a⟩
  | _, _, .cons a b, i + 1, v, h => by
    obtain ⟨d, e, x⟩ := DtAll.get b (i := i) (v := v) (by simpa using h)
    exact ⟨d, by simpa using e, x⟩
theorem DtAll.at : ∀ {vs : List V} {ds : List PyData}, DtAll K H vs ds → ∀ {i : Nat} {d : PyData}, ds[i]? = some d → ∃ v, vs[i]? = some v ∧ Dt K H v d
  | _, _, .nil, i, v, h => by simp at h
  | _, _, .cons a b, 0, v, h => by simp at h; subst h; exact ⟨_, rfl, a⟩
  | _, _, .cons a b, i + 1, v, h => by
    obtain ⟨d, e, x⟩ := DtAll.at b (i := i) (d := v) (by simpa using h)
    exact ⟨d, by simpa using e, x⟩
theorem DtAll.append : ∀ {vs ws : List V} {ds es : List PyData}, DtAll K H vs ds → DtAll K H ws es → DtAll K H (vs ++ ws) (ds ++ es)
  | _, _, _, _, .nil, h => h
  | _, _, _, _, .cons a b, h => .cons a (DtAll.append b h)
theorem DtAll.drop : ∀ {vs : List V} {ds : List PyData} (n : Nat), DtAll K H vs ds → DtAll K H (vs.drop n) (ds.drop n)
  | _, _, 0, h => h
  | _, _, n + 1, .nil => .nil
  | _, _, n + 1, .cons a b => DtAll.drop n b
theorem DtAll.take : ∀ {vs : List V} {ds : List PyData} (n : Nat), DtAll K H vs ds → DtAll K H (vs.take n) (ds.take n)
  | _, _, 0, h => .nil
  | _, _, n + 1, .nil => .nil
  | _, _, n + 1, .cons a b => .cons a (DtAll.take n b)
theorem DtAll.set : ∀ {vs : List V} {ds : List PyData} {v : V} {d : PyData} (n : Nat), DtAll K H vs ds → Dt K H v d → DtAll K H (vs.set n v) (ds.set n d)
  | _, _, _, _, _, .nil, h => .nil
  | _, _, _, _, 0, .cons a b, h => .cons h b
  | _, _, _, _, n + 1, .cons a b, h => .cons a (DtAll.set n b h)
theorem DtAll.erase : ∀ {vs : List V} {ds : List PyData} (n : Nat), DtAll K H vs ds → DtAll K H (vs.eraseIdx n) (ds.eraseIdx n)
  | _, _, _, .nil => .nil
  | _, _, 0, .cons a b => b
  | _, _, n + 1, .cons a b => .cons a (DtAll.erase n b)
theorem DtAll.ints {ns : List Int} {xs : List V} (h : DtAll K H xs (ns.map .int)) : xs = ns.map V.int := by
  induction ns generalizing xs with
  | nil => cases h; rfl
  | cons n ns ih =>
    cases h with
    | cons a b => cases a; rw [ih b]; rfl
theorem DtAll.ofInts (ns : List Int) : DtAll K H (ns.map V.int) (ns.map .int) := by
  induction ns with
  | nil => exact .nil
  | cons n ns ih => exact .cons (.int n) ih
theorem DtAll.strs {ns : List Str} {xs : List V} (h : DtAll K H xs (ns.map .str)) : xs = ns.map V.str := by
  induction ns generalizing xs with
  | nil => cases h; rfl
  | cons n ns ih =>
    cases h with
    | cons a b => cases a; rw [ih b]; rfl
theorem DtAll.ofStrs (ns : List Str) : DtAll K H (ns.map V.str) (ns.map .str) := by
  induction ns with
  | nil => exact .nil
  | cons n ns ih => exact .cons (.str n) ih
theorem DtAll.bls {ns : List Bool} {xs : List V} (h : DtAll K H xs (ns.map .bool)) : xs = ns.map V.bl := by
  induction ns generalizing xs with
  | nil => cases h; rfl
  | cons n ns ih =>
    cases h with
    | cons a b => cases a; rw [ih b]; rfl
end

/-! ### resources -/
/-- the heap without the addresses that may change -/
noncomputable def off (H : Hp) (N : Addr → Prop) : Hp := fun b => open Classical in if N b then none else H b
theorem off_same {H : Hp} {N : Addr → Prop} : Same (off H N) H := fun b o h => by
  unfold off at h
  split at h
  · cases h
  · exact h
theorem off_ne {H : Hp} {N : Addr → Prop} {b : Addr} (h : ¬ N b) : off H N b = H b := if_neg h
/-- what owns the addresses N: D what stands still, H all -/
structure Res where
  h : (Addr → Prop) → Hp → Hp → Prop
  st : ∀ {N : Addr → Prop} {D D' H H' : Hp}, h N D H → Same D D' → (∀ b, N b → H' b = H b) → h N D' H'
def emp : Res := ⟨fun N _ _ => ∀ b, ¬ N b, fun h _ _ => h⟩
def star (R S : Res) : Res where
  h := fun N D H => ∃ N1 N2, (∀ b, N b ↔ N1 b ∨ N2 b) ∧ (∀ b, N1 b → N2 b → False) ∧ R.h N1 D H ∧ S.h N2 D H
  st := by
    rintro N D D' H H' ⟨N1, N2, e, dj, h1, h2⟩ d k
    exact ⟨N1, N2, e, dj, R.st h1 d fun b hb => k b ((e b).2 (.inl hb)), S.st h2 d fun b hb => k b ((e b).2 (.inr hb))⟩
theorem star_comm {R S : Res} {N : Addr → Prop} {D H : Hp} (h : (star R S).h N D H) : (star S R).h N D H := by
  obtain ⟨N1, N2, e, dj, h1, h2⟩ := h
  exact ⟨N2, N1, fun b => (e b).trans or_comm, fun b x y => dj b y x, h2, h1⟩
theorem star_assoc {R S T : Res} {N : Addr → Prop} {D H : Hp} (h : (star (star R S) T).h N D H) : (star R (star S T)).h N D H := by
  obtain ⟨N1, N2, e, dj, ⟨M1, M2, e', dj', h1, h2⟩, h3⟩ := h
  refine ⟨M1, fun b => M2 b ∨ N2 b, fun b => ?_, fun b x y => ?_, h1, M2, N2, fun b => Iff.rfl, fun b x y => ?_, h2, h3⟩
  · rw [e b, e' b, or_assoc]
  · rcases y with y | y
    · exact dj' b x y
    · exact dj b ((e' b).2 (.inl x)) y
  · exact dj b ((e' b).2 (.inr x)) y
theorem star_mono {R R' S : Res} {N : Addr → Prop} {D H : Hp} (k : ∀ {N}, R.h N D H → R'.h N D H) (h : (star R S).h N D H) : (star R' S).h N D H := by
  obtain ⟨N1, N2, e, dj, h1, h2⟩ := h
  exact ⟨N1, N2, e, dj, k h1, h2⟩
theorem star_swap {R S T : Res} {N : Addr → Prop} {D H : Hp} (h : (star R (star S T)).h N D H) : (star S (star R T)).h N D H := by
  have h1 := star_comm h
  have h2 := star_assoc h1
  exact star_mono (R := S) (fun z => z) (by
    obtain ⟨N1, N2, e, dj, a, b⟩ := h2
    exact ⟨N1, N2, e, dj, a, star_comm b⟩)
/-- a list that may change -/
def own (K : PySem.W.Frag) (a : Addr) (ds : List PyData) : Res where
  h := fun N D H => (∀ b, N b ↔ b = a) ∧ ∃ xs, H a = some (.lst xs) ∧ DtAll K D xs ds
  st := fun ⟨e, xs, h, r⟩ d k => ⟨e, xs, (k a ((e a).2 rfl)).trans h, r.mono d⟩

/-- what may be owned: no tuple (tuples stand) -/
def NotTup (o : HO) : Prop := ∀ xs, o ≠ .tup xs
structure At (K : PySem.W.Frag) (D0 : Hp) (R : Res) (l : List (V × PyData)) (N : Addr → Prop) (H : Hp) : Prop where
  nt : ∀ b, N b → ∃ o, H b = some o ∧ NotTup o
  r : R.h N (off H N) H
  d0 : Same D0 (off H N)
  f : ∀ p ∈ l, Dt K (off H N) p.1 p.2
theorem At.nn {K : PySem.W.Frag} {D0 : Hp} {R : Res} {l : List (V × PyData)} {N : Addr → Prop} {H : Hp} (A : At K D0 R l N H) (b : Addr) (h : N b) : H b ≠ none := by
  obtain ⟨o, e, _⟩ := A.nt b h
  rw [e]
  exact fun z => by cases z
/-- T holds of every such heap -/
def RD (K : PySem.W.Frag) (D0 : Hp) (R : Res) (l : List (V × PyData)) (T : Hp → Prop) : Prop := ∀ N H, At K D0 R l N H → T H

/-- the value has this data among these facts -/
inductive InL (l : List (V × PyData)) : V → PyData → Prop
  | non : InL l .non .none
  | bl (b : Bool) : InL l (.bl b) (.bool b)
  | int (i : Int) : InL l (.int i) (.int i)
  | str (x : Str) : InL l (.str x) (.str x)
  | mem {v : V} {d : PyData} (h : (v, d) ∈ l) : InL l v d
inductive InLs (l : List (V × PyData)) : List V → List PyData → Prop
  | nil : InLs l [] []
  | cons {v : V} {d : PyData} {vs : List V} {ds : List PyData} (h : InL l v d) (t : InLs l vs ds) : InLs l (v :: vs) (d :: ds)
section
variable {K : PySem.W.Frag} {D0 H : Hp} {R S : Res} {l l' : List (V × PyData)} {N : Addr → Prop} {T T' : Hp → Prop}
theorem At.dt (A : At K D0 R l N H) {v : V} {d : PyData} (h : InL l v d) : Dt K (off H N) v d := by
  cases h with
  | non => exact .non
  | bl b => exact .bl b
  | int i => exact .int i
  | str x => exact .str x
  | mem h => exact A.f _ h
theorem At.dts (A : At K D0 R l N H) {vs : List V} {ds : List PyData} (h : InLs l vs ds) : DtAll K (off H N) vs ds := by
  induction h with
  | nil => exact .nil
  | cons h _ ih => exact .cons (A.dt h) ih
theorem At.dH (A : At K D0 R l N H) {v : V} {d : PyData} (h : InL l v d) : Dt K H v d := (A.dt h).mono off_same
theorem At.weak (A : At K D0 R l N H) (h : ∀ p ∈ l', InL l p.1 p.2) : At K D0 R l' N H := ⟨A.nt, A.r, A.d0, fun p hp => A.dt (h p hp)⟩
theorem RD.weak (h : ∀ p ∈ l', InL l p.1 p.2) (k : RD K D0 R l' T) : RD K D0 R l T := fun N H A => k N H (A.weak h)
theorem RD.res (h : ∀ {N D H}, R.h N D H → S.h N D H) (k : RD K D0 S l T) : RD K D0 R l T := fun N H A => k N H ⟨A.nt, h A.r, A.d0, A.f⟩
theorem RD.imp (h : ∀ H, T H → T' H) (k : RD K D0 R l T) : RD K D0 R l T' := fun N H A => h H (k N H A)
theorem At.facts (A : At K D0 R l N H) {v : V} {d : PyData} (h : Dt K (off H N) v d) : At K D0 R ((v, d) :: l) N H :=
  ⟨A.nt, A.r, A.d0, fun p hp => by rcases List.mem_cons.mp hp with rfl | hp; exact h; exact A.f p hp⟩
/-- a new object -/
theorem At.new (A : At K D0 R l N H) {p : Addr} (o : HO) (hp : H p = none) : At K D0 R l N (upd H p o) ∧ off (upd H p o) N p = some o := by
  have np : ¬ N p := fun h => A.nn p h hp
  have ne : ∀ b, N b → b ≠ p := fun b hb z => np (z ▸ hb)
  have sm : Same (off H N) (off (upd H p o) N) := fun b u h => by
    by_cases hb : N b
    · unfold off at h; rw [if_pos hb] at h; cases h
    · rw [off_ne hb] at h ⊢
      rw [upd_ne (ne_of_none h hp)]
      exact h
  refine ⟨⟨fun b hb => ?_, R.st A.r sm fun b hb => upd_ne (ne b hb), A.d0.trans sm, fun q hq => (A.f q hq).mono sm⟩, ?_⟩
  · rw [upd_ne (ne b hb)]; exact A.nt b hb
  · rw [off_ne np, upd_same]
theorem RD.new {o : HO} {d : PyData} {T : V → Hp → Prop} (hd : ∀ (D : Hp) (p : Addr), (∀ q ∈ l, Dt K D q.1 q.2) → D p = some o → Dt K D (.ref p) d) (k : ∀ v, RD K D0 R ((v, d) :: l) (T v)) :
    RD K D0 R l (fun H => ∀ p, H p = none → T (.ref p) (upd H p o)) := fun N H A p hp => by
  obtain ⟨A', e⟩ := A.new o hp
  exact k (.ref p) N _ (A'.facts (hd _ p A'.f e))
/-- a new object that may change -/
theorem At.newOwn (A : At K D0 R l N H) {p : Addr} {xs : List V} {ds : List PyData} (hp : H p = none) (hx : DtAll K (off H N) xs ds) : At K D0 (star (own K p ds) R) l (fun b => b = p ∨ N b) (upd H p (.lst xs)) := by
  have np : ¬ N p := fun h => A.nn p h hp
  have ne : ∀ b, N b → b ≠ p := fun b hb z => np (z ▸ hb)
  have sm : Same (off H N) (off (upd H p (.lst xs)) (fun b => b = p ∨ N b)) := fun b u h => by
    by_cases hb : N b
    · unfold off at h; rw [if_pos hb] at h; cases h
    · rw [off_ne hb] at h
      have nb := ne_of_none h hp
      rw [off_ne (fun z => z.elim nb hb), upd_ne nb]
      exact h
  refine ⟨fun b hb => ?_, ⟨fun b => b = p, N, fun b => Iff.rfl, fun b x y => ne b y x, ⟨fun b => Iff.rfl, xs, upd_same, hx.mono sm⟩, R.st A.r sm fun b hb => upd_ne (ne b hb)⟩, A.d0.trans sm, fun q hq => (A.f q hq).mono sm⟩
  rcases hb with rfl | hb
  · exact ⟨_, upd_same, fun _ z => by cases z⟩
  · rw [upd_ne (ne b hb)]; exact A.nt b hb
theorem RD.newOwn {xs : List V} {ds : List PyData} {T : V → Hp → Prop} (hx : InLs l xs ds) (k : ∀ a, RD K D0 (star (own K a ds) R) l (T (.ref a))) :
    RD K D0 R l (fun H => ∀ p, H p = none → T (.ref p) (upd H p (.lst xs))) := fun N H A p hp => k p _ _ (A.newOwn hp (A.dts hx))
/-- the list at a is written -/
theorem At.setOwn {a : Addr} {ds es : List PyData} {ys : List V} (A : At K D0 (star (own K a ds) R) l N H) (hy : DtAll K (off H N) ys es) : At K D0 (star (own K a es) R) l N (upd H a (.lst ys)) := by
  obtain ⟨N1, N2, e, dj, ⟨e1, xs, hx, dx⟩, h2⟩ := A.r
  have na : N a := (e a).2 (.inl ((e1 a).2 rfl))
  have sm : Same (off H N) (off (upd H a (.lst ys)) N) := fun b u h => by
    by_cases hb : N b
    · unfold off at h; rw [if_pos hb] at h; cases h
    · rw [off_ne hb] at h ⊢
      rw [upd_ne (fun z => hb (by rw [z]; exact na))]
      exact h
  refine ⟨fun b hb => ?_, ⟨N1, N2, e, dj, ⟨e1, ys, upd_same, hy.mono sm⟩, R.st h2 sm fun b hb => upd_ne fun z => dj b ((e1 b).2 z) hb⟩, A.d0.trans sm, fun q hq => (A.f q hq).mono sm⟩
  by_cases z : b = a
  · rw [z]; exact ⟨_, upd_same, fun _ z => by cases z⟩
  · rw [upd_ne z]; exact A.nt b hb
/-- the list is no more changed -/
theorem At.freeze {a : Addr} {ds : List PyData} (A : At K D0 (star (own K a ds) R) l N H) : ∃ N', At K D0 R ((.ref a, .list ds) :: l) N' H := by
  obtain ⟨N1, N2, e, dj, ⟨e1, xs, hx, dx⟩, h2⟩ := A.r
  have na : ¬ N2 a := fun z => dj a ((e1 a).2 rfl) z
  have sm : Same (off H N) (off H N2) := fun b u h => by
    by_cases hb : N b
    · unfold off at h; rw [if_pos hb] at h; cases h
    · rw [off_ne hb] at h
      rw [off_ne (fun z => hb ((e b).2 (.inr z)))]
      exact h
  refine ⟨N2, fun b hb => A.nt b ((e b).2 (.inr hb)), R.st h2 sm fun _ _ => rfl, A.d0.trans sm, fun q hq => ?_⟩
  rcases List.mem_cons.mp hq with rfl | hq
  · exact .lst (by rw [off_ne na]; exact hx) (dx.mono sm)
  · exact (A.f q hq).mono sm
theorem RD.freeze {a : Addr} {ds : List PyData} (k : RD K D0 R ((.ref a, .list ds) :: l) T) : RD K D0 (star (own K a ds) R) l T := fun N H A => by
  obtain ⟨N', A'⟩ := A.freeze
  exact k N' H A'
theorem At.ownAt {a : Addr} {ds : List PyData} (A : At K D0 (star (own K a ds) R) l N H) : ∃ xs, H a = some (.lst xs) ∧ DtAll K (off H N) xs ds := by
  obtain ⟨N1, N2, e, dj, ⟨e1, xs, hx, dx⟩, h2⟩ := A.r
  exact ⟨xs, hx, dx⟩
theorem RD.rot {R1 R2 R3 : Res} (k : RD K D0 (star R2 (star R1 R3)) l T) : RD K D0 (star R1 (star R2 R3)) l T := RD.res star_swap k
end
end GL

/-! G3: readings that serve several kinds of values, and what RD needs for each reading. -/
namespace GL
open PySem PySem.Spec L2
mutual
theorem Dt.plain {K : PySem.W.Frag} {H : Hp} {v : V} {d : PyData} : Dt K H v d → d.plain = true
  | .non => by simp only [PyData.plain]
  | .bl b => by simp only [PyData.plain]
  | .int i => by simp only [PyData.plain]
  | .str x => by simp only [PyData.plain]
  | .lst h r => by simp only [PyData.plain]; exact DtAll.plain r
  | .tup h r => by simp only [PyData.plain]; exact DtAll.plain r
theorem DtAll.plain {K : PySem.W.Frag} {H : Hp} {vs : List V} {ds : List PyData} : DtAll K H vs ds → PyData.plainAll ds = true
  | .nil => by simp only [PyData.plainAll]
  | .cons a b => by simp only [PyData.plainAll, Dt.plain a, DtAll.plain b, Bool.and_self]
end
section
variable {X : Cx}
def gAdd (K : PySem.W.Frag) : R2 := fun x y H Q => rI0 (fun i j => .int (i + j)) x y H Q ∨ (∃ i j, x = .str i ∧ y = .str j ∧ i.length + j.length ≤ sizeLine ∧ Q (.str (i ++ j)) H) ∨ rCat x y H Q ∨ rCatT K x y H Q
theorem op_gadd : OpR X (binaryOp .Add) (gAdd X.K) := op_add.or (op_add_str.or (op_cat.or op_catT))
def gMul : R2 := fun x y H Q => rI CMul (fun i j => .int (i * j)) x y H Q ∨ rRep x y H Q
theorem op_gmul : OpR X (binaryOp .Mult) gMul := op_mul.or op_rep
/-- ==, !=, in, not in over data -/
def gEq (K : PySem.W.Frag) : R2 := fun x y H Q => ∃ d e, Dt K H x d ∧ Dt K H y e ∧ d.depth ≤ 60 ∧ Q (.bl (PyData.eqv d e)) H
def gNe (K : PySem.W.Frag) : R2 := fun x y H Q => ∃ d e, Dt K H x d ∧ Dt K H y e ∧ d.depth ≤ 60 ∧ Q (.bl (!PyData.eqv d e)) H
theorem op_geq (hu : X.A.units + 64 < cLine) : OpR X (compareOp .Eq) (gEq X.K) := by
  intro pins s σ H x y v u Q I rx ry h
  obtain ⟨d, e, hd, he, dp, q⟩ := h
  obtain ⟨as, r1⟩ := Dp.reads I d x v hd.dp rx
  obtain ⟨bs, r2⟩ := Dp.reads I e y u he.dp ry
  exact PySem.SeqAt.eq_plain r1 r2 hd.plain he.plain (by omega) ⟨.bl _, H, I, rfl, q⟩
theorem op_gne (hu : X.A.units + 64 < cLine) : OpR X (compareOp .NotEq) (gNe X.K) := by
  intro pins s σ H x y v u Q I rx ry h
  obtain ⟨d, e, hd, he, dp, q⟩ := h
  obtain ⟨as, r1⟩ := Dp.reads I d x v hd.dp rx
  obtain ⟨bs, r2⟩ := Dp.reads I e y u he.dp ry
  exact PySem.SeqAt.ne_plain r1 r2 hd.plain he.plain (by omega) ⟨.bl _, H, I, rfl, q⟩
def rInP (K : PySem.W.Frag) (neg : Bool) : R2 := fun x y H Q => ∃ d ds, Dt K H x d ∧ (Dt K H y (.list ds) ∨ Dt K H y (.tuple ds)) ∧ d.depth ≤ 60 ∧ Q (.bl (if neg then !ds.any fun e => PyData.eqv e d else ds.any fun e => PyData.eqv e d)) H
def rInSg (neg : Bool) : R2 := fun x y H Q => ∃ (c : Nat) (z : Str), x = .str ⟨#[c]⟩ ∧ y = .str z ∧ Q (.bl (if neg then !decide (c ∈ z.cps.toList) else decide (c ∈ z.cps.toList))) H
def gIn (K : PySem.W.Frag) (neg : Bool) : R2 := fun x y H Q => rInP K neg x y H Q ∨ rInSg neg x y H Q
theorem op_inP (hu : X.A.units + 64 < cLine) : OpR X (compareOp .In) (rInP X.K false) := by
  intro pins s σ H x y v u Q I rx ry h
  obtain ⟨d, ds, hd, he, dp, q⟩ := h
  obtain ⟨as, r1⟩ := Dp.reads I d x v hd.dp rx
  rcases he with he | he
  · obtain ⟨bs, r2⟩ := Dp.reads I _ y u he.dp ry
    exact PySem.SeqAt.in_list_data r2 r1 he.plain hd.plain (by omega) ⟨.bl _, H, I, rfl, q⟩
  · obtain ⟨bs, r2⟩ := Dp.reads I _ y u he.dp ry
    exact PySem.SeqAt.in_tuple_data r2 r1 he.plain hd.plain (by omega) ⟨.bl _, H, I, rfl, q⟩
theorem op_notInP (hu : X.A.units + 64 < cLine) : OpR X (compareOp .NotIn) (rInP X.K true) := by
  intro pins s σ H x y v u Q I rx ry h
  obtain ⟨d, ds, hd, he, dp, q⟩ := h
  obtain ⟨as, r1⟩ := Dp.reads I d x v hd.dp rx
  rcases he with he | he
  · obtain ⟨bs, r2⟩ := Dp.reads I _ y u he.dp ry
    exact PySem.SeqAt.notIn_list_data r2 r1 he.plain hd.plain (by omega) ⟨.bl _, H, I, rfl, q⟩
  · obtain ⟨bs, r2⟩ := Dp.reads I _ y u he.dp ry
    exact PySem.SeqAt.notIn_tuple_data r2 r1 he.plain hd.plain (by omega) ⟨.bl _, H, I, rfl, q⟩
theorem op_gin (hu : X.A.units + 64 < cLine) : OpR X (compareOp .In) (gIn X.K false) := (op_inP hu).or op_in_sign
theorem op_gnotin (hu : X.A.units + 64 < cLine) : OpR X (compareOp .NotIn) (gIn X.K true) := (op_notInP hu).or op_notIn_sign
def gIsN : R2 := fun x y H Q => y = .non ∧ Q (.bl (decide (x = .non))) H
def gNotN : R2 := fun x y H Q => y = .non ∧ Q (.bl (!decide (x = .non))) H
def gLen (K : PySem.W.Frag) : List V → Hp → VK → Prop := fun xs H Q => ∃ x n, xs = [x] ∧ LenV K x H n ∧ Q (.int (n : Nat)) H
def gFind3 : V → List V → Hp → VK → Prop := fun x xs H Q => ∃ (a b : Str) (i : Int), x = .str a ∧ xs = [.str b, .int i] ∧ Q (.int (Txt.find3 a b i)) H
def gJoin (K : PySem.W.Frag) : V → List V → Hp → VK → Prop := fun x xs H Q => ∃ a p, ∃ ys : List Str, x = .str a ∧ xs = [.ref p] ∧ (SqL K H p (ys.map V.str) ∨ SqT K H p (ys.map V.str)) ∧
    (ys.map (·.length)).sum + ys.length * a.length ≤ 16777216 ∧ Q (.str (Txt.join a ys)) H
def gList (K : PySem.W.Frag) : List V → Hp → VK → Prop := fun xs H Q => ∃ p ys, xs = [.ref p] ∧ (SqL K H p ys ∨ SqT K H p ys) ∧ ∀ l, H l = none → Q (.ref l) (upd H l (.lst ys))
def gTuple (K : PySem.W.Frag) : List V → Hp → VK → Prop := fun xs H Q => ∃ p ys, xs = [.ref p] ∧ ((SqL K H p ys ∧ ∀ l, H l = none → Q (.ref l) (upd H l (.tup ys))) ∨ (SqT K H p ys ∧ Q (.ref p) H))
/-- what stands behind a part of a reading -/
def kBl (x : V) (H : Hp) (Qb : Bool → Hp → Prop) : Prop := ∃ b, x = .bl b ∧ Qb b H
def kTup (xs : List V) (H1 : Hp) (Q : VK) : Prop := xs.length ≤ sizeLine ∧ ∀ p, H1 p = none → Q (.ref p) (upd H1 p (.tup xs))
def kLst (xs : List V) (H1 : Hp) (Q : VK) : Prop := xs.length ≤ sizeLine ∧ ∀ p, H1 p = none → Q (.ref p) (upd H1 p (.lst xs))
def kPart (x : V) (H1 : Hp) (Q : Option Int → Hp → Prop) : Prop := ∃ i, x = .int i ∧ Q (some i) H1
end
section
variable {K : PySem.W.Frag} {D0 : Hp} {R : Res} {l : List (V × PyData)} {σ : St} {D : Ends} {Q : VK}

/-! ### statements -/
theorem d_seq {t u : TS} (k : RD K D0 R l (fun H => t { D with nx := u D } σ H)) : RD K D0 R l (fun H => tSeq t u D σ H) := k
theorem d_next (k : RD K D0 R l (fun H => D.nx σ H)) : RD K D0 R l (fun H => tNext D σ H) := k
theorem d_asg {te : TE} {g : TG} (k : RD K D0 R l (fun H => te σ H fun x H1 => g x σ H1 D.nx)) : RD K D0 R l (fun H => tAsg te g D σ H) := k
theorem d_name {i : Nat} {v : V} {σ' : St} {Qn : St → Hp → Prop} (e : σ.set i (some v) = σ') (k : RD K D0 R l (Qn σ')) : RD K D0 R l (fun H => gName i v σ H Qn) := by subst e; exact k
theorem d_ret {te : TE} (k : RD K D0 R l (fun H => te σ H D.rt)) : RD K D0 R l (fun H => tRet te D σ H) := k
theorem d_retN (k : RD K D0 R l (D.rt .non)) : RD K D0 R l (fun H => tRetN D σ H) := k
theorem d_drop {te : TE} (k : RD K D0 R l (fun H => te σ H fun _ H1 => D.nx σ H1)) : RD K D0 R l (fun H => tDrop te D σ H) := k
theorem d_ifS {c : TT} {t u : TS} (k : RD K D0 R l (fun H => c σ H fun b H1 => if b = true then t D σ H1 else u D σ H1)) : RD K D0 R l (fun H => tIfS c t u D σ H) := k
theorem d_break (k : RD K D0 R l (fun H => D.bk σ H)) : RD K D0 R l (fun H => tBreak D σ H) := k
theorem d_cont (k : RD K D0 R l (fun H => D.ct σ H)) : RD K D0 R l (fun H => tCont D σ H) := k

/-! ### tests -/
theorem d_ite {b : Bool} {T1 T2 : Hp → Prop} (h1 : b = true → RD K D0 R l T1) (h2 : b = false → RD K D0 R l T2) : RD K D0 R l (fun H => if b = true then T1 H else T2 H) := by
  intro N H A
  cases b with
  | true => exact iteT (h1 rfl N H A)
  | false => exact iteF (h2 rfl N H A)
theorem d_iteP {p : Prop} [Decidable p] {T1 T2 : Hp → Prop} (h1 : p → RD K D0 R l T1) (h2 : ¬ p → RD K D0 R l T2) : RD K D0 R l (fun H => if decide p = true then T1 H else T2 H) :=
  d_ite (fun e => h1 (of_decide_eq_true e)) (fun e => h2 (of_decide_eq_false e))
theorem d_iteT {T1 T2 : Hp → Prop} (h : RD K D0 R l T1) : RD K D0 R l (fun H => if true = true then T1 H else T2 H) := fun N H A => iteT (h N H A)
theorem d_iteF {T1 T2 : Hp → Prop} (h : RD K D0 R l T2) : RD K D0 R l (fun H => if false = true then T1 H else T2 H) := fun N H A => iteF (h N H A)
theorem d_iteNT {T1 T2 : Hp → Prop} (h : RD K D0 R l T2) : RD K D0 R l (fun H => if (!true) = true then T1 H else T2 H) := fun N H A => iteF (h N H A)
theorem d_iteNF {T1 T2 : Hp → Prop} (h : RD K D0 R l T1) : RD K D0 R l (fun H => if (!false) = true then T1 H else T2 H) := fun N H A => iteT (h N H A)
theorem d_iteY {b : Bool} {T1 T2 : Hp → Prop} (e : b = true) (h : RD K D0 R l T1) : RD K D0 R l (fun H => if b = true then T1 H else T2 H) := by subst e; exact d_iteT h
theorem d_iteN {b : Bool} {T1 T2 : Hp → Prop} (e : b = false) (h : RD K D0 R l T2) : RD K D0 R l (fun H => if b = true then T1 H else T2 H) := by subst e; exact d_iteF h
theorem d_test {t : TE} {Qb : Bool → Hp → Prop} (k : RD K D0 R l (fun H => t σ H fun x H' => kBl x H' Qb)) : RD K D0 R l (fun H => tTest t σ H Qb) := k
theorem d_tB {t : TE} {Qb : Bool → Hp → Prop} (k : RD K D0 R l (fun H => t σ H fun x H' => kBl x H' Qb)) : RD K D0 R l (fun H => tB t σ H Qb) := k
theorem d_bl {b : Bool} {Qb : Bool → Hp → Prop} (k : RD K D0 R l (Qb b)) : RD K D0 R l (fun H => kBl (.bl b) H Qb) := fun N H A => ⟨b, rfl, k N H A⟩

/-! ### names, constants, operators -/
theorem d_var {i : Nat} {v : V} (h : σ[i]? = some (some v)) (k : RD K D0 R l (Q v)) : RD K D0 R l (fun H => tVar i σ H Q) := fun N H A => ⟨v, h, k N H A⟩
theorem d_C {v : V} (k : RD K D0 R l (Q v)) : RD K D0 R l (fun H => tC v σ H Q) := k
theorem d_op {r : R2} {ta tb : TE} (k : RD K D0 R l (fun H => ta σ H fun x H1 => tb σ H1 fun y H2 => r x y H2 Q)) : RD K D0 R l (fun H => tOp r ta tb σ H Q) := k
theorem d_nil {Q : List V → Hp → Prop} (k : RD K D0 R l (Q [])) : RD K D0 R l (fun H => tNil σ H Q) := k
theorem d_cons {ta : TE} {tr : TA} {Q : List V → Hp → Prop} (k : RD K D0 R l (fun H => ta σ H fun x H1 => tr σ H1 fun xs H2 => Q (x :: xs) H2)) : RD K D0 R l (fun H => tCons ta tr σ H Q) := k
theorem d_cb {r : List V → Hp → VK → Prop} {t : TA} (k : RD K D0 R l (fun H => t σ H fun vs H1 => r vs H1 Q)) : RD K D0 R l (fun H => tCB r t σ H Q) := k
theorem d_g {sp : Sp} {W : WX} {t : TA} (k : RD K D0 R l (fun H => t σ H fun vs H1 => sp vs H1 Q (WE W σ))) : RD K D0 R l (fun H => tG sp W t σ H Q) := k
theorem d_tif {c : TT} {ta tb : TE} (k : RD K D0 R l (fun H => c σ H fun b H1 => if b = true then ta σ H1 Q else tb σ H1 Q)) : RD K D0 R l (fun H => tIf c ta tb σ H Q) := k
theorem d_I0 {g : Int → Int → V} {i j : Int} (k : RD K D0 R l (Q (g i j))) : RD K D0 R l (fun H => rI0 g (.int i) (.int j) H Q) := fun N H A => ⟨i, j, rfl, rfl, k N H A⟩
theorem d_I {C : Int → Int → Prop} {g : Int → Int → V} {i j : Int} (c : C i j) (k : RD K D0 R l (Q (g i j))) : RD K D0 R l (fun H => rI C g (.int i) (.int j) H Q) := fun N H A => ⟨i, j, rfl, rfl, c, k N H A⟩
theorem d_addI {i j : Int} (k : RD K D0 R l (Q (.int (i + j)))) : RD K D0 R l (fun H => gAdd K (.int i) (.int j) H Q) := fun N H A => .inl ⟨i, j, rfl, rfl, k N H A⟩
theorem d_addS {i j : Str} (h : i.length + j.length ≤ sizeLine) (k : RD K D0 R l (Q (.str (i ++ j)))) : RD K D0 R l (fun H => gAdd K (.str i) (.str j) H Q) := fun N H A => .inr (.inl ⟨i, j, rfl, rfl, h, k N H A⟩)
theorem d_mulI {i j : Int} (c : CMul i j) (k : RD K D0 R l (Q (.int (i * j)))) : RD K D0 R l (fun H => gMul (.int i) (.int j) H Q) := fun N H A => .inl ⟨i, j, rfl, rfl, c, k N H A⟩
theorem d_isN {x : V} (k : RD K D0 R l (Q (.bl (decide (x = .non))))) : RD K D0 R l (fun H => gIsN x .non H Q) := fun N H A => ⟨rfl, k N H A⟩
theorem d_notN {x : V} (k : RD K D0 R l (Q (.bl (!decide (x = .non))))) : RD K D0 R l (fun H => gNotN x .non H Q) := fun N H A => ⟨rfl, k N H A⟩

/-- what a value of this data must be, where it is plain -/
def Dv (v : V) : PyData → Prop
  | .none => v = .non
  | .bool b => v = .bl b
  | .int i => v = .int i
  | .str x => v = .str x
  | .list _ => ∃ a, v = .ref a
  | .tuple _ => ∃ a, v = .ref a
  | .dict _ => True
theorem Dt.dv {H : Hp} {v : V} {d : PyData} (h : Dt K H v d) : Dv v d := by
  cases h <;> first | rfl | exact ⟨_, rfl⟩
/-- lists and tuples by data -/
theorem Dt.list {H : Hp} {v : V} {ds : List PyData} (h : Dt K H v (.list ds)) : ∃ a xs, v = .ref a ∧ H a = some (.lst xs) ∧ DtAll K H xs ds := by
  cases h with
  | lst h r => exact ⟨_, _, rfl, h, r⟩
theorem Dt.tuple {H : Hp} {v : V} {ds : List PyData} (h : Dt K H v (.tuple ds)) : ∃ a xs, v = .ref a ∧ SqT K H a xs ∧ DtAll K H xs ds := by
  cases h with
  | tup h r => exact ⟨_, _, rfl, h, r⟩

/-! ### displays -/
theorem d_tup {t : TA} (k : RD K D0 R l (fun H => t σ H fun xs H1 => kTup xs H1 Q)) : RD K D0 R l (fun H => tTup t σ H Q) := k
theorem d_lst {t : TA} (k : RD K D0 R l (fun H => t σ H fun xs H1 => kLst xs H1 Q)) : RD K D0 R l (fun H => tLst t σ H Q) := k
theorem d_newT {xs : List V} {ds : List PyData} (hl : xs.length ≤ sizeLine) (hx : InLs l xs ds) (k : ∀ v, RD K D0 R ((v, .tuple ds) :: l) (Q v)) : RD K D0 R l (fun H => kTup xs H Q) :=
  fun N H A => ⟨hl, fun p hp => by
    obtain ⟨A', e⟩ := A.new (.tup xs) hp
    exact k _ N _ (A'.facts (.tup (.inl (.inl e)) (A'.dts hx)))⟩
theorem d_newL {xs : List V} {ds : List PyData} (hl : xs.length ≤ sizeLine) (hx : InLs l xs ds) (k : ∀ v, RD K D0 R ((v, .list ds) :: l) (Q v)) : RD K D0 R l (fun H => kLst xs H Q) :=
  fun N H A => ⟨hl, fun p hp => by
    obtain ⟨A', e⟩ := A.new (.lst xs) hp
    exact k _ N _ (A'.facts (.lst e (A'.dts hx)))⟩
theorem d_newO {xs : List V} {ds : List PyData} (hl : xs.length ≤ sizeLine) (hx : InLs l xs ds) (k : ∀ a, RD K D0 (star (own K a ds) R) l (Q (.ref a))) : RD K D0 R l (fun H => kLst xs H Q) :=
  fun N H A => ⟨hl, fun p hp => k p _ _ (A.newOwn hp (A.dts hx))⟩

/-! ### ==, !=, by data -/
theorem d_eq {x y : V} {d e : PyData} (hx : InL l x d) (hy : InL l y e) (dp : d.depth ≤ 60) (k : RD K D0 R l (Q (.bl (PyData.eqv d e)))) : RD K D0 R l (fun H => gEq K x y H Q) :=
  fun N H A => ⟨d, e, A.dH hx, A.dH hy, dp, k N H A⟩
theorem d_ne {x y : V} {d e : PyData} (hx : InL l x d) (hy : InL l y e) (dp : d.depth ≤ 60) (k : RD K D0 R l (Q (.bl (!PyData.eqv d e)))) : RD K D0 R l (fun H => gNe K x y H Q) :=
  fun N H A => ⟨d, e, A.dH hx, A.dH hy, dp, k N H A⟩
theorem eqv_int {i j : Int} : PyData.eqv (.int i) (.int j) = decide (i = j) := by simp only [PyData.eqv]; exact Bool.beq_eq_decide_eq i j
theorem eqv_str {i j : Str} : PyData.eqv (.str i) (.str j) = decide (i = j) := by simp only [PyData.eqv]; exact Bool.beq_eq_decide_eq i j
theorem eqv_bool {i j : Bool} : PyData.eqv (.bool i) (.bool j) = decide (i = j) := by simp only [PyData.eqv]; exact Bool.beq_eq_decide_eq i j
theorem dep0 {n : Nat} (h : n = 0) : n ≤ 60 := by omega
theorem d_eqI {i j : Int} (k : RD K D0 R l (Q (.bl (decide (i = j))))) : RD K D0 R l (fun H => gEq K (.int i) (.int j) H Q) := d_eq (.int i) (.int j) (dep0 (by simp only [PyData.depth])) (by rw [eqv_int]; exact k)
theorem d_neI {i j : Int} (k : RD K D0 R l (Q (.bl (!decide (i = j))))) : RD K D0 R l (fun H => gNe K (.int i) (.int j) H Q) := d_ne (.int i) (.int j) (dep0 (by simp only [PyData.depth])) (by rw [eqv_int]; exact k)
theorem d_eqS {i j : Str} (k : RD K D0 R l (Q (.bl (decide (i = j))))) : RD K D0 R l (fun H => gEq K (.str i) (.str j) H Q) := d_eq (.str i) (.str j) (dep0 (by simp only [PyData.depth])) (by rw [eqv_str]; exact k)
theorem d_neS {i j : Str} (k : RD K D0 R l (Q (.bl (!decide (i = j))))) : RD K D0 R l (fun H => gNe K (.str i) (.str j) H Q) := d_ne (.str i) (.str j) (dep0 (by simp only [PyData.depth])) (by rw [eqv_str]; exact k)
theorem d_eqB {i j : Bool} (k : RD K D0 R l (Q (.bl (decide (i = j))))) : RD K D0 R l (fun H => gEq K (.bl i) (.bl j) H Q) := d_eq (.bl i) (.bl j) (dep0 (by simp only [PyData.depth])) (by rw [eqv_bool]; exact k)
theorem d_neB {i j : Bool} (k : RD K D0 R l (Q (.bl (!decide (i = j))))) : RD K D0 R l (fun H => gNe K (.bl i) (.bl j) H Q) := d_ne (.bl i) (.bl j) (dep0 (by simp only [PyData.depth])) (by rw [eqv_bool]; exact k)
/-! ### in, not in -/
theorem d_inL {x y : V} {d : PyData} {ds : List PyData} (hx : InL l x d) (hy : InL l y (.list ds)) (dp : d.depth ≤ 60) (k : RD K D0 R l (Q (.bl (ds.any fun e => PyData.eqv e d)))) : RD K D0 R l (fun H => gIn K false x y H Q) :=
  fun N H A => .inl ⟨d, ds, A.dH hx, .inl (A.dH hy), dp, k N H A⟩
theorem d_inT {x y : V} {d : PyData} {ds : List PyData} (hx : InL l x d) (hy : InL l y (.tuple ds)) (dp : d.depth ≤ 60) (k : RD K D0 R l (Q (.bl (ds.any fun e => PyData.eqv e d)))) : RD K D0 R l (fun H => gIn K false x y H Q) :=
  fun N H A => .inl ⟨d, ds, A.dH hx, .inr (A.dH hy), dp, k N H A⟩
theorem d_notInL {x y : V} {d : PyData} {ds : List PyData} (hx : InL l x d) (hy : InL l y (.list ds)) (dp : d.depth ≤ 60) (k : RD K D0 R l (Q (.bl (!ds.any fun e => PyData.eqv e d)))) : RD K D0 R l (fun H => gIn K true x y H Q) :=
  fun N H A => .inl ⟨d, ds, A.dH hx, .inl (A.dH hy), dp, k N H A⟩
theorem d_notInT {x y : V} {d : PyData} {ds : List PyData} (hx : InL l x d) (hy : InL l y (.tuple ds)) (dp : d.depth ≤ 60) (k : RD K D0 R l (Q (.bl (!ds.any fun e => PyData.eqv e d)))) : RD K D0 R l (fun H => gIn K true x y H Q) :=
  fun N H A => .inl ⟨d, ds, A.dH hx, .inr (A.dH hy), dp, k N H A⟩
theorem d_inSg {c : Nat} {z : Str} (k : RD K D0 R l (Q (.bl (decide (c ∈ z.cps.toList))))) : RD K D0 R l (fun H => gIn K false (.str ⟨#[c]⟩) (.str z) H Q) := fun N H A => .inr ⟨c, z, rfl, rfl, k N H A⟩
theorem d_notInSg {c : Nat} {z : Str} (k : RD K D0 R l (Q (.bl (!decide (c ∈ z.cps.toList))))) : RD K D0 R l (fun H => gIn K true (.str ⟨#[c]⟩) (.str z) H Q) := fun N H A => .inr ⟨c, z, rfl, rfl, k N H A⟩

/-! ### subscripts, slices, len -/
theorem DtAll.atI {H : Hp} {vs : List V} {ds : List PyData} (h : DtAll K H vs ds) {i : Int} {d : PyData} (e : atI ds i = some d) : ∃ v, atI vs i = some v ∧ Dt K H v d := by
  unfold L2.atI at e ⊢
  rw [h.len]
  cases q : ixN ds.length i with
  | none => rw [q] at e; cases e
  | some j =>
    rw [q] at e
    exact h.at (show ds[j]? = some d from e)
theorem d_ixL {x : V} {i : Int} {ds : List PyData} {d : PyData} (hx : InL l x (.list ds)) (hi : atI ds i = some d) (k : ∀ v, Dv v d → RD K D0 R ((v, d) :: l) (Q v)) : RD K D0 R l (fun H => rIx K x (.int i) H Q) := fun N H A => by
  obtain ⟨a, xs, rfl, ha, hd⟩ := (A.dt hx).list
  obtain ⟨v, hv, dv⟩ := hd.atI hi
  exact .inl ⟨a, xs, i, v, rfl, rfl, SqL.of (off_same a _ ha), hv, k v dv.dv N H (A.facts dv)⟩
theorem d_ixT {x : V} {i : Int} {ds : List PyData} {d : PyData} (hx : InL l x (.tuple ds)) (hi : atI ds i = some d) (k : ∀ v, Dv v d → RD K D0 R ((v, d) :: l) (Q v)) : RD K D0 R l (fun H => rIx K x (.int i) H Q) := fun N H A => by
  obtain ⟨a, xs, rfl, ha, hd⟩ := (A.dt hx).tuple
  obtain ⟨v, hv, dv⟩ := hd.atI hi
  exact .inr (.inl ⟨a, xs, i, v, rfl, rfl, same_sqT off_same ha, hv, k v dv.dv N H (A.facts dv)⟩)
theorem d_ixS {z : Str} {i : Int} {c : Nat} (hz : z.length ≤ sizeLine) (hi : atI z.cps.toList i = some c) (k : RD K D0 R l (Q (.str ⟨#[c]⟩))) : RD K D0 R l (fun H => rIx K (.str z) (.int i) H Q) := fun N H A =>
  .inr (.inr ⟨z, i, c, rfl, rfl, hz, hi, k N H A⟩)
def gSl (K : PySem.W.Frag) : V → Option Int → Option Int → Hp → VK → Prop := fun x lo hi H Q => rSlL K x lo hi H Q ∨ rSlS x lo hi H Q ∨ rSlT K x lo hi H Q
theorem d_noPart {Q : Option Int → Hp → Prop} (k : RD K D0 R l (Q none)) : RD K D0 R l (fun H => tNoPart σ H Q) := k
theorem d_part {t : TE} {Q : Option Int → Hp → Prop} (k : RD K D0 R l (fun H => t σ H fun x H1 => kPart x H1 Q)) : RD K D0 R l (fun H => tPart t σ H Q) := k
theorem d_int {i : Int} {Q : Option Int → Hp → Prop} (k : RD K D0 R l (Q (some i))) : RD K D0 R l (fun H => kPart (.int i) H Q) := fun N H A => ⟨i, rfl, k N H A⟩
theorem d_tSl {r : V → Option Int → Option Int → Hp → VK → Prop} {te : TE} {tl th : TO} (k : RD K D0 R l (fun H => te σ H fun x H1 => tl σ H1 fun a H2 => th σ H2 fun b H3 => r x a b H3 Q)) : RD K D0 R l (fun H => tSl r te tl th σ H Q) := k
theorem d_slS {z : Str} {lo hi : Option Int} (hz : z.length ≤ sizeLine) (k : RD K D0 R l (Q (.str (cutS z lo hi)))) : RD K D0 R l (fun H => gSl K (.str z) lo hi H Q) := fun N H A => .inr (.inl ⟨z, rfl, hz, k N H A⟩)
def cutD (xs : List PyData) (lo hi : Option Int) : List PyData := (xs.drop (HT.sIx xs.length 0 lo)).take (HT.sIx xs.length xs.length hi - HT.sIx xs.length 0 lo)
theorem d_slL {x : V} {ds : List PyData} {lo hi : Option Int} (hx : InL l x (.list ds)) (k : ∀ v, RD K D0 R ((v, .list (cutD ds lo hi)) :: l) (Q v)) : RD K D0 R l (fun H => gSl K x lo hi H Q) := fun N H A => by
  obtain ⟨a, xs, rfl, ha, hd⟩ := (A.dt hx).list
  refine .inl ⟨a, xs, rfl, SqL.of (off_same a _ ha), fun p hp => ?_⟩
  obtain ⟨A', e⟩ := A.new (.lst (cutV xs lo hi)) hp
  obtain ⟨a', xs', ea, ha', hd'⟩ := (A'.dt hx).list
  have z : xs' = xs := by
    cases ea
    have z1 := off_same a _ ha'
    have z2 := off_same a _ ha
    rw [upd_ne (ne_of_none z2 hp), z2] at z1
    cases z1
    rfl
  subst z
  refine k _ N _ (A'.facts (.lst e ?_))
  have z2 : cutD ds lo hi = (ds.drop (HT.sIx xs'.length 0 lo)).take (HT.sIx xs'.length xs'.length hi - HT.sIx xs'.length 0 lo) := by unfold cutD; rw [hd.len]
  rw [z2]
  exact (hd'.drop _).take _
theorem d_lenL {x : V} {ds : List PyData} (hx : InL l x (.list ds)) (k : RD K D0 R l (Q (.int ds.length))) : RD K D0 R l (fun H => gLen K [x] H Q) := fun N H A => by
  obtain ⟨a, xs, rfl, ha, hd⟩ := (A.dt hx).list
  exact ⟨_, _, rfl, .inl ⟨xs, SqL.of (off_same a _ ha), hd.len.symm⟩, k N H A⟩
theorem d_lenT {x : V} {ds : List PyData} (hx : InL l x (.tuple ds)) (k : RD K D0 R l (Q (.int ds.length))) : RD K D0 R l (fun H => gLen K [x] H Q) := fun N H A => by
  obtain ⟨a, xs, rfl, ha, hd⟩ := (A.dt hx).tuple
  exact ⟨_, _, rfl, .inr ⟨xs, same_sqT off_same ha, hd.len.symm⟩, k N H A⟩
theorem d_lenS {z : Str} (hz : z.length ≤ sizeLine) (k : RD K D0 R l (Q (.int z.length))) : RD K D0 R l (fun H => gLen K [.str z] H Q) := fun N H A => ⟨_, _, rfl, ⟨hz, rfl⟩, k N H A⟩

/-! ### loops -/
/-- where a loop's turn is to end -/
def Cont (K : PySem.W.Frag) (D0 : Hp) (P : Res → St → List (V × PyData) → Prop) : St → Hp → Prop := fun σ H => ∃ R l N, P R σ l ∧ At K D0 R l N H
theorem d_end {P : Res → St → List (V × PyData) → Prop} {l' : List (V × PyData)} (h : P R σ l') (s : ∀ p ∈ l', InL l p.1 p.2) : RD K D0 R l (Cont K D0 P σ) := fun N H A => ⟨R, l', N, h, A.weak s⟩
def ForK (g : TG) (tb : TS) (D : Ends) (σ : St) (J : It) (H1 : Hp) : Prop := ∃ W : Nat → Nat → St → Hp → Prop, (∃ m, W 0 m σ H1) ∧ ∀ i m σ H, W i m σ H →
    (J.stop i H ∧ D.nx σ H) ∨ (J.go i H ∧ ∃ N : St → Hp → Prop, (∀ σ' H', N σ' H' → ∃ m', m' < m ∧ W (i + 1) m' σ' H') ∧ ∀ x H', J.yld i H x H' → g x σ H' fun σ2 H2 => tb { D with nx := N, ct := N, bk := D.nx } σ2 H2)
theorem d_for {wi : TI} {g : TG} {tb : TS} (k : RD K D0 R l (fun H => wi σ H fun J H1 => ForK g tb D σ J H1)) :
    RD K D0 R l (fun H => tFor wi g tb D σ H) := k
def kRng1 (vs : List V) (H1 : Hp) (Ri : It → Hp → Prop) : Prop := ∃ j : Int, vs = [.int j] ∧ -(2 ^ 62) ≤ j ∧ j < 2 ^ 62 ∧ Ri (Itr 0 j.toNat) H1
theorem d_iRng1 {ta : TA} {Ri : It → Hp → Prop} (k : RD K D0 R l (fun H => ta σ H fun vs H1 => kRng1 vs H1 Ri)) : RD K D0 R l (fun H => iRng1 ta σ H Ri) := k
theorem d_rng1 {j : Int} {Ri : It → Hp → Prop} (h1 : -(2 ^ 62) ≤ j) (h2 : j < 2 ^ 62) (k : RD K D0 R l (Ri (Itr 0 j.toNat))) : RD K D0 R l (fun H => kRng1 [.int j] H Ri) := fun N H A => ⟨j, rfl, h1, h2, k N H A⟩
theorem d_forRange {g : TG} {tb : TS} {lo : Int} {n : Nat} (P : Nat → Res → St → List (V × PyData) → Prop) (h0 : P 0 R σ l)
    (hs : ∀ i R' σ' l', i < n → P i R' σ' l' → RD K D0 R' l' (fun H => g (.int (lo + i)) σ' H fun σ2 H2 => tb { D with nx := Cont K D0 (P (i + 1)), ct := Cont K D0 (P (i + 1)), bk := D.nx } σ2 H2))
    (hd : ∀ R' σ' l', P n R' σ' l' → RD K D0 R' l' (fun H => D.nx σ' H)) :
    RD K D0 R l (fun H => ForK g tb D σ (Itr lo n) H) := fun N H A => by
  refine for_range (fun i => Cont K D0 (P i)) ⟨R, l, N, h0, A⟩ ?_ ?_
  · rintro i σ' H' hi ⟨R', l', N', p, A'⟩
    exact hs i R' σ' l' hi p N' H' A'
  · rintro σ' H' ⟨R', l', N', p, A'⟩
    exact hd R' σ' l' p N' H' A'
end
theorem call_glist {X : Cx} : CallR X (.type "list") (gList X.K) := call_list_of
theorem call_gtuple {X : Cx} : CallR X (.type "tuple") (gTuple X.K) := call_tuple_of
end GL

/-! G4: further readings, the pen. -/
namespace GL
open PySem PySem.Spec L2
abbrev W0 : WX := fun _ _ _ _ => False
abbrev gSub' : R2 := rI0 fun i j => .int (i - j)
abbrev gFdiv : R2 := rI CDiv fun i j => .int (i / j)
abbrev gMod : R2 := rI (fun _ j => 0 < j) fun i j => .int (i % j)
abbrev gPow : R2 := rI CPow fun i j => .int (i ^ j.toNat)
abbrev gLt : R2 := rI0 fun i j => .bl (decide (i < j))
abbrev gLe : R2 := rI0 fun i j => .bl (decide (i ≤ j))
abbrev gGt : R2 := rI0 fun i j => .bl (decide (j < i))
abbrev gGe : R2 := rI0 fun i j => .bl (decide (j ≤ i))
abbrev gNeg : V → Hp → VK → Prop := rU fun i => .int (-i)
/-- a test by truth -/
def tTru (K : PySem.W.Frag) (t : TE) : TT := fun σ H Q => t σ H fun x H1 => ∃ k, TruV K x H1 k ∧ Q k H1
/-- what is walked: a list, a tuple, a text -/
def wIt (K : PySem.W.Frag) (v : V) (H : Hp) (R : It → Hp → Prop) : Prop :=
  (∃ a, v = .ref a ∧ (∃ xs, SqL K H a xs) ∧ R (Itl K a) H) ∨ (∃ a, v = .ref a ∧ (∃ xs, SqT K H a xs) ∧ R (Itt K a) H) ∨ ∃ x, v = .str x ∧ R (Its x) H
def gIt (K : PySem.W.Frag) (t : TE) : TI := fun σ H R => t σ H fun v H1 => wIt K v H1 R
section
variable {X : Cx} {tg e : Expr} {te : TE}
theorem sl_g : SlR X (gSl X.K) := sl_list.or (sl_str.or sl_tup)
theorem pi_g (h : PE X e te) : PI X tg e (gIt X.K te) := by
  constructor
  intro pins s σ H R I q
  apply thn (h.run pins s σ H _ I q)
  rintro v s1 ⟨x, H1, I1, r1, ⟨a, rfl, ⟨xs, hq⟩, z⟩ | ⟨a, rfl, ⟨xs, hq⟩, z⟩ | ⟨x, rfl, z⟩⟩
  · cases r1
    obtain ⟨its, rv, p, _⟩ := I1.list hq
    have z0 : s1.heap.objs.size ≤ s1.heap.objs.size := Nat.le_refl _
    apply wpAny_pyIter_list p.isList
    refine ⟨s1.heap.objs.size, [s1.heap.objs.size], _, _, H1, rfl, I1.kept (t' := s1.toks) (fun b o q => Heap.get?_push_of_some _ q), turn_list a _, ⟨_, Heap.get?_push_size _ rfl, rfl, rfl⟩, ?_, z⟩
    intro b hb
    obtain rfl := List.mem_singleton.mp hb
    exact I1.fpOk z0 (I1.hok.fresh z0)
  · cases r1
    obtain ⟨its, rv, p, _⟩ := I1.tuple hq
    have z0 : s1.heap.objs.size ≤ s1.heap.objs.size := Nat.le_refl _
    apply wpAny_pyIter_tuple (show s1.heap.IsTuple a its.toArray from p)
    refine ⟨s1.heap.objs.size, [s1.heap.objs.size], _, _, H1, rfl, I1.kept (t' := s1.toks) (fun b o q => Heap.get?_push_of_some _ q), turn_tuple a _, ⟨_, Heap.get?_push_size _ rfl, rfl, rfl⟩, ?_, z⟩
    intro b hb
    obtain rfl := List.mem_singleton.mp hb
    exact I1.fpOk z0 (I1.hok.fresh z0)
  · obtain ⟨t, rfl⟩ := r1
    cases ha : x.cps.all (· < 128) with
    | false => exact wpAny_pyIter_wide ha (pi_one (tk := s1.toks) I1 _ (turn_str _ x t "str_iterator" (.inr rfl)) ⟨_, Heap.get?_push_size _ rfl, rfl, rfl⟩ z)
    | true => exact wpAny_pyIter_ascii ha (pi_one (tk := s1.toks) I1 _ (turn_str _ x t "str_ascii_iterator" (.inl rfl)) ⟨_, Heap.get?_push_size _ rfl, rfl, rfl⟩ z)
theorem pt_g (h : PE X e te) (he : ∀ whole, isTrue e X.env whole = (do let v ← whole; standAt e.pos; holding [v] (truthy v)) := by intro _; rfl) : PT X e (tTru X.K te) := pt_truth h he
end
section
variable {K : PySem.W.Frag} {D0 : Hp} {R : Res} {l : List (V × PyData)} {σ : St} {D : Ends} {Q : VK}
def kTru (K : PySem.W.Frag) (x : V) (H1 : Hp) (Qb : Bool → Hp → Prop) : Prop := ∃ c, TruV K x H1 c ∧ Qb c H1
def kTy (K : PySem.W.Frag) (T : String) (x : V) (H1 : Hp) (T' : Hp → Prop) : Prop := tyV K T x H1 ∧ T' H1
theorem d_and {t u : TT} {Qb : Bool → Hp → Prop} (k : RD K D0 R l (fun H => t σ H fun c H1 => if c = true then u σ H1 Qb else Qb false H1)) : RD K D0 R l (fun H => tAnd t u σ H Qb) := k
theorem d_or {t u : TT} {Qb : Bool → Hp → Prop} (k : RD K D0 R l (fun H => t σ H fun c H1 => if c = true then Qb true H1 else u σ H1 Qb)) : RD K D0 R l (fun H => tOr t u σ H Qb) := k
theorem d_not {t : TT} {Qb : Bool → Hp → Prop} (k : RD K D0 R l (fun H => t σ H fun c H1 => Qb (!c) H1)) : RD K D0 R l (fun H => tNot t σ H Qb) := k
theorem d_andV {t u : TE} (k : RD K D0 R l (fun H => t σ H fun x H1 => kBl x H1 fun c H2 => if c = true then u σ H2 Q else Q (.bl false) H2)) : RD K D0 R l (fun H => tAndV t u σ H Q) := k
theorem d_orV {t u : TE} (k : RD K D0 R l (fun H => t σ H fun x H1 => kBl x H1 fun c H2 => if c = true then Q (.bl true) H2 else u σ H2 Q)) : RD K D0 R l (fun H => tOrV t u σ H Q) := k
theorem d_notV {t : TE} (k : RD K D0 R l (fun H => t σ H fun x H1 => kBl x H1 fun c H2 => Q (.bl (!c)) H2)) : RD K D0 R l (fun H => tNotV t σ H Q) := k
theorem d_tru {t : TE} {Qb : Bool → Hp → Prop} (k : RD K D0 R l (fun H => t σ H fun x H1 => kTru K x H1 Qb)) : RD K D0 R l (fun H => tTru K t σ H Qb) := k
theorem d_truB {b : Bool} {Qb : Bool → Hp → Prop} (k : RD K D0 R l (Qb b)) : RD K D0 R l (fun H => kTru K (.bl b) H Qb) := fun N H A => ⟨b, rfl, k N H A⟩
theorem d_truL {x : V} {ds : List PyData} {Qb : Bool → Hp → Prop} (hx : InL l x (.list ds)) (k : RD K D0 R l (Qb (!ds.isEmpty))) : RD K D0 R l (fun H => kTru K x H Qb) := fun N H A => by
  obtain ⟨a, xs, rfl, ha, hd⟩ := (A.dt hx).list
  refine ⟨_, .inl ⟨xs, SqL.of (off_same a _ ha), ?_⟩, k N H A⟩
  cases hd <;> rfl
theorem d_bm {T : String} {r : V → List V → Hp → VK → Prop} {to : TE} {t : TA} (k : RD K D0 R l (fun H => to σ H fun x H1 => kTy K T x H1 fun H2 => t σ H2 fun xs H3 => r x xs H3 Q)) : RD K D0 R l (fun H => tBM K T r to t σ H Q) := k
theorem d_tyS {x : Str} {T' : Hp → Prop} (k : RD K D0 R l T') : RD K D0 R l (fun H => kTy K "str" (.str x) H T') := fun N H A => ⟨rfl, k N H A⟩
theorem d_tyO {a : Addr} {ds : List PyData} {T' : Hp → Prop} (k : RD K D0 (star (own K a ds) R) l T') : RD K D0 (star (own K a ds) R) l (fun H => kTy K "list" (.ref a) H T') := fun N H A => by
  obtain ⟨xs, hx, _⟩ := A.ownAt
  exact ⟨.inl ⟨rfl, xs, SqL.of hx⟩, k N H A⟩
theorem d_append {a : Addr} {ds : List PyData} {y : V} {d : PyData} (hy : InL l y d) (hz : ds.length < sizeLine) (k : RD K D0 (star (own K a (ds ++ [d])) R) l (Q .non)) : RD K D0 (star (own K a ds) R) l (fun H => rAppend (.ref a) [y] H Q) := fun N H A => by
  obtain ⟨xs, hx, hd⟩ := A.ownAt
  exact ⟨a, xs, y, rfl, rfl, hx, by rw [hd.len]; exact hz, k _ _ (A.setOwn (hd.append (.cons (A.dt hy) .nil)))⟩
theorem d_find3 {a b : Str} {i : Int} (k : RD K D0 R l (Q (.int (Txt.find3 a b i)))) : RD K D0 R l (fun H => gFind3 (.str a) [.str b, .int i] H Q) := fun N H A => ⟨a, b, i, rfl, rfl, k N H A⟩
theorem d_joinL {a : Str} {x : V} {ys : List Str} (hx : InL l x (.list (ys.map .str))) (hz : (ys.map (·.length)).sum + ys.length * a.length ≤ 16777216) (k : RD K D0 R l (Q (.str (Txt.join a ys)))) : RD K D0 R l (fun H => gJoin K (.str a) [x] H Q) := fun N H A => by
  obtain ⟨p, xs, rfl, ha, hd⟩ := (A.dt hx).list
  have e := hd.strs
  subst e
  exact ⟨a, p, ys, rfl, rfl, .inl (SqL.of (off_same p _ ha)), hz, k N H A⟩
/-- tuple(xs) of a list that may change, of a list, of a tuple -/
theorem d_tupleO {a : Addr} {ds : List PyData} (k : ∀ v, RD K D0 (star (own K a ds) R) ((v, .tuple ds) :: l) (Q v)) : RD K D0 (star (own K a ds) R) l (fun H => gTuple K [.ref a] H Q) := fun N H A => by
  obtain ⟨xs, hx, hd⟩ := A.ownAt
  refine ⟨a, xs, rfl, .inl ⟨SqL.of hx, fun p hp => ?_⟩⟩
  obtain ⟨A', e⟩ := A.new (.tup xs) hp
  obtain ⟨xs', hx', hd'⟩ := A'.ownAt
  rw [upd_ne (ne_of_none hx hp), hx] at hx'
  cases hx'
  exact k _ N _ (A'.facts (.tup (.inl (.inl e)) hd'))
theorem d_tupleL {x : V} {ds : List PyData} (hx : InL l x (.list ds)) (k : ∀ v, RD K D0 R ((v, .tuple ds) :: l) (Q v)) : RD K D0 R l (fun H => gTuple K [x] H Q) := fun N H A => by
  obtain ⟨a, xs, rfl, ha, hd⟩ := (A.dt hx).list
  have ha' := off_same a _ ha
  refine ⟨a, xs, rfl, .inl ⟨SqL.of ha', fun p hp => ?_⟩⟩
  obtain ⟨A', e⟩ := A.new (.tup xs) hp
  obtain ⟨a', xs', ea, hx', hd'⟩ := (A'.dt hx).list
  cases ea
  have z := off_same a _ hx'
  rw [upd_ne (ne_of_none ha' hp), ha'] at z
  cases z
  exact k _ N _ (A'.facts (.tup (.inl (.inl e)) hd'))

/-! ### walks -/
theorem d_gIt {t : TE} {Ri : It → Hp → Prop} (k : RD K D0 R l (fun H => t σ H fun v H1 => wIt K v H1 Ri)) : RD K D0 R l (fun H => gIt K t σ H Ri) := k
theorem d_forStr {g : TG} {tb : TS} {x : Str} (P : Nat → Res → St → List (V × PyData) → Prop) (h0 : P 0 R σ l)
    (hs : ∀ i c R' σ' l', x.cps.toList[i]? = some c → P i R' σ' l' → RD K D0 R' l' (fun H => g (.str ⟨#[c]⟩) σ' H fun σ2 H2 => tb { D with nx := Cont K D0 (P (i + 1)), ct := Cont K D0 (P (i + 1)), bk := D.nx } σ2 H2))
    (hd : ∀ R' σ' l', P x.cps.toList.length R' σ' l' → RD K D0 R' l' (fun H => D.nx σ' H)) :
    RD K D0 R l (fun H => wIt K (.str x) H fun J H1 => ForK g tb D σ J H1) := fun N H A => by
  refine .inr (.inr ⟨x, rfl, fun i m σ H => m = x.cps.size - i ∧ i ≤ x.cps.size ∧ Cont K D0 (P i) σ H, ⟨_, rfl, Nat.zero_le _, R, l, N, h0, A⟩, ?_⟩)
  rintro i m σ' H' ⟨rfl, hi, c⟩
  by_cases hlt : i < x.cps.size
  · refine .inr ⟨hlt, Cont K D0 (P (i + 1)), fun σ2 H2 p => ⟨x.cps.size - (i + 1), by omega, rfl, hlt, p⟩, ?_⟩
    rintro v H2 ⟨rfl, c', hc, rfl⟩
    obtain ⟨R', l', N', p, A'⟩ := c
    exact hs i c' R' σ' l' (by rw [Array.getElem?_toList]; exact hc) p N' _ A'
  · have e : i = x.cps.size := by omega
    obtain ⟨R', l', N', p, A'⟩ := c
    exact .inl ⟨(show x.cps.size ≤ i by omega), hd R' σ' l' (by rw [Array.length_toList, ← e]; exact p) N' H' A'⟩
theorem d_forList {g : TG} {tb : TS} {v : V} {ds : List PyData} (hv : InL l v (.list ds)) (P : Nat → Res → St → List (V × PyData) → Prop) (hkeep : ∀ i R' σ' l', P i R' σ' l' → InL l' v (.list ds)) (h0 : P 0 R σ l)
    (hs : ∀ i d x R' σ' l', ds[i]? = some d → Dv x d → P i R' σ' l' → RD K D0 R' ((x, d) :: l') (fun H => g x σ' H fun σ2 H2 => tb { D with nx := Cont K D0 (P (i + 1)), ct := Cont K D0 (P (i + 1)), bk := D.nx } σ2 H2))
    (hd : ∀ R' σ' l', P ds.length R' σ' l' → RD K D0 R' l' (fun H => D.nx σ' H)) :
    RD K D0 R l (fun H => wIt K v H fun J H1 => ForK g tb D σ J H1) := fun N H A => by
  obtain ⟨a, xs, rfl, ha, hd0⟩ := (A.dt hv).list
  have hl : ∀ {i R' σ' l' N' H'}, P i R' σ' l' → At K D0 R' l' N' H' → ∃ xs', SqL K H' a xs' ∧ DtAll K (off H' N') xs' ds := fun p A' => by
    obtain ⟨a', xs', e, h', d'⟩ := (A'.dt (hkeep _ _ _ _ p)).list
    cases e
    exact ⟨xs', SqL.of (off_same _ _ h'), d'⟩
  have uniq : ∀ {H' : Hp} {ys zs : List V}, SqL K H' a ys → H' a = some (.lst zs) → True := fun _ _ => trivial
  refine .inl ⟨a, rfl, ⟨xs, SqL.of (off_same _ _ ha)⟩, fun i m σ H => m = ds.length - i ∧ i ≤ ds.length ∧ Cont K D0 (P i) σ H, ⟨_, rfl, Nat.zero_le _, R, l, N, h0, A⟩, ?_⟩
  rintro i m σ' H' ⟨rfl, hi, R', l', N', p, A'⟩
  obtain ⟨xs', hq, d'⟩ := hl p A'
  by_cases hlt : i < ds.length
  · have hx : i < xs'.length := by rw [d'.len]; exact hlt
    refine .inr ⟨⟨xs', xs'[i], hq, by simp [hx]⟩, Cont K D0 (P (i + 1)), fun σ2 H2 p => ⟨ds.length - (i + 1), by omega, rfl, hlt, p⟩, ?_⟩
    rintro x H2 ⟨rfl, hy⟩
    obtain ⟨d, e1, e2⟩ := d'.get (hy xs' hq)
    exact hs i d x R' σ' l' e1 e2.dv p N' _ (A'.facts e2)
  · have e : i = ds.length := by omega
    subst e
    exact .inl ⟨⟨xs', hq, by rw [d'.len]; exact Nat.le_refl _⟩, hd R' σ' l' p N' H' A'⟩
theorem d_forTup {g : TG} {tb : TS} {v : V} {ds : List PyData} (hv : InL l v (.tuple ds)) (P : Nat → Res → St → List (V × PyData) → Prop) (hkeep : ∀ i R' σ' l', P i R' σ' l' → InL l' v (.tuple ds)) (h0 : P 0 R σ l)
    (hs : ∀ i d x R' σ' l', ds[i]? = some d → Dv x d → P i R' σ' l' → RD K D0 R' ((x, d) :: l') (fun H => g x σ' H fun σ2 H2 => tb { D with nx := Cont K D0 (P (i + 1)), ct := Cont K D0 (P (i + 1)), bk := D.nx } σ2 H2))
    (hd : ∀ R' σ' l', P ds.length R' σ' l' → RD K D0 R' l' (fun H => D.nx σ' H)) :
    RD K D0 R l (fun H => wIt K v H fun J H1 => ForK g tb D σ J H1) := fun N H A => by
  obtain ⟨a, xs, rfl, ha, hd0⟩ := (A.dt hv).tuple
  have hl : ∀ {i R' σ' l' N' H'}, P i R' σ' l' → At K D0 R' l' N' H' → ∃ xs', SqT K H' a xs' ∧ DtAll K (off H' N') xs' ds := fun p A' => by
    obtain ⟨a', xs', e, h', d'⟩ := (A'.dt (hkeep _ _ _ _ p)).tuple
    cases e
    exact ⟨xs', same_sqT off_same h', d'⟩
  refine .inr (.inl ⟨a, rfl, ⟨xs, same_sqT off_same ha⟩, fun i m σ H => m = ds.length - i ∧ i ≤ ds.length ∧ Cont K D0 (P i) σ H, ⟨_, rfl, Nat.zero_le _, R, l, N, h0, A⟩, ?_⟩)
  rintro i m σ' H' ⟨rfl, hi, R', l', N', p, A'⟩
  obtain ⟨xs', hq, d'⟩ := hl p A'
  by_cases hlt : i < ds.length
  · have hx : i < xs'.length := by rw [d'.len]; exact hlt
    refine .inr ⟨⟨xs', xs'[i], hq, by simp [hx]⟩, Cont K D0 (P (i + 1)), fun σ2 H2 p => ⟨ds.length - (i + 1), by omega, rfl, hlt, p⟩, ?_⟩
    rintro x H2 ⟨rfl, hy⟩
    obtain ⟨d, e1, e2⟩ := d'.get (hy xs' hq)
    exact hs i d x R' σ' l' e1 e2.dv p N' _ (A'.facts e2)
  · have e : i = ds.length := by omega
    subst e
    exact .inl ⟨⟨xs', hq, by rw [d'.len]; exact Nat.le_refl _⟩, hd R' σ' l' p N' H' A'⟩
/-- name += e -/
theorem d_aug {i : Nat} {v : V} {te : TE} {ti : TIp} (h : σ[i]? = some (some v)) (k : RD K D0 R l (fun H => te σ H fun y H1 => ti v y H1 fun z H2 => D.nx (σ.set i (some z)) H2)) : RD K D0 R l (fun H => tAug i te ti D σ H) := fun N H A => ⟨v, h, k N H A⟩
theorem d_ipI {f : Int → Int → Int} {i j : Int} (k : RD K D0 R l (Q (.int (f i j)))) : RD K D0 R l (fun H => ipI f (.int i) (.int j) H Q) := fun N H A => ⟨i, j, rfl, rfl, k N H A⟩
theorem d_set {i : Nat} {v : V} {σ' : St} {Qn : St → Hp → Prop} (e : σ.set i (some v) = σ') (k : RD K D0 R l (Qn σ')) : RD K D0 R l (fun H => Qn (σ.set i (some v)) H) := by subst e; exact k

/-! ### comprehensions -/
def LcK (g : TG) (tt : TT) (te : TE) (vs : List Nat) (σ : St) (Q : VK) (J : It) (H1 : Hp) : Prop := ∀ D, H1 D = none → ∃ W : Nat → Nat → Hp → Prop, (∃ m, W 0 m (upd H1 D (.lst []))) ∧ ∀ i m H, W i m H →
  (J.stop i H ∧ Q (.ref D) H) ∨ (J.go i H ∧ ∃ Nx : Hp → Prop, (∀ H', Nx H' → ∃ m', m' < m ∧ W (i + 1) m' H') ∧ ∀ x H', J.yld i H x H' → g x (wipe σ vs) H' fun σ2 H2 => wipe σ2 vs = wipe σ vs ∧ tt σ2 H2 fun b H3 =>
    if b = true then te σ2 H3 fun y H4 => ∃ acc, H4 D = some (.lst acc) ∧ acc.length < sizeLine ∧ Nx (upd H4 D (.lst (acc ++ [y]))) else Nx H3)
def kWipe (σ2 : St) (vs : List Nat) (σ : St) (H : Hp) (T : Hp → Prop) : Prop := wipe σ2 vs = wipe σ vs ∧ T H
def kItem (D : Addr) (y : V) (H4 : Hp) (Nx : Hp → Prop) : Prop := ∃ acc, H4 D = some (.lst acc) ∧ acc.length < sizeLine ∧ Nx (upd H4 D (.lst (acc ++ [y])))
/-- a turn of a comprehension; what is made so far stands at D -/
def ContC (K : PySem.W.Frag) (D0 : Hp) (D : Addr) (P : Res → List (V × PyData) → List PyData → Prop) : Hp → Prop := fun H => ∃ R l es N, P R l es ∧ At K D0 (star (own K D es) R) l N H
theorem d_lc {wi : TI} {g : TG} {tt : TT} {te : TE} {vs : List Nat} (k : RD K D0 R l (fun H => wi σ H fun J H1 => LcK g tt te vs σ Q J H1)) : RD K D0 R l (fun H => tLc wi g tt te vs σ H Q) := k
/-- the turn's new item -/
theorem d_item {D : Addr} {es : List PyData} {y : V} {d : PyData} {P : Res → List (V × PyData) → List PyData → Prop} {l' : List (V × PyData)} (hy : InL l y d) (hz : es.length < sizeLine) (h : P R l' (es ++ [d])) (s : ∀ p ∈ l', InL l p.1 p.2) :
    RD K D0 (star (own K D es) R) l (fun H => kItem D y H (ContC K D0 D P)) := fun N H A => by
  obtain ⟨xs, hx, hd⟩ := A.ownAt
  refine ⟨xs, hx, by rw [hd.len]; exact hz, R, l', es ++ [d], N, h, ?_⟩
  exact (A.setOwn (hd.append (.cons (A.dt hy) .nil))).weak s
theorem d_noItem {D : Addr} {es : List PyData} {P : Res → List (V × PyData) → List PyData → Prop} {l' : List (V × PyData)} (h : P R l' es) (s : ∀ p ∈ l', InL l p.1 p.2) : RD K D0 (star (own K D es) R) l (ContC K D0 D P) :=
  fun N H A => ⟨R, l', es, N, h, A.weak s⟩
theorem d_lcRange {lo : Int} {n : Nat} {g : TG} {tt : TT} {te : TE} {vs : List Nat} (P : Nat → Res → List (V × PyData) → List PyData → Prop) (h0 : P 0 R l [])
    (hs : ∀ i D R' l' es, i < n → P i R' l' es → RD K D0 (star (own K D es) R') l' (fun H => g (.int (lo + i)) (wipe σ vs) H fun σ2 H2 => kWipe σ2 vs σ H2 fun H2 => tt σ2 H2 fun b H3 =>
      if b = true then te σ2 H3 fun y H4 => kItem D y H4 (ContC K D0 D (P (i + 1))) else ContC K D0 D (P (i + 1)) H3))
    (hd : ∀ v R' l' es, P n R' l' es → RD K D0 R' ((v, .list es) :: l') (Q v)) :
    RD K D0 R l (fun H => LcK g tt te vs σ Q (Itr lo n) H) := fun N H A D hD => by
  refine lc_range (Qd := Q (.ref D)) (fun i => ContC K D0 D (P i)) ⟨R, l, [], _, h0, A.newOwn hD .nil⟩ ?_ ?_
  · rintro i H' hi ⟨R', l', es, N', p, A'⟩
    exact hs i D R' l' es hi p N' H' A'
  · rintro H' ⟨R', l', es, N', p, A'⟩
    obtain ⟨N2, A2⟩ := A'.freeze
    exact hd (.ref D) R' l' es p N2 H' A2
theorem d_lcStr {x : Str} {g : TG} {tt : TT} {te : TE} {vs : List Nat} (P : Nat → Res → List (V × PyData) → List PyData → Prop) (h0 : P 0 R l [])
    (hs : ∀ i c D R' l' es, x.cps.toList[i]? = some c → P i R' l' es → RD K D0 (star (own K D es) R') l' (fun H => g (.str ⟨#[c]⟩) (wipe σ vs) H fun σ2 H2 => kWipe σ2 vs σ H2 fun H2 => tt σ2 H2 fun b H3 =>
      if b = true then te σ2 H3 fun y H4 => kItem D y H4 (ContC K D0 D (P (i + 1))) else ContC K D0 D (P (i + 1)) H3))
    (hd : ∀ v R' l' es, P x.cps.toList.length R' l' es → RD K D0 R' ((v, .list es) :: l') (Q v)) :
    RD K D0 R l (fun H => wIt K (.str x) H fun J H1 => LcK g tt te vs σ Q J H1) := fun N H A => by
  refine .inr (.inr ⟨x, rfl, fun D hD => ⟨fun i m H => m = x.cps.size - i ∧ i ≤ x.cps.size ∧ ContC K D0 D (P i) H, ⟨_, rfl, Nat.zero_le _, R, l, [], _, h0, A.newOwn hD .nil⟩, ?_⟩⟩)
  rintro i m H' ⟨rfl, hi, R', l', es, N', p, A'⟩
  by_cases hlt : i < x.cps.size
  · refine .inr ⟨hlt, ContC K D0 D (P (i + 1)), fun H2 p => ⟨x.cps.size - (i + 1), by omega, rfl, hlt, p⟩, ?_⟩
    rintro v H2 ⟨rfl, c', hc, rfl⟩
    exact hs i c' D R' l' es (by rw [Array.getElem?_toList]; exact hc) p N' _ A'
  · have e : i = x.cps.size := by omega
    obtain ⟨N2, A2⟩ := A'.freeze
    exact .inl ⟨(show x.cps.size ≤ i by omega), hd (.ref D) R' l' es (by rw [Array.length_toList, ← e]; exact p) N2 H' A2⟩
theorem d_wipe {σ2 : St} {vs : List Nat} {T : Hp → Prop} (e : wipe σ2 vs = wipe σ vs) (k : RD K D0 R l T) : RD K D0 R l (fun H => kWipe σ2 vs σ H T) := fun N H A => ⟨e, k N H A⟩
theorem d_yes {Qb : Bool → Hp → Prop} (k : RD K D0 R l (Qb true)) : RD K D0 R l (fun H => tYes σ H Qb) := k
end
end GL

/-! G5: what functions promise; the pen. -/
namespace GL
open PySem PySem.Spec L2
section
variable {K : PySem.W.Frag} {D0 : Hp} {R S : Res} {l : List (V × PyData)} {σ : St} {D : Ends} {Q : VK} {T : Hp → Prop}
/-! ### items of a list that may change -/
theorem d_ixO {a : Addr} {i : Int} {ds : List PyData} {d : PyData} (hi : atI ds i = some d) (k : ∀ v, Dv v d → RD K D0 (star (own K a ds) R) ((v, d) :: l) (Q v)) : RD K D0 (star (own K a ds) R) l (fun H => rIx K (.ref a) (.int i) H Q) := fun N H A => by
  obtain ⟨xs, hx, hd⟩ := A.ownAt
  obtain ⟨v, hv, dv⟩ := hd.atI hi
  exact .inl ⟨a, xs, i, v, rfl, rfl, SqL.of hx, hv, k v dv.dv N H (A.facts dv)⟩
theorem d_setO {a : Addr} {i : Int} {j : Nat} {ds : List PyData} {v : V} {d : PyData} {Qs : Hp → Prop} (hv : InL l v d) (hj : ixN ds.length i = some j) (k : RD K D0 (star (own K a (ds.set j d)) R) l Qs) : RD K D0 (star (own K a ds) R) l (fun H => rSetL (.ref a) (.int i) v H Qs) := fun N H A => by
  obtain ⟨xs, hx, hd⟩ := A.ownAt
  refine ⟨a, xs, i, j, rfl, rfl, hx, by rw [hd.len]; exact hj, k _ _ (A.setOwn (hd.set j (A.dt hv)))⟩
theorem d_gSub {to ti : TE} {ts : V → V → V → Hp → (Hp → Prop) → Prop} {v : V} {Qn : St → Hp → Prop} (k : RD K D0 R l (fun H => to σ H fun o H1 => ti σ H1 fun i H2 => ts o i v H2 fun H3 => Qn σ H3)) : RD K D0 R l (fun H => gSub to ti ts v σ H Qn) := k
theorem RD.forget {v : V} {d : PyData} (k : RD K D0 R l T) : RD K D0 R ((v, d) :: l) T := RD.weak (fun p hp => .mem (List.mem_cons_of_mem _ hp)) k

theorem depth_ints (ns : List Int) : (PyData.list (ns.map PyData.int)).depth ≤ 60 := by
  simp only [PyData.depth]
  have h : PyData.depthAll (ns.map PyData.int) = 0 := by
    induction ns with
    | nil => simp only [List.map_nil, PyData.depthAll]
    | cons n ns ih => simp only [List.map_cons, PyData.depthAll, PyData.depth, ih]; rfl
  omega
theorem RD.dv {v : V} {d : PyData} (k : Dv v d → RD K D0 R ((v, d) :: l) T) : RD K D0 R ((v, d) :: l) T := fun N H A => k ((A.f _ List.mem_cons_self).dv) N H A
/-! ### promises -/
/-- a function over data -/
def spPure (K : PySem.W.Frag) (n : Nat) (pre : List PyData → Prop) (post : List PyData → PyData → Prop) : Sp := fun vs H Q _ => ∃ D0 F l N ds, At K D0 F l N H ∧ InLs l vs ds ∧ ds.length = n ∧ pre ds ∧
  ∀ v d, post ds d → Dv v d → RD K D0 F ((v, d) :: l) (Q v)
theorem InL.weak {l l' : List (V × PyData)} {v : V} {d : PyData} (h : InL l v d) (s : ∀ p ∈ l, InL l' p.1 p.2) : InL l' v d := by
  cases h with
  | non => exact .non
  | bl b => exact .bl b
  | int i => exact .int i
  | str x => exact .str x
  | mem h => exact s _ h
theorem InL.tail {l : List (V × PyData)} {p : V × PyData} {v : V} {d : PyData} (h : InL l v d) : InL (p :: l) v d := h.weak fun q hq => .mem (List.mem_cons_of_mem _ hq)
theorem sub_refl {l : List (V × PyData)} : ∀ p ∈ l, InL l p.1 p.2 := fun p hp => .mem hp
theorem sub_nil {l : List (V × PyData)} : ∀ p ∈ ([] : List (V × PyData)), InL l p.1 p.2 := fun p hp => absurd hp List.not_mem_nil
theorem sub_tail {l l' : List (V × PyData)} {q : V × PyData} (h : ∀ p ∈ l', InL l p.1 p.2) : ∀ p ∈ l', InL (q :: l) p.1 p.2 := fun p hp => (h p hp).tail
theorem sub_cons {l l' : List (V × PyData)} {v : V} {d : PyData} (h : InL l v d) (t : ∀ p ∈ l', InL l p.1 p.2) : ∀ p ∈ (v, d) :: l', InL l p.1 p.2 := fun p hp => by
  rcases List.mem_cons.mp hp with rfl | hp
  · exact h
  · exact t p hp
theorem InLs.weak {l l' : List (V × PyData)} {vs : List V} {ds : List PyData} (h : InLs l vs ds) (s : ∀ p ∈ l, InL l' p.1 p.2) : InLs l' vs ds := by
  induction h with
  | nil => exact .nil
  | cons h _ ih => exact .cons (h.weak s) ih
theorem InLs.len {vs : List V} {ds : List PyData} (h : InLs l vs ds) : vs.length = ds.length := by
  induction h with
  | nil => rfl
  | cons _ _ ih => exact congrArg Nat.succ ih
theorem d_pure {n : Nat} {pre : List PyData → Prop} {post : List PyData → PyData → Prop} {vs : List V} {E : XK} (ds : List PyData) (hv : InLs l vs ds) (hn : ds.length = n) (hp : pre ds)
    (k : ∀ v d, post ds d → Dv v d → RD K D0 R ((v, d) :: l) (Q v)) : RD K D0 R l (fun H => spPure K n pre post vs H Q E) := fun N H A => ⟨D0, R, l, N, ds, A, hv, hn, hp, k⟩
/-- the pen: a list of a list of ints and two ints -/
def pen (K : PySem.W.Frag) (p : Addr) : Res where
  h := fun N D H => ∃ (ns : List Int) (i st : Int), (own K p [.list (ns.map .int), .int i, .int st]).h N D H
  st := by
    rintro N D D' H H' ⟨ns, i, st, h⟩ d k
    exact ⟨ns, i, st, (own K p _).st h d k⟩
theorem RD.openPen {p : Addr} (k : ∀ (ns : List Int) (i st : Int), RD K D0 (star (own K p [.list (ns.map .int), .int i, .int st]) R) l T) : RD K D0 (star (pen K p) R) l T := fun N H A => by
  obtain ⟨N1, N2, e, dj, ⟨ns, i, st, h⟩, h2⟩ := A.r
  exact k ns i st N H ⟨A.nt, ⟨N1, N2, e, dj, h, h2⟩, A.d0, A.f⟩
theorem RD.closePen {p : Addr} {ns : List Int} {i st : Int} (k : RD K D0 (star (pen K p) R) l T) : RD K D0 (star (own K p [.list (ns.map .int), .int i, .int st]) R) l T :=
  RD.res (fun {N D H} h => by
    obtain ⟨N1, N2, e, dj, h1, h2⟩ := h
    exact ⟨N1, N2, e, dj, ⟨ns, i, st, h1⟩, h2⟩) k
/-- a function that draws -/
def spPen (K : PySem.W.Frag) (n : Nat) (pre : List PyData → Prop) (post : List PyData → PyData → Prop) : Sp := fun vs H Q _ => ∃ p ws D0 F l N ds, vs = .ref p :: ws ∧ At K D0 (star (pen K p) F) l N H ∧ InLs l ws ds ∧ ds.length = n ∧ pre ds ∧
  ∀ v d, post ds d → Dv v d → RD K D0 (star (pen K p) F) ((v, d) :: l) (Q v)
theorem d_pen {p : Addr} {n : Nat} {pre : List PyData → Prop} {post : List PyData → PyData → Prop} {ws : List V} {E : XK} (ds : List PyData) (hv : InLs l ws ds) (hn : ds.length = n) (hp : pre ds)
    (k : ∀ v d, post ds d → Dv v d → RD K D0 (star (pen K p) R) ((v, d) :: l) (Q v)) : RD K D0 (star (pen K p) R) l (fun H => spPen K n pre post (.ref p :: ws) H Q E) := fun N H A => ⟨p, ws, D0, R, l, N, ds, rfl, A, hv, hn, hp, k⟩
theorem d_pen2 {p : Addr} {n : Nat} {pre : List PyData → Prop} {post : List PyData → PyData → Prop} {ws : List V} {E : XK} (ds : List PyData) (hv : InLs l ws ds) (hn : ds.length = n) (hp : pre ds)
    (k : ∀ v d, post ds d → Dv v d → RD K D0 (star S (star (pen K p) R)) ((v, d) :: l) (Q v)) : RD K D0 (star S (star (pen K p) R)) l (fun H => spPen K n pre post (.ref p :: ws) H Q E) :=
  RD.rot (d_pen ds hv hn hp fun v d h1 h2 => RD.rot (k v d h1 h2))
end

local macro_rules | `(tactic| walk_at "mem") => `(tactic| (first | exact List.Mem.head _ | exact List.Mem.tail _ (List.Mem.head _) | exact List.Mem.tail _ (List.Mem.tail _ (List.Mem.head _)) | ((repeat (first | exact List.Mem.head _ | apply List.Mem.tail)); done)))
local macro_rules | `(tactic| walk_at "inl") => `(tactic| (first | exact InL.int _ | exact InL.str _ | exact InL.bl _ | exact InL.non | (refine InL.mem ?zm; walk_at "mem") | assumption))
local macro_rules | `(tactic| walk_at "inls") => `(tactic| (repeat (first | exact InLs.nil | (refine InLs.cons ?zi ?_; case zi => walk_at "inl"))))
local macro_rules | `(tactic| walk_at "set") => `(tactic| (simp only [wipe, List.set_cons_succ, List.set_cons_zero]; rfl))
local macro_rules | `(tactic| walk_at "tails") => `(tactic| (first | exact sub_refl | exact sub_tail sub_refl | exact sub_tail (sub_tail sub_refl) | exact sub_nil | ((repeat (first | exact sub_refl | apply sub_tail)); done)))
local macro_rules | `(tactic| walk_at "sub") => `(tactic| (first | walk_at "tails" | ((repeat (refine sub_cons ?zi ?_; case zi => walk_at "inl")); walk_at "tails")))
local macro_rules | `(tactic| walk_at "g1") => `(tactic| (first
  | with_reducible refine d_seq ?_
  | with_reducible refine d_asg ?_
  | ((with_reducible refine d_name (σ' := ?zs) ?zh ?_); (case zh => walk_at "set"))
  | ((with_reducible refine d_var (v := ?zs) ?zh ?_); (case zh => rfl))
  | with_reducible refine d_C ?_
  | with_reducible refine d_op ?_
  | with_reducible refine d_cons ?_
  | with_reducible refine d_nil ?_
  | with_reducible refine d_cb ?_
  | with_reducible refine d_g ?_
  | with_reducible refine d_ifS ?_
  | with_reducible refine d_test ?_
  | with_reducible refine d_bl ?_
  | with_reducible refine d_addI ?_
  | with_reducible refine d_I0 ?_
  | with_reducible refine d_ret ?_
  | with_reducible refine d_retN ?_
  | with_reducible refine d_next ?_
  | with_reducible refine d_drop ?_
  | with_reducible refine d_and ?_
  | with_reducible refine d_or ?_
  | with_reducible refine d_not ?_
  | with_reducible refine d_andV ?_
  | with_reducible refine d_orV ?_
  | with_reducible refine d_notV ?_
  | with_reducible refine d_tru ?_
  | with_reducible refine d_truB ?_
  | with_reducible refine d_tif ?_
  | with_reducible refine d_iteT ?_
  | with_reducible refine d_iteF ?_
  | with_reducible refine d_iteNT ?_
  | with_reducible refine d_iteNF ?_
  | with_reducible refine d_eqI ?_
  | with_reducible refine d_neI ?_
  | with_reducible refine d_eqS ?_
  | with_reducible refine d_neS ?_
  | with_reducible refine d_eqB ?_
  | with_reducible refine d_neB ?_
  | with_reducible refine d_isN ?_
  | with_reducible refine d_notN ?_
  | with_reducible refine d_bm ?_
  | with_reducible refine d_tyS ?_
  | with_reducible refine d_tyO ?_
  | with_reducible refine d_find3 ?_
  | with_reducible refine d_tup ?_
  | with_reducible refine d_lst ?_
  | with_reducible refine d_for ?_
  | with_reducible refine d_iRng1 ?_
  | with_reducible refine d_gIt ?_
  | with_reducible refine d_lc ?_
  | with_reducible refine d_yes ?_
  | with_reducible refine d_tSl ?_
  | with_reducible refine d_noPart ?_
  | with_reducible refine d_part ?_
  | with_reducible refine d_int ?_
  | ((with_reducible refine d_wipe ?zh ?_); (case zh => rfl))
  | ((with_reducible refine d_aug (v := ?zs) ?zh ?_); (case zh => rfl))
  | with_reducible refine d_ipI ?_
  | ((with_reducible refine d_set (σ' := ?zs) ?zh ?_); (case zh => walk_at "set"))))
local macro_rules | `(tactic| walk_at "go") => `(tactic| (repeat walk_at "g1"))
/-! ### _law_fresh, _law_draw -/
def sp__law_fresh (K : PySem.W.Frag) : Sp := spPen K 0 (fun _ => True) (fun _ d => ∃ n : Int, d = .int n)
def sp__law_draw (K : PySem.W.Frag) : Sp := spPen K 1 (fun ds => ∃ m : Int, ds = [.int m] ∧ 0 < m ∧ m < 1073741824) (fun ds d => ∃ m n : Int, ds = [.int m] ∧ d = .int n ∧ 0 ≤ n ∧ n < m)
def t__law_fresh (K : PySem.W.Frag) (W : WX) : TS := (tSeq (tAsg (tOp (rIx K) (tVar 0) (tC (.int 1))) (gName 1))
  (tSeq (tAsg (tOp (gAdd K) (tVar 1) (tC (.int 1))) (gSub (tVar 0) (tC (.int 1)) rSetL))
  (tSeq (tAsg (tC (.int 0)) (gName 2))
  (tSeq (tIfS (tTest (tOp (gNe K) (tOp (rIx K) (tVar 0) (tC (.int 0))) (tLst tNil))) (tAsg (tOp (rIx K) (tOp (rIx K) (tVar 0) (tC (.int 0))) (tOp gMod (tVar 1) (tCB (gLen K) (tCons (tOp (rIx K) (tVar 0) (tC (.int 0))) tNil)))) (gName 2)) tNext)
  (tSeq (tIfS (tAnd (tTest (tOp gLt (tVar 1) (tCB (gLen K) (tCons (tOp (rIx K) (tVar 0) (tC (.int 0))) tNil)))) (tTest (tOp gGe (tVar 2) (tOp gPow (tC (.int 10)) (tC (.int 18)))))) (tRet (tOp gSub' (tVar 2) (tOp gPow (tC (.int 10)) (tC (.int 18))))) tNext)
  (tSeq (tAsg (tC (.int 2305843009213693951)) (gName 3))
  (tSeq (tAsg (tOp gMod (tOp (gAdd K) (tOp (gAdd K) (tOp gMul (tVar 2) (tC (.int 48271))) (tOp gMul (tC (.int 40692)) (tVar 1))) (tC (.int 31))) (tVar 3)) (gName 4))
  (tSeq (tAsg (tVar 4) (gName 5))
  (tSeq (tFor (iRng1 (tCons (tC (.int 6)) tNil)) (gName 6) (tSeq (tAsg (tOp gMod (tOp (gAdd K) (tOp (gAdd K) (tOp gMul (tVar 4) (tVar 4)) (tOp gMul (tOp gMul (tC (.int 69621)) (tOp (gAdd K) (tVar 6) (tC (.int 1)))) (tOp (gAdd K) (tVar 1) (tC (.int 1))))) (tVar 2)) (tVar 3)) (gName 4))
  (tAsg (tOp (gAdd K) (tOp gMul (tVar 5) (tVar 3)) (tVar 4)) (gName 5))))
  (tRet (tVar 5)))))))))))
def t__law_draw (K : PySem.W.Frag) (W : WX) : TS := (tSeq (tIfS (tTest (tOp gLt (tOp (rIx K) (tVar 0) (tC (.int 2))) (tVar 1))) (tAsg (tG (sp__law_fresh K) W (tCons (tVar 0) tNil)) (gSub (tVar 0) (tC (.int 2)) rSetL)) tNext)
  (tSeq (tAsg (tOp gMod (tOp (rIx K) (tVar 0) (tC (.int 2))) (tVar 1)) (gName 2))
  (tSeq (tAsg (tOp gFdiv (tOp (rIx K) (tVar 0) (tC (.int 2))) (tVar 1)) (gSub (tVar 0) (tC (.int 2)) rSetL))
  (tRet (tVar 2)))))
section
variable {K : PySem.W.Frag} {W : WX}
theorem InLs.nil_of {l : List (V × PyData)} {vs : List V} (h : InLs l vs []) : vs = [] := by cases h; rfl
theorem InLs.int1 {l : List (V × PyData)} {A : List V} {K : PySem.W.Frag} {D0 : Hp} {R : Res} {N : Addr → Prop} {H : Hp} {m : Int} (at_ : At K D0 R l N H) (h : InLs l A [.int m]) : A = [.int m] := by
  cases h with
  | cons h t => cases t; have z := (at_.dt h).dv; cases z; rfl
theorem pure__law_draw {vs : List V} {H : Hp} {Q : VK} {E : XK} (h : sp__law_draw K vs H Q E) : t__law_draw K W { nx := fun _ H' => Q .non H', rt := Q } (start ["pen", "many", "digit"] vs) H := by
  obtain ⟨p, ws, D0, F, l, N, ds, rfl, A, hv, hn, ⟨m, rfl, m0, m1⟩, k⟩ := h
  obtain rfl := InLs.int1 A hv
  refine (?_ : RD K D0 (star (pen K p) F) l (fun H => t__law_draw K W _ [some (.ref p), some (.int m), none] H)) N H A
  unfold t__law_draw
  refine RD.openPen fun ns i st => ?_
  walk_at "go"
  refine d_ixO (d := .int st) (by rfl) fun v hv => ?_
  cases hv
  walk_at "go"
  -- the last three steps, from any rest
  have fin : ∀ (ns : List Int) (i st : Int) (l' : List (V × PyData)), (∀ q ∈ l, InL l' q.1 q.2) → RD K D0 (star (own K p [.list (ns.map .int), .int i, .int st]) F) l'
      (fun H => tSeq (tAsg (tOp gMod (tOp (rIx K) (tVar 0) (tC (.int 2))) (tVar 1)) (gName 2)) (tSeq (tAsg (tOp gFdiv (tOp (rIx K) (tVar 0) (tC (.int 2))) (tVar 1)) (gSub (tVar 0) (tC (.int 2)) rSetL)) (tRet (tVar 2))) { nx := fun _ H' => Q .non H', rt := Q } [some (.ref p), some (.int m), none] H) := by
    intro ns i st l' hl
    walk_at "go"
    refine d_ixO (d := .int st) (by rfl) fun v hv => ?_
    cases hv
    walk_at "go"
    refine d_I m0 ?_
    walk_at "go"
    refine d_ixO (d := .int st) (by rfl) fun v hv => ?_
    cases hv
    walk_at "go"
    refine d_I ⟨m0, m1⟩ ?_
    refine d_gSub ?_
    walk_at "go"
    refine d_setO (j := 2) (.int _) (by rfl) ?_
    walk_at "go"
    refine RD.closePen (ns := ns) (i := i) (st := st / m) ?_
    refine RD.weak ?_ (k (.int (st % m)) (.int (st % m)) ⟨m, _, rfl, rfl, Int.emod_nonneg _ (by omega), Int.emod_lt_of_pos _ m0⟩ rfl)
    intro q hq
    rcases List.mem_cons.mp hq with rfl | hq
    · exact .int _
    · exact (hl q hq).tail.tail
  refine d_iteP (fun _ => ?_) (fun _ => ?_)
  · walk_at "go"
    refine RD.closePen ?_
    refine d_pen [] .nil rfl trivial fun v d hd hv => ?_
    obtain ⟨n, rfl⟩ := hd
    cases hv
    refine RD.openPen fun ns' i' st' => ?_
    refine d_gSub ?_
    walk_at "go"
    refine d_setO (j := 2) (.int _) (by rfl) ?_
    exact fin ns' i' n _ (by walk_at "sub")
  · refine d_next ?_
    exact fin ns i st _ (by walk_at "sub")
theorem atI_mod {α : Type} {xs : List α} (i : Int) (h : xs ≠ []) : ∃ x, atI xs (i % (xs.length : Int)) = some x ∧ x ∈ xs := by
  have hl : (0 : Int) < xs.length := by
    cases xs with
    | nil => exact absurd rfl h
    | cons a r => simp only [List.length_cons]; omega
  have h1 := Int.emod_nonneg i (show (xs.length : Int) ≠ 0 by omega)
  have h2 := Int.emod_lt_of_pos i hl
  obtain ⟨j, hj⟩ : ∃ j : Nat, i % (xs.length : Int) = (j : Int) := ⟨(i % (xs.length : Int)).toNat, by omega⟩
  have h3 : j < xs.length := by omega
  rw [hj]
  exact ⟨xs[j], atI_nat (List.getElem?_eq_getElem h3), List.getElem_mem h3⟩
theorem mem_ints {ns : List Int} {d : PyData} (h : d ∈ ns.map PyData.int) : ∃ n, d = .int n := by
  obtain ⟨n, _, rfl⟩ := List.mem_map.mp h
  exact ⟨n, rfl⟩
theorem p_mod (a : Int) : 0 ≤ a % 2305843009213693951 ∧ a % 2305843009213693951 < 2305843009213693951 := ⟨Int.emod_nonneg _ (by decide), Int.emod_lt_of_pos _ (by decide)⟩
theorem pure__law_fresh {vs : List V} {H : Hp} {Q : VK} {E : XK} (h : sp__law_fresh K vs H Q E) : t__law_fresh K W { nx := fun _ H' => Q .non H', rt := Q } (start ["pen", "at", "cell", "p", "state", "found", "turn"] vs) H := by
  obtain ⟨p, ws, D0, F, l, N, ds, rfl, A, hv, hn, _, k⟩ := h
  obtain rfl := List.length_eq_zero_iff.mp hn
  obtain rfl := hv.nil_of
  refine (?_ : RD K D0 (star (pen K p) F) l (fun H => t__law_fresh K W _ [some (.ref p), none, none, none, none, none, none] H)) N H A
  -- the end, from any rest
  have fin : ∀ (ns : List Int) (i st n : Int) (l' : List (V × PyData)), (∀ q ∈ l, InL l' q.1 q.2) → RD K D0 (star (own K p [.list (ns.map .int), .int i, .int st]) F) l' (Q (.int n)) := by
    intro ns i st n l' hl
    refine RD.closePen ?_
    refine RD.weak ?_ (k (.int n) (.int n) ⟨n, rfl⟩ rfl)
    intro q hq
    rcases List.mem_cons.mp hq with rfl | hq
    · exact .int _
    · exact hl q hq
  -- behind the cell's choice
  have mid : ∀ (ns : List Int) (i st at_ cell : Int) (l' : List (V × PyData)), (∀ q ∈ l, InL l' q.1 q.2) → RD K D0 (star (own K p [.list (ns.map .int), .int i, .int st]) F) l'
      (fun H => tSeq (tIfS (tAnd (tTest (tOp gLt (tVar 1) (tCB (gLen K) (tCons (tOp (rIx K) (tVar 0) (tC (.int 0))) tNil)))) (tTest (tOp gGe (tVar 2) (tOp gPow (tC (.int 10)) (tC (.int 18)))))) (tRet (tOp gSub' (tVar 2) (tOp gPow (tC (.int 10)) (tC (.int 18))))) tNext)
        (tSeq (tAsg (tC (.int 2305843009213693951)) (gName 3))
        (tSeq (tAsg (tOp gMod (tOp (gAdd K) (tOp (gAdd K) (tOp gMul (tVar 2) (tC (.int 48271))) (tOp gMul (tC (.int 40692)) (tVar 1))) (tC (.int 31))) (tVar 3)) (gName 4))
        (tSeq (tAsg (tVar 4) (gName 5))
        (tSeq (tFor (iRng1 (tCons (tC (.int 6)) tNil)) (gName 6) (tSeq (tAsg (tOp gMod (tOp (gAdd K) (tOp (gAdd K) (tOp gMul (tVar 4) (tVar 4)) (tOp gMul (tOp gMul (tC (.int 69621)) (tOp (gAdd K) (tVar 6) (tC (.int 1)))) (tOp (gAdd K) (tVar 1) (tC (.int 1))))) (tVar 2)) (tVar 3)) (gName 4))
          (tAsg (tOp (gAdd K) (tOp gMul (tVar 5) (tVar 3)) (tVar 4)) (gName 5))))
        (tRet (tVar 5)))))) { nx := fun _ H' => Q .non H', rt := Q } [some (.ref p), some (.int at_), some (.int cell), none, none, none, none] H) := by
    intro ns i st at_ cell l' hl
    have rest : ∀ l'' : List (V × PyData), (∀ q ∈ l, InL l'' q.1 q.2) → RD K D0 (star (own K p [.list (ns.map .int), .int i, .int st]) F) l'' (fun H =>
        (tSeq (tAsg (tC (.int 2305843009213693951)) (gName 3))
        (tSeq (tAsg (tOp gMod (tOp (gAdd K) (tOp (gAdd K) (tOp gMul (tVar 2) (tC (.int 48271))) (tOp gMul (tC (.int 40692)) (tVar 1))) (tC (.int 31))) (tVar 3)) (gName 4))
        (tSeq (tAsg (tVar 4) (gName 5))
        (tSeq (tFor (iRng1 (tCons (tC (.int 6)) tNil)) (gName 6) (tSeq (tAsg (tOp gMod (tOp (gAdd K) (tOp (gAdd K) (tOp gMul (tVar 4) (tVar 4)) (tOp gMul (tOp gMul (tC (.int 69621)) (tOp (gAdd K) (tVar 6) (tC (.int 1)))) (tOp (gAdd K) (tVar 1) (tC (.int 1))))) (tVar 2)) (tVar 3)) (gName 4))
          (tAsg (tOp (gAdd K) (tOp gMul (tVar 5) (tVar 3)) (tVar 4)) (gName 5))))
        (tRet (tVar 5)))))) { nx := fun _ H' => Q .non H', rt := Q } [some (.ref p), some (.int at_), some (.int cell), none, none, none, none] H) := by
      intro l'' hl
      walk_at "go"
      refine d_mulI (.inr ⟨by decide, by decide⟩) ?_
      walk_at "go"
      refine d_mulI (.inl ⟨by decide, by decide⟩) ?_
      walk_at "go"
      refine d_I (show (0 : Int) < 2305843009213693951 by decide) ?_
      walk_at "go"
      refine d_rng1 (j := 6) (by decide) (by decide) ?_
      refine d_forRange (fun _ R' σ' l1 => R' = star (own K p [.list (ns.map .int), .int i, .int st]) F ∧ l1 = l'' ∧ ∃ s f : Int, ∃ v, 0 ≤ s ∧ s < 2305843009213693951 ∧
        σ' = [some (.ref p), some (.int at_), some (.int cell), some (.int 2305843009213693951), some (.int s), some (.int f), v]) ?_ ?_ ?_
      · exact ⟨rfl, rfl, _, _, none, (p_mod _).1, (p_mod _).2, rfl⟩
      · rintro j R' σ' l1 hj ⟨rfl, rfl, s, f, v, s0, s1, rfl⟩
        walk_at "go"
        refine d_mulI (.inl ⟨by omega, by omega⟩) ?_
        walk_at "go"
        refine d_mulI (.inl ⟨by decide, by decide⟩) ?_
        walk_at "go"
        have hj' : j < 6 := hj
        refine d_mulI (.inl ⟨by omega, by omega⟩) ?_
        walk_at "go"
        refine d_I (show (0 : Int) < 2305843009213693951 by decide) ?_
        walk_at "go"
        refine d_mulI (.inr ⟨by decide, by decide⟩) ?_
        walk_at "go"
        dsimp only
        refine d_end (l' := l1) ?_ (by walk_at "sub")
        exact ⟨rfl, rfl, _, _, _, (p_mod _).1, (p_mod _).2, rfl⟩
      · rintro R' σ' l1 ⟨rfl, rfl, s, f, v, s0, s1, rfl⟩
        walk_at "go"
        exact fin _ _ _ _ _ hl
    walk_at "go"
    refine d_ixO (d := .list (ns.map .int)) (by rfl) fun v hv => ?_
    walk_at "go"
    refine d_lenL (ds := ns.map .int) (.mem (List.Mem.head _)) ?_
    walk_at "go"
    have hl1 : ∀ q ∈ l, InL ((v, .list (ns.map .int)) :: l') q.1 q.2 := fun q hq => (hl q hq).tail
    refine d_iteP (fun _ => ?_) (fun _ => ?_)
    · walk_at "go"
      refine d_I (show CPow 10 18 from ⟨by decide, by decide, by decide⟩) ?_
      walk_at "go"
      refine d_iteP (fun _ => ?_) (fun _ => ?_)
      · walk_at "go"
        refine d_I (show CPow 10 18 from ⟨by decide, by decide, by decide⟩) ?_
        walk_at "go"
        exact fin _ _ _ _ _ hl1
      · refine d_next ?_
        exact rest _ hl1
    · refine d_iteF ?_
      refine d_next ?_
      exact rest _ hl1
  unfold t__law_fresh
  refine RD.openPen fun ns i st => ?_
  walk_at "go"
  refine d_ixO (d := .int i) (by rfl) fun v hv => ?_
  cases hv
  walk_at "go"
  refine d_gSub ?_
  walk_at "go"
  refine d_setO (j := 1) (.int _) (by rfl) ?_
  walk_at "go"
  refine d_ixO (d := .list (ns.map .int)) (by rfl) fun v hv => ?_
  walk_at "go"
  refine d_newL (ds := []) (Nat.zero_le _) .nil fun e => ?_
  refine d_ne (d := .list (ns.map .int)) (e := .list []) (.mem (by walk_at "mem")) (.mem (by walk_at "mem")) (depth_ints ns) ?_
  walk_at "go"
  cases ns with
  | nil =>
    refine d_iteN rfl ?_
    refine d_next ?_
    exact mid _ _ _ _ _ _ (by walk_at "sub")
  | cons n ns =>
    refine d_iteY rfl ?_
    walk_at "go"
    refine d_ixO (d := .list ((n :: ns).map .int)) (by rfl) fun v hv => ?_
    walk_at "go"
    refine d_ixO (d := .list ((n :: ns).map .int)) (by rfl) fun v' hv' => ?_
    walk_at "go"
    refine d_lenL (ds := (n :: ns).map .int) (.mem (by walk_at "mem")) ?_
    refine d_I (show (0 : Int) < (((n :: ns).map PyData.int).length : Int) by simp only [List.map_cons, List.length_cons]; omega) ?_
    obtain ⟨d, hd, hm⟩ := atI_mod (xs := (n :: ns).map PyData.int) i (by simp)
    obtain ⟨c, rfl⟩ := mem_ints hm
    refine d_ixL (.mem (by walk_at "mem")) hd fun v2 hv2 => ?_
    cases hv2
    refine d_name (σ' := ?zs) ?zh ?_
    case zh => walk_at "set"
    exact mid _ _ _ _ _ _ (by walk_at "sub")
end
/-! ### how many values -/
theorem spPure_len {K : PySem.W.Frag} {n : Nat} {pre : List PyData → Prop} {post : List PyData → PyData → Prop} {vs : List V} {H : Hp} {Q : VK} {E : XK} (h : spPure K n pre post vs H Q E) : vs.length = n := by
  obtain ⟨_, _, _, _, _, _, hv, hn, _⟩ := h
  exact hv.len.trans hn
theorem spPen_len {K : PySem.W.Frag} {n : Nat} {pre : List PyData → Prop} {post : List PyData → PyData → Prop} {vs : List V} {H : Hp} {Q : VK} {E : XK} (h : spPen K n pre post vs H Q E) : vs.length = n + 1 := by
  obtain ⟨_, _, _, _, _, _, _, rfl, _, hv, hn, _⟩ := h
  exact congrArg (· + 1) (hv.len.trans hn)
theorem len__law_fresh {K : PySem.W.Frag} {vs : List V} {H : Hp} {Q : VK} {E : XK} (h : sp__law_fresh K vs H Q E) : vs.length = 1 := spPen_len h
theorem len__law_draw {K : PySem.W.Frag} {vs : List V} {H : Hp} {Q : VK} {E : XK} (h : sp__law_draw K vs H Q E) : vs.length = 2 := spPen_len h
end GL

/-! G6: drawn strings; signs. -/
namespace GL
open PySem PySem.Spec L2
open SX (S)
local macro_rules | `(tactic| walk_at "mem") => `(tactic| (first | exact List.Mem.head _ | exact List.Mem.tail _ (List.Mem.head _) | exact List.Mem.tail _ (List.Mem.tail _ (List.Mem.head _)) | ((repeat (first | exact List.Mem.head _ | apply List.Mem.tail)); done)))
local macro_rules | `(tactic| walk_at "inl") => `(tactic| (first | exact InL.int _ | exact InL.str _ | exact InL.bl _ | exact InL.non | (refine InL.mem ?zm; walk_at "mem") | assumption))
local macro_rules | `(tactic| walk_at "inls") => `(tactic| (repeat (first | exact InLs.nil | (refine InLs.cons ?zi ?_; case zi => walk_at "inl"))))
local macro_rules | `(tactic| walk_at "set") => `(tactic| (simp only [wipe, List.set_cons_succ, List.set_cons_zero]; rfl))
local macro_rules | `(tactic| walk_at "tails") => `(tactic| (first | exact sub_refl | exact sub_tail sub_refl | exact sub_tail (sub_tail sub_refl) | exact sub_nil | ((repeat (first | exact sub_refl | apply sub_tail)); done)))
local macro_rules | `(tactic| walk_at "sub") => `(tactic| (first | walk_at "tails" | ((repeat (refine sub_cons ?zi ?_; case zi => walk_at "inl")); walk_at "tails")))
local macro_rules | `(tactic| walk_at "g1") => `(tactic| (first
  | with_reducible refine d_seq ?_
  | with_reducible refine d_asg ?_
  | ((with_reducible refine d_name (σ' := ?zs) ?zh ?_); (case zh => walk_at "set"))
  | ((with_reducible refine d_var (v := ?zs) ?zh ?_); (case zh => rfl))
  | with_reducible refine d_C ?_
  | with_reducible refine d_op ?_
  | with_reducible refine d_cons ?_
  | with_reducible refine d_nil ?_
  | with_reducible refine d_cb ?_
  | with_reducible refine d_g ?_
  | with_reducible refine d_ifS ?_
  | with_reducible refine d_test ?_
  | with_reducible refine d_bl ?_
  | with_reducible refine d_addI ?_
  | with_reducible refine d_I0 ?_
  | with_reducible refine d_ret ?_
  | with_reducible refine d_retN ?_
  | with_reducible refine d_next ?_
  | with_reducible refine d_drop ?_
  | with_reducible refine d_and ?_
  | with_reducible refine d_or ?_
  | with_reducible refine d_not ?_
  | with_reducible refine d_andV ?_
  | with_reducible refine d_orV ?_
  | with_reducible refine d_notV ?_
  | with_reducible refine d_tru ?_
  | with_reducible refine d_truB ?_
  | with_reducible refine d_tif ?_
  | with_reducible refine d_iteT ?_
  | with_reducible refine d_iteF ?_
  | with_reducible refine d_iteNT ?_
  | with_reducible refine d_iteNF ?_
  | with_reducible refine d_eqI ?_
  | with_reducible refine d_neI ?_
  | with_reducible refine d_eqS ?_
  | with_reducible refine d_neS ?_
  | with_reducible refine d_eqB ?_
  | with_reducible refine d_neB ?_
  | with_reducible refine d_isN ?_
  | with_reducible refine d_notN ?_
  | with_reducible refine d_bm ?_
  | with_reducible refine d_tyS ?_
  | with_reducible refine d_tyO ?_
  | with_reducible refine d_find3 ?_
  | with_reducible refine d_tup ?_
  | with_reducible refine d_lst ?_
  | with_reducible refine d_for ?_
  | with_reducible refine d_iRng1 ?_
  | with_reducible refine d_gIt ?_
  | with_reducible refine d_lc ?_
  | with_reducible refine d_yes ?_
  | with_reducible refine d_tSl ?_
  | with_reducible refine d_noPart ?_
  | with_reducible refine d_part ?_
  | with_reducible refine d_int ?_
  | ((with_reducible refine d_wipe ?zh ?_); (case zh => rfl))
  | ((with_reducible refine d_aug (v := ?zs) ?zh ?_); (case zh => rfl))
  | with_reducible refine d_ipI ?_
  | ((with_reducible refine d_set (σ' := ?zs) ?zh ?_); (case zh => walk_at "set"))))
local macro_rules | `(tactic| walk_at "go") => `(tactic| (repeat walk_at "g1"))
theorem S_app (a b : List Nat) : S a ++ S b = S (a ++ b) := SX.S_cat a b
theorem S_tl (a : List Nat) : (S a).cps.toList = a := by simp
theorem S_len (a : List Nat) : (S a).length = a.length := SX.S_len a
theorem abc_S : ("abc" : Str) = S [97, 98, 99] := by decide +kernel
theorem emp_S : ("" : Str) = S [] := by decide +kernel
theorem line_big : 16777216 ≤ sizeLine := by rw [sizeLine_eq]; exact Nat.le_refl _
theorem joinL_ones : ∀ cs : List Nat, TL.joinL [] (cs.map fun c => [c]) = cs
  | [] => rfl
  | [a] => rfl
  | a :: b :: r => by
    show [a] ++ ([] ++ TL.joinL [] ((b :: r).map fun c => [c])) = a :: b :: r
    rw [joinL_ones (b :: r)]
    rfl
theorem join_signs (cs : List Nat) : Txt.join (S []) (cs.map fun c => S [c]) = S cs := by
  have h := SX.join_S [] (cs.map fun c => [c])
  rw [List.map_map, joinL_ones] at h
  exact h
theorem sum_ones (cs : List Nat) : ((cs.map fun c => S [c]).map (·.length)).sum = cs.length := by
  induction cs with
  | nil => rfl
  | cons a r ih =>
    simp only [List.map_cons, List.sum_cons, ih, S_len, List.length_cons, List.length_nil]
    omega
/-- the signs, from a's code on -/
def Signs (k : Nat) (cs : List Nat) : Prop := ∀ c ∈ cs, 97 ≤ c ∧ c < 97 + k
def sp__law_string (K : PySem.W.Frag) : Sp := spPen K 2 (fun ds => ∃ k m : Nat, ds = [.int k, .int m] ∧ 1 ≤ k ∧ k ≤ 3 ∧ m ≤ 1000000)
  (fun ds d => ∃ (k m : Nat) (cs : List Nat), ds = [.int k, .int m] ∧ d = .str (S cs) ∧ cs.length ≤ m ∧ Signs k cs)
def t__law_string (K : PySem.W.Frag) (W : WX) : TS := (tRet (tBM K "str" (gJoin K) (tC (.str "")) (tCons (tLc (iRng1 (tCons (tG (sp__law_draw K) W (tCons (tVar 0) (tCons (tOp (gAdd K) (tVar 2) (tC (.int 1))) tNil))) tNil)) (gName 3) tYes (tOp (rIx K) (tC (.str "abc")) (tG (sp__law_draw K) W0 (tCons (tVar 0) (tCons (tVar 1) tNil)))) [3]) tNil)))

section
variable {K : PySem.W.Frag} {W : WX}
theorem InLs.ints2 {l : List (V × PyData)} {A : List V} {D0 : Hp} {R : Res} {N : Addr → Prop} {H : Hp} {m n : Int} (at_ : At K D0 R l N H) (h : InLs l A [.int m, .int n]) : A = [.int m, .int n] := by
  cases h with
  | cons h t =>
    cases t with
    | cons h2 t =>
      cases t
      have z := (at_.dt h).dv; cases z
      have z := (at_.dt h2).dv; cases z
      rfl
theorem pure__law_string {vs : List V} {H : Hp} {Q : VK} {E : XK} (h : sp__law_string K vs H Q E) : t__law_string K W { nx := fun _ H' => Q .non H', rt := Q } (start ["pen", "signs", "most", "step"] vs) H := by
  obtain ⟨p, ws, D0, F, l, N, ds, rfl, A, hv, hn, ⟨k, m, rfl, k1, k3, hm⟩, kk⟩ := h
  obtain rfl := InLs.ints2 A hv
  refine (?_ : RD K D0 (star (pen K p) F) l (fun H => t__law_string K W _ [some (.ref p), some (.int k), some (.int m), none] H)) N H A
  unfold t__law_string
  walk_at "go"
  refine d_pen [.int (m + 1)] (.cons (.int _) .nil) rfl ⟨_, rfl, by omega, by omega⟩ fun v d hd hv => ?_
  obtain ⟨m', n, e, rfl, n0, n1⟩ := hd
  cases e
  cases hv
  refine RD.forget ?_
  refine d_rng1 (by omega) (by omega) ?_
  refine d_lcRange (fun i R' l' es => R' = star (pen K p) F ∧ l' = l ∧ ∃ cs : List Nat, es = cs.map (fun c => PyData.str (S [c])) ∧ cs.length = i ∧ Signs k cs) ?_ ?_ ?_
  · exact ⟨rfl, rfl, [], rfl, rfl, fun c h => nomatch h⟩
  · rintro i D R' l' es hi ⟨rfl, rfl, cs, rfl, rfl, sg⟩
    walk_at "go"
    refine d_pen2 [.int k] (.cons (.int _) .nil) rfl ⟨_, rfl, by omega, by omega⟩ fun v d hd hv => ?_
    obtain ⟨m', c, e, rfl, c0, c1⟩ := hd
    cases e
    cases hv
    refine RD.forget ?_
    rw [abc_S]
    have hc : atI (S [97, 98, 99]).cps.toList c = some (97 + c.toNat) := by
      have h3 : c = 0 ∨ c = 1 ∨ c = 2 := by omega
      rcases h3 with rfl | rfl | rfl <;> rfl
    refine d_ixS (by rw [S_len]; exact Nat.le_trans (by decide) line_big) hc ?_
    refine d_item (P := _) (l' := l') (d := .str (S [97 + c.toNat])) (.str _) ?_ ?_ (by walk_at "sub")
    · rw [List.length_map]; exact Nat.lt_of_lt_of_le (by omega) line_big
    · refine ⟨rfl, rfl, cs ++ [97 + c.toNat], by rw [List.map_append]; rfl, by rw [List.length_append]; rfl, ?_⟩
      intro x hx
      rcases List.mem_append.mp hx with hx | hx
      · exact sg x hx
      · have hx := List.mem_singleton.mp hx
        omega
  · rintro v R' l' es ⟨rfl, rfl, cs, rfl, hl, sg⟩
    walk_at "go"
    rw [emp_S]
    refine d_joinL (ys := cs.map fun c => S [c]) (.mem (by rw [List.map_map]; exact List.Mem.head _)) ?_ ?_
    · rw [sum_ones, List.length_map, S_len, List.length_nil]
      omega
    · rw [join_signs]
      refine RD.forget ?_
      refine RD.weak ?_ (kk (.str (S cs)) (.str (S cs)) ⟨k, m, cs, rfl, rfl, by omega, sg⟩ rfl)
      walk_at "sub"
end
/-! ### what is found from the left -/
/-- behind this much of a pattern: the places, and where the search goes on -/
inductive Gr (log : List Nat) : List Nat → List Nat → Nat → Prop
  | nil : Gr log [] [] 0
  | snoc {pre ps : List Nat} {i k c : Nat} (h : Gr log pre ps i) (h1 : i ≤ k) (h2 : log[k]? = some c) (h3 : ∀ v, i ≤ v → v < k → log[v]? ≠ some c) : Gr log (pre ++ [c]) (ps ++ [k]) (k + 1)
theorem Gr.len {log pre ps : List Nat} {i : Nat} (h : Gr log pre ps i) : ps.length = pre.length ∧ i ≤ log.length := by
  induction h with
  | nil => exact ⟨rfl, Nat.zero_le _⟩
  | snoc h h1 h2 h3 ih =>
    obtain ⟨hk, _⟩ := List.getElem?_eq_some_iff.mp h2
    exact ⟨by simp [ih.1], hk⟩
theorem drop_at {log : List Nat} {k c : Nat} (h : log[k]? = some c) : log.drop k = c :: log.drop (k + 1) := by
  obtain ⟨hk, e⟩ := List.getElem?_eq_some_iff.mp h
  rw [List.drop_eq_getElem_cons hk, e]
theorem sub_skip {log r : List Nat} {c : Nat} : ∀ (n i k : Nat), k = i + n → log[k]? = some c → (∀ v, i ≤ v → v < k → log[v]? ≠ some c) → ((c :: r).Sublist (log.drop i) ↔ r.Sublist (log.drop (k + 1)))
  | 0, i, k, e, h2, h3 => by
    have e' : k = i := by omega
    subst e'
    rw [drop_at h2]
    exact List.cons_sublist_cons
  | n + 1, i, k, e, h2, h3 => by
    obtain ⟨hk, _⟩ := List.getElem?_eq_some_iff.mp h2
    have hi : i < log.length := by omega
    have ih := sub_skip (r := r) n (i + 1) k (by omega) h2 (fun v a b => h3 v (by omega) b)
    rw [← ih, List.drop_eq_getElem_cons hi]
    have ne : log[i] ≠ c := fun z => h3 i (Nat.le_refl _) (by omega) (by rw [List.getElem?_eq_getElem hi, z])
    constructor
    · intro s
      cases s with
      | cons _ s => exact s
      | cons_cons _ s => exact absurd rfl ne
    · intro s
      exact s.cons _
theorem sub_fail {log r : List Nat} {c i : Nat} (h3 : ∀ v, i ≤ v → v < log.length → log[v]? ≠ some c) : ¬ (c :: r).Sublist (log.drop i) := by
  intro s
  have hm : c ∈ log.drop i := s.subset List.mem_cons_self
  obtain ⟨j, hj, e⟩ := List.getElem_of_mem hm
  rw [List.getElem_drop] at e
  rw [List.length_drop] at hj
  exact h3 (i + j) (by omega) (by omega) (by rw [List.getElem?_eq_getElem (by omega), e])
theorem getD_at {cs : List Nat} {v c : Nat} (hv : v < cs.length) : ((S cs).cps.getD v 0 = c) ↔ cs[v]? = some c := by
  have e : (S cs).cps.getD v 0 = cs[v] := by simp [Array.getD, hv]
  rw [e, List.getElem?_eq_getElem hv]
  exact ⟨fun h => by rw [h], fun h => Option.some.inj h⟩
theorem find_spec (cs : List Nat) (c i : Nat) (hi : i ≤ cs.length) : (Txt.find3 (S cs) (S [c]) (i : Int) = -1 ∧ ∀ v, i ≤ v → v < cs.length → cs[v]? ≠ some c) ∨
    ∃ k : Nat, Txt.find3 (S cs) (S [c]) (i : Int) = (k : Int) ∧ i ≤ k ∧ k < cs.length ∧ cs[k]? = some c ∧ ∀ v, i ≤ v → v < k → cs[v]? ≠ some c := by
  have ef : fromIndex (S cs).length (i : Int) = i := by
    unfold fromIndex
    rw [if_neg (by omega)]
    omega
  have hl := S_len cs
  rcases StrLaws.find3_spec (S cs) c (i : Int) with ⟨h1, h2⟩ | ⟨k, h1, h2, h3, h4, h5⟩
  · rw [ef] at h2
    exact .inl ⟨h1, fun v a b z => h2 v a (by rw [hl]; exact b) ((getD_at b).2 z)⟩
  · rw [ef] at h2 h5
    rw [hl] at h3
    exact .inr ⟨k, h1, h2, h3, (getD_at h3).1 h4, fun v a b z => h5 v a b ((getD_at (by omega)).2 z)⟩
def sp_positions (K : PySem.W.Frag) : Sp := spPure K 2 (fun ds => ∃ log pat : List Nat, ds = [.str (S log), .str (S pat)] ∧ log.length ≤ 1000000 ∧ pat.length ≤ 1000000)
  (fun ds d => ∃ log pat : List Nat, ds = [.str (S log), .str (S pat)] ∧ ((d = .none ∧ ¬ pat.Sublist log) ∨ ∃ (ps : List Nat) (i : Nat), d = .tuple (ps.map fun (k : Nat) => .int k) ∧ Gr log pat ps i ∧ pat.Sublist log))
def sp_contains (K : PySem.W.Frag) : Sp := spPure K 2 (fun ds => ∃ log pat : List Nat, ds = [.str (S log), .str (S pat)] ∧ log.length ≤ 1000000 ∧ pat.length ≤ 1000000)
  (fun ds d => ∃ (log pat : List Nat) (b : Bool), ds = [.str (S log), .str (S pat)] ∧ d = .bool b ∧ (b = true ↔ pat.Sublist log))
def stepP (pat : List Nat) (n : Nat) (c : Nat) : Nat := if pat[n]? = some c then n + 1 else n
theorem stepP_hit {pat : List Nat} {n c : Nat} (h : pat[n]? = some c) : stepP pat n c = n + 1 := if_pos h
theorem stepP_miss {pat : List Nat} {n c : Nat} (h : pat[n]? ≠ some c) : stepP pat n c = n := if_neg h
def progP (log pat : List Nat) : Nat := log.foldl (stepP pat) 0
def sp_progress_of (K : PySem.W.Frag) : Sp := spPure K 2 (fun ds => ∃ log pat : List Nat, ds = [.str (S log), .str (S pat)] ∧ log.length ≤ 1000000 ∧ pat.length ≤ 1000000)
  (fun ds d => ∃ log pat : List Nat, ds = [.str (S log), .str (S pat)] ∧ d = .int (progP log pat))
def t_positions (K : PySem.W.Frag) (W : WX) : TS := (tSeq (tAsg (tLst tNil) (gName 2))
  (tSeq (tAsg (tC (.int 0)) (gName 3))
  (tSeq (tFor (gIt K (tVar 1)) (gName 4) (tSeq (tAsg (tBM K "str" gFind3 (tVar 0) (tCons (tVar 4) (tCons (tVar 3) tNil))) (gName 5))
  (tSeq (tIfS (tTest (tOp gLt (tVar 5) (tC (.int 0)))) (tRet (tC .non)) tNext)
  (tSeq (tDrop (tBM K "list" rAppend (tVar 2) (tCons (tVar 5) tNil)))
  (tAsg (tOp (gAdd K) (tVar 5) (tC (.int 1))) (gName 3))))))
  (tRet (tCB (gTuple K) (tCons (tVar 2) tNil))))))

def t_contains (K : PySem.W.Frag) (W : WX) : TS := (tRet (tOp gNotN (tG (sp_positions K) W (tCons (tVar 0) (tCons (tVar 1) tNil))) (tC .non)))

def t_progress_of (K : PySem.W.Frag) (W : WX) : TS := (tSeq (tAsg (tC (.int 0)) (gName 2))
  (tSeq (tFor (gIt K (tVar 0)) (gName 3) (tIfS (tAnd (tTest (tOp gLt (tVar 2) (tCB (gLen K) (tCons (tVar 1) tNil)))) (tTest (tOp (gEq K) (tOp (rIx K) (tVar 1) (tVar 2)) (tVar 3)))) (tAug 2 (tC (.int 1)) (ipI fun i j => i + j)) tNext))
  (tRet (tVar 2))))

section
variable {K : PySem.W.Frag} {W : WX}
theorem InLs.str2 {l : List (V × PyData)} {A : List V} {D0 : Hp} {R : Res} {N : Addr → Prop} {H : Hp} {m n : Str} (at_ : At K D0 R l N H) (h : InLs l A [.str m, .str n]) : A = [.str m, .str n] := by
  cases h with
  | cons h t =>
    cases t with
    | cons h2 t =>
      cases t
      have z := (at_.dt h).dv; cases z
      have z := (at_.dt h2).dv; cases z
      rfl
theorem pure_contains {vs : List V} {H : Hp} {Q : VK} {E : XK} (h : sp_contains K vs H Q E) : t_contains K W { nx := fun _ H' => Q .non H', rt := Q } (start ["log", "pattern"] vs) H := by
  obtain ⟨D0, F, l, N, ds, A, hv, hn, ⟨log, pat, rfl, h1, h2⟩, kk⟩ := h
  obtain rfl := InLs.str2 A hv
  refine (?_ : RD K D0 F l (fun H => t_contains K W _ [some (.str (S log)), some (.str (S pat))] H)) N H A
  unfold t_contains
  walk_at "go"
  refine d_pure [.str (S log), .str (S pat)] (.cons (.str _) (.cons (.str _) .nil)) rfl ⟨log, pat, rfl, h1, h2⟩ fun v d hd hv => ?_
  obtain ⟨log', pat', e, hd⟩ := hd
  cases e
  walk_at "go"
  refine RD.forget ?_
  have nn : (v = .non) ↔ ¬ pat.Sublist log := by
    rcases hd with ⟨rfl, hs⟩ | ⟨ps, i, rfl, hg, hs⟩
    · exact ⟨fun _ => hs, fun _ => hv⟩
    · obtain ⟨a, rfl⟩ := hv
      exact ⟨fun z => (nomatch z), fun z => absurd hs z⟩
  refine RD.weak ?_ (kk (.bl (!decide (v = .non))) (.bool (!decide (v = .non))) ⟨log, pat, _, rfl, rfl, ?_⟩ rfl)
  · walk_at "sub"
  · rw [Bool.not_eq_true', decide_eq_false_iff_not, nn]
    exact Decidable.not_not
theorem pure_positions {vs : List V} {H : Hp} {Q : VK} {E : XK} (h : sp_positions K vs H Q E) : t_positions K W { nx := fun _ H' => Q .non H', rt := Q } (start ["log", "pattern", "found", "at", "sign", "place"] vs) H := by
  obtain ⟨D0, F, l, N, ds, A, hv, hn, ⟨log, pat, rfl, h1, h2⟩, kk⟩ := h
  obtain rfl := InLs.str2 A hv
  refine (?_ : RD K D0 F l (fun H => t_positions K W _ [some (.str (S log)), some (.str (S pat)), none, none, none, none] H)) N H A
  unfold t_positions
  walk_at "go"
  refine d_newO (ds := []) (Nat.zero_le _) .nil fun a => ?_
  walk_at "go"
  refine d_forStr (fun i R' σ' l' => l' = l ∧ ∃ (ps : List Nat) (j : Nat) (v4 v5 : Option V), R' = star (own K a (ps.map fun (k : Nat) => .int k)) F ∧ σ' = [some (.str (S log)), some (.str (S pat)), some (.ref a), some (.int j), v4, v5] ∧
    Gr log (pat.take i) ps j ∧ (pat.Sublist log ↔ (pat.drop i).Sublist (log.drop j))) ?_ ?_ ?_
  · exact ⟨rfl, [], 0, none, none, rfl, rfl, .nil, Iff.rfl⟩
  · rintro i c R' σ' l' hc ⟨rfl, ps, j, v4, v5, rfl, rfl, g, hs⟩
    rw [S_tl] at hc
    obtain ⟨hi, ec⟩ := List.getElem?_eq_some_iff.mp hc
    obtain ⟨gl, gj⟩ := g.len
    have hcp : pat.drop i = c :: pat.drop (i + 1) := drop_at hc
    walk_at "go"
    rcases find_spec log c j gj with ⟨e, hno⟩ | ⟨k, e, jk, kl, hk, hno⟩
    · rw [e]
      refine d_iteY (by decide) ?_
      walk_at "go"
      refine RD.freeze ?_
      refine RD.weak ?_ (kk .non .none ⟨log, pat, rfl, .inl ⟨rfl, ?_⟩⟩ rfl)
      · walk_at "sub"
      · rw [hs, hcp]
        exact sub_fail hno
    · rw [e]
      refine d_iteN (by simp) ?_
      walk_at "go"
      refine d_append (d := .int k) (.int _) ?_ ?_
      · rw [List.length_map, gl, List.length_take]
        exact Nat.lt_of_lt_of_le (by omega) line_big
      walk_at "go"
      dsimp only
      refine d_end (l' := l') ?_ (by walk_at "sub")
      refine ⟨rfl, ps ++ [k], k + 1, _, _, by rw [List.map_append]; rfl, rfl, ?_, ?_⟩
      · rw [List.take_succ, hc]
        exact .snoc g jk hk hno
      · rw [hs, hcp]
        exact sub_skip (k - j) j k (by omega) hk hno
  · rintro R' σ' l' ⟨rfl, ps, j, v4, v5, rfl, rfl, g, hs⟩
    rw [S_tl] at g hs
    rw [List.take_length] at g
    walk_at "go"
    refine d_tupleO fun v => RD.dv fun hv => ?_
    refine RD.freeze ?_
    refine RD.weak ?_ (kk v (.tuple (ps.map fun (k : Nat) => .int k)) ⟨log, pat, rfl, .inr ⟨ps, j, rfl, g, ?_⟩⟩ hv)
    · walk_at "sub"
    · rw [hs, List.drop_length]; exact List.nil_sublist _
theorem d_gLenS {z : List Nat} {D0 : Hp} {R : Res} {l : List (V × PyData)} {Q : VK} (hz : z.length ≤ 1000000) (k : RD K D0 R l (Q (.int z.length))) : RD K D0 R l (fun H => gLen K [.str (S z)] H Q) :=
  d_lenS (by rw [S_len]; exact Nat.le_trans (by omega) line_big) (by rw [S_len]; exact k)
theorem pure_progress_of {vs : List V} {H : Hp} {Q : VK} {E : XK} (h : sp_progress_of K vs H Q E) : t_progress_of K W { nx := fun _ H' => Q .non H', rt := Q } (start ["log", "pattern", "found", "sign"] vs) H := by
  obtain ⟨D0, F, l, N, ds, A, hv, hn, ⟨log, pat, rfl, h1, h2⟩, kk⟩ := h
  obtain rfl := InLs.str2 A hv
  refine (?_ : RD K D0 F l (fun H => t_progress_of K W _ [some (.str (S log)), some (.str (S pat)), none, none] H)) N H A
  unfold t_progress_of
  walk_at "go"
  refine d_forStr (fun i R' σ' l' => l' = l ∧ R' = F ∧ ∃ v3 : Option V, σ' = [some (.str (S log)), some (.str (S pat)), some (.int ((log.take i).foldl (stepP pat) 0 : Nat)), v3] ∧ (log.take i).foldl (stepP pat) 0 ≤ pat.length) ?_ ?_ ?_
  · exact ⟨rfl, rfl, none, rfl, Nat.zero_le _⟩
  · rintro i c R' σ' l' hc ⟨rfl, rfl, v3, rfl, hle⟩
    rw [S_tl] at hc
    have ht : (log.take (i + 1)).foldl (stepP pat) 0 = stepP pat ((log.take i).foldl (stepP pat) 0) c := by
      rw [List.take_succ, hc, List.foldl_append]; rfl
    walk_at "go"
    refine d_gLenS h2 ?_
    walk_at "go"
    refine d_iteP (fun hlt => ?_) (fun hge => ?_)
    · obtain ⟨x, hx⟩ : ∃ x, pat[(log.take i).foldl (stepP pat) 0]? = some x := ⟨_, List.getElem?_eq_getElem (by omega)⟩
      walk_at "go"
      refine d_ixS (c := x) (by rw [S_len]; exact Nat.le_trans (by omega) line_big) (atI_nat (by rw [S_tl]; exact hx)) ?_
      walk_at "go"
      refine d_iteP (fun he => ?_) (fun hne => ?_)
      · have ex : x = c := by have := SX.S_inj he; simpa using this
        walk_at "go"
        dsimp only
        refine d_end (l' := l') ?_ (by walk_at "sub")
        have hs : stepP pat ((log.take i).foldl (stepP pat) 0) c = (log.take i).foldl (stepP pat) 0 + 1 := stepP_hit (by rw [hx, ex])
        refine ⟨rfl, rfl, _, by rw [ht, hs]; rfl, by rw [ht, hs]; omega⟩
      · have ex : x ≠ c := fun z => hne (by rw [z])
        walk_at "go"
        dsimp only
        refine d_end (l' := l') ?_ (by walk_at "sub")
        have hs : stepP pat ((log.take i).foldl (stepP pat) 0) c = (log.take i).foldl (stepP pat) 0 := stepP_miss (by rw [hx]; exact fun z => ex (Option.some.inj z))
        refine ⟨rfl, rfl, _, by rw [ht, hs], by rw [ht, hs]; omega⟩
    · walk_at "go"
      dsimp only
      refine d_end (l' := l') ?_ (by walk_at "sub")
      have hs : stepP pat ((log.take i).foldl (stepP pat) 0) c = (log.take i).foldl (stepP pat) 0 := stepP_miss (by rw [List.getElem?_eq_none (by omega)]; exact fun z => nomatch z)
      refine ⟨rfl, rfl, _, by rw [ht, hs], by rw [ht, hs]; omega⟩
  · rintro R' σ' l' ⟨rfl, rfl, v3, rfl, hle⟩
    rw [S_tl, List.take_length]
    walk_at "go"
    refine RD.weak ?_ (kk (.int (progP log pat)) (.int (progP log pat)) ⟨log, pat, rfl, rfl⟩ rfl)
    walk_at "sub"
end
/-! ### the law's pen, the law's frame -/
def sp__law_pen (K : PySem.W.Frag) : Sp := fun vs H Q _ => ∃ a ns D0 F l N, vs = [.ref a] ∧ At K D0 F l N H ∧ SqL K H a (List.map V.int ns) ∧ ns.length ≤ 63 ∧ ∀ p, RD K D0 (star (pen K p) F) l (Q (.ref p))
def spLaw (K : PySem.W.Frag) : Sp := fun vs H Q _ => ∃ (a : Addr) (ns : List Int), vs = [.ref a] ∧ SqL K H a (ns.map V.int) ∧ ns.length ≤ 63 ∧ ∀ H', Q (.bl true) H'
def t__law_pen (K : PySem.W.Frag) (W : WX) : TS := (tRet (tLst (tCons (tCB (gList K) (tCons (tSl (gSl K) (tVar 0) tNoPart (tPart (tC (.int 63)))) tNil)) (tCons (tC (.int 0)) (tCons (tC (.int 0)) tNil)))))

theorem same_sqL {K : PySem.W.Frag} {H H' : Hp} {a : Addr} {xs : List V} (e : Same H H') (h : SqL K H a xs) : SqL K H' a xs := Same.seq e h
theorem cutV_ints (ns : List Int) (lo hi : Option Int) : ∃ ms : List Int, cutV (ns.map V.int) lo hi = ms.map V.int ∧ ms.length ≤ ns.length := by
  refine ⟨(ns.drop (HT.sIx ns.length 0 lo)).take (HT.sIx ns.length ns.length hi - HT.sIx ns.length 0 lo), ?_, ?_⟩
  · unfold cutV
    rw [List.length_map, List.map_take, List.map_drop]
  · rw [List.length_take, List.length_drop]
    omega
section
variable {K : PySem.W.Frag} {W : WX}
theorem pure__law_pen {vs : List V} {H : Hp} {Q : VK} {E : XK} (h : sp__law_pen K vs H Q E) : t__law_pen K W { nx := fun _ H' => Q .non H', rt := Q } (start ["script"] vs) H := by
  obtain ⟨a, ns, D0, F, l, N, rfl, A, hS, hl, k⟩ := h
  obtain ⟨ms, em, hm⟩ := cutV_ints ns none (some 63)
  unfold t__law_pen
  refine ⟨.ref a, rfl, ?_⟩
  refine ⟨63, rfl, ?_⟩
  refine .inl ⟨a, _, rfl, hS, fun p hp => ?_⟩
  rw [em]
  obtain ⟨A1, e1⟩ := A.new (.lst (ms.map V.int)) hp
  refine ⟨p, _, rfl, .inl (SqL.of upd_same), fun q hq => ?_⟩
  obtain ⟨A2, e2⟩ := A1.new (.lst (ms.map V.int)) hq
  refine ⟨Nat.le_trans (show 3 ≤ 16777216 by decide) line_big, fun r hr => ?_⟩
  have A3 := A2.newOwn (xs := [.ref q, .int 0, .int 0]) (ds := [.list (ms.map .int), .int 0, .int 0]) hr (.cons (.lst e2 (DtAll.ofInts ms)) (.cons (.int 0) (.cons (.int 0) .nil)))
  exact RD.closePen (k r) _ _ A3
/-- a law that begins by its pen -/
theorem law_start {D : Ends} {σ : St} {Q : VK} {H : Hp} {a : Addr} {ns : List Int} {W : WX} {rest : TS} {i : Nat} (h0 : σ[0]? = some (some (.ref a))) (hS : SqL K H a (ns.map V.int)) (hl : ns.length ≤ 63)
    (k : ∀ p, RD K (fun _ => none) (star (pen K p) emp) [] (fun H => rest D (σ.set i (some (.ref p))) H)) : tSeq (tAsg (tG (sp__law_pen K) W (tCons (tVar 0) tNil)) (gName i)) rest D σ H := by
  refine ⟨.ref a, h0, ?_⟩
  have A : At K (fun _ => none) emp [] (fun _ => False) H := ⟨fun _ h => h.elim, fun _ h => h, (fun _ _ h => by cases h), (fun _ h => absurd h List.not_mem_nil)⟩
  exact ⟨a, ns, fun _ => none, emp, [], fun _ => False, rfl, A, hS, hl, fun p => k p⟩
end
section
variable {K : PySem.W.Frag} {W : WX} {D0 : Hp} {R : Res} {l : List (V × PyData)} {Q : VK}
theorem d_contains {log pat : List Nat} {E : XK} (h1 : log.length ≤ 1000000) (h2 : pat.length ≤ 1000000) (k : ∀ b : Bool, (b = true ↔ pat.Sublist log) → RD K D0 R l (Q (.bl b))) : RD K D0 R l (fun H => sp_contains K [.str (S log), .str (S pat)] H Q E) := by
  refine d_pure [.str (S log), .str (S pat)] (.cons (.str _) (.cons (.str _) .nil)) rfl ⟨log, pat, rfl, h1, h2⟩ fun v d hd hv => ?_
  obtain ⟨log', pat', b, e, rfl, hb⟩ := hd
  cases e
  cases hv
  exact RD.forget (k b hb)
theorem d_containsY {log pat : List Nat} {E : XK} (h1 : log.length ≤ 1000000) (h2 : pat.length ≤ 1000000) (h : pat.Sublist log) (k : RD K D0 R l (Q (.bl true))) : RD K D0 R l (fun H => sp_contains K [.str (S log), .str (S pat)] H Q E) :=
  d_contains h1 h2 fun b hb => by
    have e : b = true := hb.2 h
    subst e
    exact k
theorem d_progress {log pat : List Nat} {E : XK} (h1 : log.length ≤ 1000000) (h2 : pat.length ≤ 1000000) (k : RD K D0 R l (Q (.int (progP log pat)))) : RD K D0 R l (fun H => sp_progress_of K [.str (S log), .str (S pat)] H Q E) := by
  refine d_pure [.str (S log), .str (S pat)] (.cons (.str _) (.cons (.str _) .nil)) rfl ⟨log, pat, rfl, h1, h2⟩ fun v d hd hv => ?_
  obtain ⟨log', pat', e, rfl⟩ := hd
  cases e
  cases hv
  exact RD.forget k
theorem d_string {p : Addr} {k m : Nat} {E : XK} (k1 : 1 ≤ k) (k3 : k ≤ 3) (hm : m ≤ 1000000) (kk : ∀ cs : List Nat, cs.length ≤ m → Signs k cs → RD K D0 (star (pen K p) R) l (Q (.str (S cs)))) : RD K D0 (star (pen K p) R) l (fun H => sp__law_string K [.ref p, .int k, .int m] H Q E) := by
  refine d_pen [.int k, .int m] (.cons (.int _) (.cons (.int _) .nil)) rfl ⟨k, m, rfl, k1, k3, hm⟩ fun v d hd hv => ?_
  obtain ⟨k', m', cs, e, rfl, hl, sg⟩ := hd
  have e1 : k' = k := by have := e; simp at this; omega
  have e2 : m' = m := by have := e; simp at this; omega
  subst e1 e2
  cases hv
  exact RD.forget (kk cs hl sg)
theorem d_draw {p : Addr} {m : Int} {E : XK} (h0 : 0 < m) (h1 : m < 1073741824) (kk : ∀ n : Int, 0 ≤ n → n < m → RD K D0 (star (pen K p) R) l (Q (.int n))) : RD K D0 (star (pen K p) R) l (fun H => sp__law_draw K [.ref p, .int m] H Q E) := by
  refine d_pen [.int m] (.cons (.int _) .nil) rfl ⟨m, rfl, h0, h1⟩ fun v d hd hv => ?_
  obtain ⟨m', n, e, rfl, n0, n1⟩ := hd
  cases e
  cases hv
  exact RD.forget (kk n n0 n1)
theorem d_draw2 {S' : Res} {p : Addr} {m : Int} {E : XK} (h0 : 0 < m) (h1 : m < 1073741824) (kk : ∀ n : Int, 0 ≤ n → n < m → RD K D0 (star S' (star (pen K p) R)) l (Q (.int n))) : RD K D0 (star S' (star (pen K p) R)) l (fun H => sp__law_draw K [.ref p, .int m] H Q E) :=
  RD.rot (d_draw h0 h1 fun n n0 n1 => RD.rot (kk n n0 n1))
theorem d_joinSigns {ds : List Nat} {x : V} (hx : InL l x (.list (ds.map fun c => .str (S [c])))) (h : ds.length ≤ 16777216) (k : RD K D0 R l (Q (.str (S ds)))) : RD K D0 R l (fun H => gJoin K (.str "") [x] H Q) := by
  refine d_joinL (ys := ds.map fun c => S [c]) (by rw [List.map_map]; exact hx) (by rw [sum_ones, emp_S, S_len]; simpa using h) ?_
  rw [emp_S, join_signs]
  exact k
theorem cutS_take {cs : List Nat} {n : Nat} (h : n ≤ cs.length) : cutS (S cs) none (some (n : Int)) = S (cs.take n) := by
  unfold cutS
  rw [HT.sIx_none, HT.sIx_nat, S_tl, S_len, Nat.min_eq_left h]
  rfl
theorem cutS_drop {cs : List Nat} {n : Nat} (h : n ≤ cs.length) : cutS (S cs) (some (n : Int)) none = S (cs.drop n) := by
  unfold cutS
  rw [HT.sIx_none, HT.sIx_nat, S_tl, S_len, Nat.min_eq_left h, List.take_of_length_le (by rw [List.length_drop]; omega)]
theorem progP_le (log pat : List Nat) : progP log pat ≤ pat.length := by
  suffices ∀ m, m ≤ pat.length → log.foldl (stepP pat) m ≤ pat.length from this 0 (Nat.zero_le _)
  induction log with
  | nil => exact fun m h => h
  | cons c cs ih =>
    intro m h
    rw [List.foldl_cons]
    refine ih _ ?_
    unfold stepP
    split
    · rename_i h2
      have := (List.getElem?_eq_some_iff.1 h2).1
      omega
    · exact h
theorem d_cat {a b : List Nat} (h : a.length + b.length ≤ 1000000) (k : RD K D0 R l (Q (.str (S (a ++ b))))) : RD K D0 R l (fun H => gAdd K (.str (S a)) (.str (S b)) H Q) :=
  d_addS (by rw [S_len, S_len]; exact Nat.le_trans (Nat.le_trans h (by decide)) line_big) (by rw [S_app]; exact k)
theorem d_len {a : List Nat} (h : a.length ≤ 1000000) (k : RD K D0 R l (Q (.int a.length))) : RD K D0 R l (fun H => gLen K [.str (S a)] H Q) :=
  d_lenS (by rw [S_len]; exact Nat.le_trans (Nat.le_trans h (by decide)) line_big) (by rw [S_len]; exact k)
theorem d_takeS {cs : List Nat} {n : Nat} (h : cs.length ≤ 1000000) (hn : n ≤ cs.length) (k : RD K D0 R l (Q (.str (S (cs.take n))))) : RD K D0 R l (fun H => gSl K (.str (S cs)) none (some (n : Int)) H Q) :=
  d_slS (by rw [S_len]; exact Nat.le_trans (Nat.le_trans h (by decide)) line_big) (by rw [cutS_take hn]; exact k)
theorem d_dropS {cs : List Nat} {n : Nat} (h : cs.length ≤ 1000000) (hn : n ≤ cs.length) (k : RD K D0 R l (Q (.str (S (cs.drop n))))) : RD K D0 R l (fun H => gSl K (.str (S cs)) (some (n : Int)) none H Q) :=
  d_slS (by rw [S_len]; exact Nat.le_trans (Nat.le_trans h (by decide)) line_big) (by rw [cutS_drop hn]; exact k)
/-- signs of a text, each kept or not -/
theorem d_pick {p : Addr} {cs : List Nat} {σ : L2.St} {i : Nat} (hl : cs.length ≤ 1000) (hp : (wipe σ [i])[1]? = some (some (.ref p)))
    (hi : i ≠ 1) (hi2 : i < σ.length) (kk : ∀ (v : V) (ds : List Nat), ds.Sublist cs → RD K D0 (star (pen K p) R) ((v, .list (ds.map fun c => .str (S [c]))) :: l) (Q v)) :
    RD K D0 (star (pen K p) R) l (fun H => wIt K (.str (S cs)) H fun J H1 => LcK (gName i) (tTest (tOp gGt (tG (sp__law_draw K) W0 (tCons (tVar 1) (tCons (tC (.int 3)) tNil))) (tC (.int 0)))) (tVar i) [i] σ Q J H1) := by
  have hw' : ∀ v : V, wipe ((wipe σ [i]).set i (some v)) [i] = wipe σ [i] := fun v => by
    show ((σ.set i none).set i (some v)).set i none = σ.set i none
    rw [List.set_set, List.set_set]
  have h1 : ∀ v : V, ((wipe σ [i]).set i (some v))[1]? = some (some (.ref p)) := fun v => by
    rw [List.getElem?_set_ne hi]; exact hp
  have h2 : ∀ v : V, ((wipe σ [i]).set i (some v))[i]? = some (some v) := fun v => by
    rw [List.getElem?_set_self]
    rw [wipe_length]; exact hi2
  refine d_lcStr (fun n R' l' es => R' = star (pen K p) R ∧ l' = l ∧ ∃ ds : List Nat, es = ds.map (fun c => PyData.str (S [c])) ∧ ds.Sublist (cs.take n)) ?_ ?_ ?_
  · exact ⟨rfl, rfl, [], rfl, List.nil_sublist _⟩
  · rintro n c D R' l' es hc ⟨rfl, rfl, ds, rfl, hs⟩
    rw [S_tl] at hc
    have hdl : ds.length ≤ 1000 := Nat.le_trans hs.length_le (by rw [List.length_take]; omega)
    refine d_name rfl ?_
    refine d_wipe (hw' _) ?_
    refine d_test (d_op (d_g (d_cons (d_var (h1 _) (d_cons (d_C (d_nil ?_)))))))
    refine d_draw2 (by decide) (by decide) fun m m0 m1 => ?_
    refine d_C (d_I0 (d_bl ?_))
    refine d_iteP (fun _ => ?_) (fun _ => ?_)
    · refine d_var (h2 _) ?_
      refine d_item (l' := l') (d := .str (S [c])) (.str _) ?_ ?_ (by walk_at "sub")
      · rw [List.length_map]; exact Nat.lt_of_lt_of_le (by omega) line_big
      · refine ⟨rfl, rfl, ds ++ [c], by rw [List.map_append]; rfl, ?_⟩
        rw [List.take_succ, hc]
        exact hs.append (List.Sublist.refl _)
    · refine d_noItem (l' := l') ?_ (by walk_at "sub")
      refine ⟨rfl, rfl, ds, rfl, hs.trans ?_⟩
      rw [List.take_succ]
      exact List.sublist_append_left _ _
  · rintro v R' l' es ⟨rfl, rfl, ds, rfl, hs⟩
    rw [S_tl, List.take_length] at hs
    exact kk v ds hs
end
section
variable {K : PySem.W.Frag} {vs : List V} {H : Hp} {Q : VK} {E : XK}
theorem len__law_string (h : sp__law_string K vs H Q E) : vs.length = 3 := spPen_len h
theorem len_positions (h : sp_positions K vs H Q E) : vs.length = 2 := spPure_len h
theorem len_contains (h : sp_contains K vs H Q E) : vs.length = 2 := spPure_len h
theorem len_progress_of (h : sp_progress_of K vs H Q E) : vs.length = 2 := spPure_len h
theorem len__law_pen (h : sp__law_pen K vs H Q E) : vs.length = 1 := by
  obtain ⟨_, _, _, _, _, _, rfl, _⟩ := h
  rfl
theorem len_law (h : spLaw K vs H Q E) : vs.length = 1 := by
  obtain ⟨_, _, rfl, _⟩ := h
  rfl
end
end GL

/-! G7: zip over lists, tuples, texts; list of a text; a text many times; isinstance; is of bools. -/
namespace GL
open PySem PySem.Spec L2
open PyProof.Rows hiding St
open SX (S)
theorem vals_back : ∀ {xs : List V} {us : List Value} {j : Nat} {u : Value}, Vals xs us → us[j]? = some u → ∃ x, xs[j]? = some x ∧ RelV x u
  | _, _, j, u, .nil, h => by simp at h
  | _, _, 0, u, .cons r _, h => by
    simp at h
    subst h
    exact ⟨_, rfl, r⟩
  | _, _, j + 1, u, .cons _ t, h => by
    simp at h
    simpa using vals_back t h
/-! ### what zip is asked to walk -/
inductive Sc where
  | lst (a : Addr)
  | tup (a : Addr)
  | txt (z : Str)
def Sc.v : Sc → V
  | .lst a => .ref a
  | .tup a => .ref a
  | .txt z => .str z
def ones (z : Str) : List V := z.cps.toList.map fun c => .str ⟨#[c]⟩
def Sc.has (K : PySem.W.Frag) (H : Hp) : Sc → List V → Prop
  | .lst a, xs => SqL K H a xs
  | .tup a, xs => SqT K H a xs
  | .txt z, xs => xs = ones z
def Sc.cell (it : Addr) (i : Nat) (h : Heap) : Sc → Prop
  | .lst a => h.IsListIter it a i
  | .tup a => h.IsTupleIter it a i
  | .txt z => ∃ t, h.IsStrIter it (strIterType z) z t i
def Sc.below (n : Nat) : Sc → Prop
  | .lst a => a < n
  | .tup a => a < n
  | .txt _ => True
section
variable {X : Cx} {pins : List (Addr × Obj)} {σ : L2.St} {H : Hp} {s : Shared} {A : Around}
theorem Sc.inj (I : Inv X pins σ H s) (c : Sc) {xs ys : List V} (h1 : c.has X.K H xs) (h2 : c.has X.K H ys) : xs = ys := by
  cases c with
  | lst a => exact I.list_inj h1 h2
  | tup a => exact I.tuple_inj h1 h2
  | txt z => exact Eq.trans h1 (Eq.symm h2)
theorem Sc.live (c : Sc) {it : Addr} {i : Nat} {h : Heap} (hc : c.cell it i h) : ∃ o, h.get? it = some o ∧ ∀ v, o.data ≠ .cell v := by
  cases c with
  | lst a => obtain ⟨o, e, _, d⟩ := hc; exact ⟨o, e, fun v q => by rw [d] at q; cases q⟩
  | tup a => obtain ⟨o, e, _, d⟩ := hc; exact ⟨o, e, fun v q => by rw [d] at q; cases q⟩
  | txt z => obtain ⟨t, o, e, _, d⟩ := hc; exact ⟨o, e, fun v q => by rw [d] at q; cases q⟩
theorem Sc.stay (c : Sc) {it : Addr} {i : Nat} {h h' : Heap} (hc : c.cell it i h) (k : ∀ o, h.get? it = some o → h'.get? it = some o) : c.cell it i h' := by
  cases c with
  | lst a => obtain ⟨o, e, r⟩ := hc; exact ⟨o, k o e, r⟩
  | tup a => obtain ⟨o, e, r⟩ := hc; exact ⟨o, k o e, r⟩
  | txt z => obtain ⟨t, o, e, r⟩ := hc; exact ⟨t, o, k o e, r⟩
/-- the source as the library's walks take it -/
structure Drawn1 (X : Cx) (A : Around) (c : Sc) (it n i : Nat) (xs : List V) (h : Heap) (fp : List Addr) (P : Nat → Value → Prop) (T : Nat → Heap → Prop) : Prop where
  d : Draws X.prog X.w A it fp xs.length P T
  st : T i h
  rel : ∀ j v, P j v → ∃ x, xs[j]? = some x ∧ RelV x v
  cell : ∀ j h', T j h' → c.cell it j h'
  mem : it ∈ fp
  lt : ∀ b ∈ fp, b = it ∨ b < n
theorem Sc.draws (hh : A.handled = none) (I : Inv X pins σ H s) (c : Sc) {it n i : Nat} {xs : List V} (hx : c.has X.K H xs) (hb : c.below n) (hn : n ≤ it) (hc : c.cell it i s.heap) : ∃ fp P T, Drawn1 X A c it n i xs s.heap fp P T := by
  cases c with
  | lst a =>
    obtain ⟨its, rv, p, _⟩ := I.list hx
    have e := Draws.list (prog := X.prog) (w := X.w) hh it a (Nat.ne_of_lt (Nat.lt_of_lt_of_le hb hn)) its.toArray
    have el : its.toArray.size = xs.length := by rw [List.size_toArray, rv.length]
    rw [el] at e
    refine ⟨_, _, _, e, ⟨hc, p.isList⟩, fun j v h => ?_, fun j h' t => t.1, List.mem_cons_self, fun b hb' => ?_⟩
    · exact vals_back rv (by simpa using h)
    · simp at hb'
      rcases hb' with rfl | rfl
      · exact .inl rfl
      · exact .inr hb
  | tup a =>
    obtain ⟨its, rv, p, _⟩ := I.tuple hx
    have e := Draws.tuple (prog := X.prog) (w := X.w) hh it a (Nat.ne_of_lt (Nat.lt_of_lt_of_le hb hn)) its.toArray
    have el : its.toArray.size = xs.length := by rw [List.size_toArray, rv.length]
    rw [el] at e
    refine ⟨_, _, _, e, ⟨hc, p⟩, fun j v h => ?_, fun j h' t => t.1, List.mem_cons_self, fun b hb' => ?_⟩
    · exact vals_back rv (by simpa using h)
    · simp at hb'
      rcases hb' with rfl | rfl
      · exact .inl rfl
      · exact .inr hb
  | txt z =>
    obtain ⟨t, hc⟩ := hc
    have e := Draws.text (prog := X.prog) (w := X.w) hh it z t
    have ex : xs = ones z := hx
    have el : z.cps.size = xs.length := by rw [ex]; simp [ones]
    rw [el] at e
    refine ⟨_, _, _, e, hc, fun j v h => ?_, fun j h' q => ⟨t, q⟩, List.mem_cons_self, fun b hb' => .inl (by simpa using hb')⟩
    obtain ⟨c, u, hc', rfl⟩ := h
    refine ⟨.str ⟨#[c]⟩, ?_, ⟨u, rfl⟩⟩
    rw [ex]
    simp [ones, hc']
/-- iter(v) of a source -/
theorem Sc.begins (I : Inv X pins σ H s) (c : Sc) {xs : List V} {u : Value} (hx : c.has X.K H xs) (r : RelV c.v u) :
    ∃ o Hd, Begins u o Hd ∧ Hd s.heap ∧ c.below s.heap.objs.size ∧ ∀ it h, h.get? it = some o → c.cell it 0 h := by
  cases c with
  | lst a =>
    cases (show u = Value.ref a from r)
    obtain ⟨its, rv, p, _⟩ := I.list hx
    exact ⟨_, _, begins_list a its.toArray, p.isList, p.lt, fun it h e => ⟨_, e, rfl, rfl⟩⟩
  | tup a =>
    cases (show u = Value.ref a from r)
    obtain ⟨its, rv, p, _⟩ := I.tuple hx
    obtain ⟨o, e, _⟩ := id p
    exact ⟨_, _, begins_tuple a its.toArray, p, Heap.lt_size e, fun it h e => ⟨_, e, rfl, rfl⟩⟩
  | txt z =>
    obtain ⟨t, q⟩ := (show ∃ t, u = Value.str z t from r)
    subst q
    exact ⟨_, _, begins_text z t, trivial, trivial, fun it h e => ⟨t, _, e, rfl, rfl⟩⟩
end
/-- zip(c1, c2): new pairs, as many as the shorter one has -/
def Itzg (K : PySem.W.Frag) (c1 c2 : Sc) : It :=
  ⟨fun i H => ∃ xs ys : List V, c1.has K H xs ∧ c2.has K H ys ∧ i < xs.length ∧ i < ys.length,
    fun i H v H' => ∃ T x y, v = .ref T ∧ H T = none ∧ H' = upd H T (.tup [x, y]) ∧ (∀ xs, c1.has K H xs → xs[i]? = some x) ∧ ∀ ys, c2.has K H ys → ys[i]? = some y,
    fun i H => ∃ xs ys : List V, c1.has K H xs ∧ c2.has K H ys ∧ i = min xs.length ys.length⟩
abbrev zfp (n : Nat) : List Addr := [n + 4, n + 2, n + 3, n, n + 1]
def zst (c1 c2 : Sc) (n i : Nat) (h : Heap) : Prop := IsZip h (n + 4) (n + 2) (n + 3) .none ∧ IsTupOf2 h (n + 2) (.ref n) (.ref (n + 1)) ∧ (∃ x y, IsTupOf2 h (n + 3) x y) ∧ c1.cell n i h ∧ c2.cell (n + 1) i h
theorem zsep {X : Cx} {A : Around} {c1 c2 : Sc} {n i j : Nat} {xs ys : List V} {h : Heap} {f1 f2 : List Addr} {P1 P2 : Nat → Value → Prop} {T1 T2 : Nat → Heap → Prop} (D1 : Drawn1 X A c1 n n i xs h f1 P1 T1) (D2 : Drawn1 X A c2 (n + 1) n i ys h f2 P2 T2) :
    ZipSep2 (n + 4) (n + 2) (n + 3) n (n + 1) f1 f2 := by
  have ne : ∀ a b : Nat, a ≠ b → (show Addr from a) ≠ (show Addr from b) := fun _ _ h => h
  have o1 : ∀ b : Nat, (b ≠ n ∧ n ≤ b) → (show Addr from b) ∉ f1 := fun b hb q => by
    rcases D1.lt _ q with e | e
    · exact hb.1 e
    · exact absurd (show b < n from e) (by omega)
  have o2 : ∀ b : Nat, (b ≠ n + 1 ∧ n ≤ b) → (show Addr from b) ∉ f2 := fun b hb q => by
    rcases D2.lt _ q with e | e
    · exact hb.1 e
    · exact absurd (show b < n from e) (by omega)
  exact ⟨ne _ _ (by omega), ne _ _ (by omega), ne _ _ (by omega), ne _ _ (by omega), D1.mem, o1 _ (by omega), o1 _ (by omega), ne _ _ (by omega), D2.mem, o2 _ (by omega), o2 _ (by omega), o2 _ (by omega), o1 _ (by omega)⟩
theorem turn_zipg {P : Program} {w : World} {K : PySem.W.Frag} {elts : List Expr} {kk : Nat} {tpos : Pos} {c1 c2 : Sc} {n : Nat} (b1 : c1.below n) (b2 : c2.below n) :
    Turn P w K (.Tuple elts kk tpos) (Itzg K c1 c2) (zfp n) (n + 4) (zst c1 c2 n) where
  mem := List.mem_cons_self
  obj := fun i h st c hc => by
    obtain ⟨hz, hTI, ⟨x, y, hTO⟩, h1, h2⟩ := st
    have q : c = n + 4 ∨ c = n + 2 ∨ c = n + 3 ∨ c = n ∨ c = n + 1 := by simpa using hc
    rcases q with rfl | rfl | rfl | rfl | rfl
    · exact ⟨_, hz, nofun⟩
    · exact ⟨_, hTI, nofun⟩
    · exact ⟨_, hTO, nofun⟩
    · exact c1.live h1
    · exact c2.live h2
  keep := fun i h h' st k => by
    obtain ⟨hz, hTI, ⟨x, y, hTO⟩, h1, h2⟩ := st
    refine ⟨k _ (by simp) _ hz, k _ (by simp) _ hTI, ⟨x, y, k _ (by simp) _ hTO⟩, c1.stay h1 fun o e => k _ (by simp) o e, c2.stay h2 fun o e => k _ (by simp) o e⟩
  item := by
    intro X hP hw hK hc i pins s σ H E I hf st hg
    subst hP hw hK
    have lv : ∀ c, c ∈ zfp n → ∃ o, s.heap.get? c = some o := fun c hcm => (by
      obtain ⟨hz, hTI, ⟨x, y, hTO⟩, h1, h2⟩ := st
      have q : c = n + 4 ∨ c = n + 2 ∨ c = n + 3 ∨ c = n ∨ c = n + 1 := by simpa using hcm
      rcases q with rfl | rfl | rfl | rfl | rfl
      · exact ⟨_, hz⟩
      · exact ⟨_, hTI⟩
      · exact ⟨_, hTO⟩
      · obtain ⟨o, e, _⟩ := c1.live h1; exact ⟨o, e⟩
      · obtain ⟨o, e, _⟩ := c2.live h2; exact ⟨o, e⟩)
    obtain ⟨hz, hTI, ⟨a0, b0, hTO⟩, h1, h2⟩ := st
    obtain ⟨xs, ys, hx, hy, l1, l2⟩ := hg
    have hh : X.A.in1.handled = none := I.ok.hd hc
    obtain ⟨f1, P1, T1, D1⟩ := c1.draws (A := X.A.in1) hh I hx b1 (Nat.le_refl _) h1
    obtain ⟨f2, P2, T2, D2⟩ := c2.draws (A := X.A.in1) hh I hy b2 (Nat.le_succ n) h2
    have W := GoesN.zip2 (elts := elts) (x1 := kk) (pos := tpos) (zsep (j := 0) D1 D2) D1.d D2.d
    refine W.goes i s _ E (Nat.lt_min.2 ⟨l1, l2⟩) ⟨hz, hTI, ⟨_, _, hTO⟩, D1.st, D2.st⟩ fun v h' tk hY st' hk _ => ?_
    obtain ⟨T, a, b, rfl, hT, p1, p2, hTup⟩ := hY
    obtain ⟨x, ex, rx⟩ := D1.rel _ _ p1
    obtain ⟨y, ey, ry⟩ := D2.rel _ _ p2
    have new : ObjOk X.prog X.w (upd H T (.tup [x, y])) h' T (.tup [x, y]) := ⟨by show 2 ≤ sizeLine; decide, [a, b], .cons rx (.cons ry .nil), hTup⟩
    have I1 : Inv X pins σ (upd H T (.tup [x, y])) { s with heap := h', toks := tk } :=
      I.turnedNew (t' := tk) (ch := [n + 4, n + 3, n, n + 1]) hk (fun c hcm => hf c (by
        have q : c = n + 4 ∨ c = n + 3 ∨ c = n ∨ c = n + 1 := by simpa using hcm
        rcases q with rfl | rfl | rfl | rfl <;> simp)) hT new
    refine ⟨.ref T, _, I1, rfl, ⟨T, x, y, rfl, I.hok.fresh hT, rfl, fun zs hz' => by rw [c1.inj I hz' hx]; exact ex, fun zs hz' => by rw [c2.inj I hz' hy]; exact ey⟩, ?_, fun c hcm => ?_⟩
    · obtain ⟨g1, g2, g3, g4, g5⟩ := st'
      exact ⟨g1, g2, g3, D1.cell _ _ g4, D2.cell _ _ g5⟩
    · obtain ⟨o, e⟩ := lv c hcm
      rw [upd_ne (Nat.ne_of_lt (Nat.lt_of_lt_of_le (Heap.lt_size e) hT))]
      exact (hf c hcm).1
  done := by
    intro X hP hw hK hc i pins s σ H E I hf st hg
    subst hP hw hK
    obtain ⟨hz, hTI, ⟨a0, b0, hTO⟩, h1, h2⟩ := st
    obtain ⟨xs, ys, hx, hy, rfl⟩ := hg
    have hh : X.A.in1.handled = none := I.ok.hd hc
    obtain ⟨f1, P1, T1, D1⟩ := c1.draws (A := X.A.in1) hh I hx b1 (Nat.le_refl _) h1
    obtain ⟨f2, P2, T2, D2⟩ := c2.draws (A := X.A.in1) hh I hy b2 (Nat.le_succ n) h2
    have W := GoesN.zip2 (elts := elts) (x1 := kk) (pos := tpos) (zsep (j := 0) D1 D2) D1.d D2.d
    refine W.stops s _ E ⟨hz, hTI, ⟨_, _, hTO⟩, D1.st, D2.st⟩ fun h' tk hk _ => ?_
    exact I.turnedL (t' := tk) (ch := [n + 4, n + 3, n, n + 1]) hk fun c hcm => hf c (by
      have q : c = n + 4 ∨ c = n + 3 ∨ c = n ∨ c = n + 1 := by simpa using hcm
      rcases q with rfl | rfl | rfl | rfl <;> simp)
  self := fun A i s Q E st h => wpAny_pyIter_zip st.1 h
def gZip (K : PySem.W.Frag) (ta : TA) : TI := fun σ H R => ta σ H fun vs H1 => ∃ (c1 c2 : Sc) (xs ys : List V), vs = [c1.v, c2.v] ∧ c1.has K H1 xs ∧ c2.has K H1 ys ∧ R (Itzg K c1 c2) H1
theorem pi_gzip {X : Cx} {e e2 : Expr} {ta : TA} {p pos tpos : Pos} {elts : List Expr} {kk : Nat} (hg : Gl X "zip") (hm : X.mg "zip" = none) (ha : PA X [e, e2] ta)
    (hs : starEach [e, e2] X.env = (false, eval e X.env) :: starEach [e2] X.env := by rfl) (hpl : (backTo pos (starEach [e2] X.env)).any (·.1) = false := by rfl) :
    PI X (.Tuple elts kk tpos) (.Call (.Name "zip" p) [e, e2] [] pos) (gZip X.K ta) := by
  constructor
  intro pins s σ H R I h
  refine Call_ ?_
  refine ld_blt I hg hm PyProof.Rows.boot_zip ?_
  refine PyProof.Rows.callWith_type1 ?_ hs hpl
  apply thn (ha.run pos pins s σ H _ I h)
  rintro us s1 ⟨vs, H1, I1, r1, c1, c2, xs, ys, rfl, hx, hy, q⟩
  obtain ⟨u1, u2, rfl, r1, r2⟩ := vals2 r1
  obtain ⟨o1, Hd1, B1, q1, b1, k1⟩ := c1.begins I1 hx r1
  obtain ⟨o2, Hd2, B2, q2, b2, k2⟩ := c2.begins I1 hy r2
  apply zip_begins2 B1 B2 q1 q2
  intro h' hz hTI hTO e1 e2 hsz hk
  apply wpAny_pyIter_zip hz
  refine ⟨_, zfp s1.heap.objs.size, zst c1 c2 s1.heap.objs.size, Itzg X.K c1 c2, H1, rfl, I1.kept (t' := s1.toks) hk, turn_zipg b1 b2, ⟨hz, hTI, ⟨_, _, hTO⟩, k1 _ _ e1, k2 _ _ e2⟩, fun c hcm => ?_, q⟩
  have hle : s1.heap.objs.size ≤ c := by
    have q : c = s1.heap.objs.size + 4 ∨ c = s1.heap.objs.size + 2 ∨ c = s1.heap.objs.size + 3 ∨ c = s1.heap.objs.size ∨ c = s1.heap.objs.size + 1 := by simpa using hcm
    rcases q with rfl | rfl | rfl | rfl | rfl
    · exact Nat.le_add_right _ _
    · exact Nat.le_add_right _ _
    · exact Nat.le_add_right _ _
    · exact Nat.le_refl _
    · exact Nat.le_add_right _ _
  exact I1.fpOk hle (I1.hok.fresh hle)
/-! ### list(text), text * n, isinstance, is -/
theorem vals_of_get : ∀ {xs : List V} {us : List Value}, xs.length = us.length → (∀ (j : Nat) (v : Value), us[j]? = some v → ∃ x, xs[j]? = some x ∧ RelV x v) → Vals xs us
  | [], [], _, _ => .nil
  | [], _ :: _, h, _ => by simp at h
  | _ :: _, [], h, _ => by simp at h
  | x :: xs, u :: us, h, k => by
    obtain ⟨y, ey, r⟩ := k 0 u rfl
    cases ey
    exact .cons r (vals_of_get (by simpa using h) fun j v e => k (j + 1) v e)
def gListA (K : PySem.W.Frag) : List V → Hp → VK → Prop := fun xs H Q => gList K xs H Q ∨ ∃ z : Str, xs = [.str z] ∧ z.length ≤ sizeLine ∧ ∀ l, H l = none → Q (.ref l) (upd H l (.lst (ones z)))
theorem call_glistA {X : Cx} (hc : X.calm = true) : CallR X (.type "list") (gListA X.K) := by
  intro pins s σ H xs us Q I r h
  rcases h with h | ⟨z, rfl, hz, q⟩
  · exact call_glist pins s σ H xs us Q I r h
  obtain ⟨u, rfl, ru⟩ := vals1 r
  obtain ⟨t, rfl⟩ := (show ∃ t, u = Value.str z t from ru)
  refine call_list_str (I.ok.hd hc) z t (fun h' tk acc c hk hS hacc => ?_) hz
  have hv : Vals (ones z) acc.toList := by
    refine vals_of_get (by rw [show acc.toList.length = acc.size from Array.length_toList, hacc.1]; exact (List.length_map _).trans Array.length_toList) fun j v e => ?_
    obtain ⟨c, u, hc', rfl⟩ := hacc.2 j v (by simpa using e)
    exact ⟨.str ⟨#[c]⟩, by simp [ones, hc'], ⟨u, rfl⟩⟩
  have hn : H s.heap.objs.size = none := I.hok.fresh (Nat.le_refl _)
  have new : ObjOk X.prog X.w (upd H s.heap.objs.size (.lst (ones z))) h' s.heap.objs.size (.lst (ones z)) :=
    ⟨Nat.le_trans (Nat.le_of_eq ((List.length_map _).trans Array.length_toList)) hz, acc.toList, c, hv, by simpa using hS⟩
  exact ⟨.ref _, _, I.laid (t' := tk) hk (Nat.le_refl _) new, rfl, q _ hn⟩
def gMulA : R2 := fun x y H Q => gMul x y H Q ∨ ∃ (z : Str) (n : Int), x = .str z ∧ y = .int n ∧ MulOk z n ∧ Q (.str (Txt.mul z n)) H
theorem op_gmulA {X : Cx} : OpR X (binaryOp .Mult) gMulA := by
  intro pins s σ H x y v u Q I rx ry h
  rcases h with h | ⟨z, n, rfl, rfl, hm, q⟩
  · exact op_gmul pins s σ H x y v u Q I rx ry h
  obtain ⟨t, rfl⟩ := (show ∃ t, v = Value.str z t from rx)
  obtain ⟨t2, rfl⟩ := (show ∃ t, u = Value.int n t from ry)
  exact SB.mul hm fun t' k => ⟨.str _, H, I.tok k, ⟨t', rfl⟩, q⟩
end GL

/-! G8: derived rules for G7's readings. -/
namespace GL
open PySem PySem.Spec L2
open SX (S)
local macro_rules | `(tactic| walk_at "mem") => `(tactic| (first | exact List.Mem.head _ | exact List.Mem.tail _ (List.Mem.head _) | exact List.Mem.tail _ (List.Mem.tail _ (List.Mem.head _)) | ((repeat (first | exact List.Mem.head _ | apply List.Mem.tail)); done)))
local macro_rules | `(tactic| walk_at "inl") => `(tactic| (first | exact InL.int _ | exact InL.str _ | exact InL.bl _ | exact InL.non | (refine InL.mem ?zm; walk_at "mem") | assumption))
local macro_rules | `(tactic| walk_at "inls") => `(tactic| (repeat (first | exact InLs.nil | (refine InLs.cons ?zi ?_; case zi => walk_at "inl"))))
local macro_rules | `(tactic| walk_at "set") => `(tactic| (simp only [wipe, List.set_cons_succ, List.set_cons_zero]; rfl))
local macro_rules | `(tactic| walk_at "tails") => `(tactic| (first | exact sub_refl | exact sub_tail sub_refl | exact sub_tail (sub_tail sub_refl) | exact sub_nil | ((repeat (first | exact sub_refl | apply sub_tail)); done)))
local macro_rules | `(tactic| walk_at "sub") => `(tactic| (first | walk_at "tails" | ((repeat (refine sub_cons ?zi ?_; case zi => walk_at "inl")); walk_at "tails")))
local macro_rules | `(tactic| walk_at "g1") => `(tactic| (first
  | with_reducible refine d_seq ?_
  | with_reducible refine d_asg ?_
  | ((with_reducible refine d_name (σ' := ?zs) ?zh ?_); (case zh => walk_at "set"))
  | ((with_reducible refine d_var (v := ?zs) ?zh ?_); (case zh => rfl))
  | with_reducible refine d_C ?_
  | with_reducible refine d_op ?_
  | with_reducible refine d_cons ?_
  | with_reducible refine d_nil ?_
  | with_reducible refine d_cb ?_
  | with_reducible refine d_g ?_
  | with_reducible refine d_ifS ?_
  | with_reducible refine d_test ?_
  | with_reducible refine d_bl ?_
  | with_reducible refine d_addI ?_
  | with_reducible refine d_I0 ?_
  | with_reducible refine d_ret ?_
  | with_reducible refine d_retN ?_
  | with_reducible refine d_next ?_
  | with_reducible refine d_drop ?_
  | with_reducible refine d_and ?_
  | with_reducible refine d_or ?_
  | with_reducible refine d_not ?_
  | with_reducible refine d_andV ?_
  | with_reducible refine d_orV ?_
  | with_reducible refine d_notV ?_
  | with_reducible refine d_tru ?_
  | with_reducible refine d_truB ?_
  | with_reducible refine d_tif ?_
  | with_reducible refine d_iteT ?_
  | with_reducible refine d_iteF ?_
  | with_reducible refine d_iteNT ?_
  | with_reducible refine d_iteNF ?_
  | with_reducible refine d_eqI ?_
  | with_reducible refine d_neI ?_
  | with_reducible refine d_eqS ?_
  | with_reducible refine d_neS ?_
  | with_reducible refine d_eqB ?_
  | with_reducible refine d_neB ?_
  | with_reducible refine d_isN ?_
  | with_reducible refine d_notN ?_
  | with_reducible refine d_bm ?_
  | with_reducible refine d_tyS ?_
  | with_reducible refine d_tyO ?_
  | with_reducible refine d_find3 ?_
  | with_reducible refine d_tup ?_
  | with_reducible refine d_lst ?_
  | with_reducible refine d_for ?_
  | with_reducible refine d_iRng1 ?_
  | with_reducible refine d_gIt ?_
  | with_reducible refine d_lc ?_
  | with_reducible refine d_yes ?_
  | with_reducible refine d_tSl ?_
  | with_reducible refine d_noPart ?_
  | with_reducible refine d_part ?_
  | with_reducible refine d_int ?_
  | ((with_reducible refine d_wipe ?zh ?_); (case zh => rfl))
  | ((with_reducible refine d_aug (v := ?zs) ?zh ?_); (case zh => rfl))
  | with_reducible refine d_ipI ?_
  | ((with_reducible refine d_set (σ' := ?zs) ?zh ?_); (case zh => walk_at "set"))))
local macro_rules | `(tactic| walk_at "go") => `(tactic| (repeat walk_at "g1"))
def kPar (i j : Nat) (vs : List V) (D : Ends) (σ : L2.St) (H1 : Hp) : Prop := ∃ v w, vs = [v, w] ∧ D.nx ((σ.set i (some v)).set j (some w)) H1
theorem dt_ones {K : PySem.W.Frag} {H : Hp} : ∀ cs : List Nat, DtAll K H (cs.map fun c => V.str ⟨#[c]⟩) (cs.map fun c => PyData.str ⟨#[c]⟩)
  | [] => .nil
  | c :: cs => .cons (.str _) (dt_ones cs)
/-- the name of the data's type (the plain ones) -/
def tyD : PyData → String
  | .none => "NoneType"
  | .bool _ => "bool"
  | .int _ => "int"
  | .str _ => "str"
  | .list _ => "list"
  | .tuple _ => "tuple"
  | _ => ""
theorem Dt.ty {K : PySem.W.Frag} {H : Hp} {x : V} {d : PyData} (h : Dt K H x d) : ∃ t, TyX K H x (.type t) ∧ t = tyD d := by
  cases h with
  | non => exact ⟨_, .base .non, rfl⟩
  | bl b => exact ⟨_, .base (.bl b), rfl⟩
  | int i => exact ⟨_, .base (.int i), rfl⟩
  | str x => exact ⟨_, .base (.str x), rfl⟩
  | lst e _ => exact ⟨_, .base (.lst e), rfl⟩
  | tup e _ =>
    rcases e with (e | ⟨o, e⟩) | ⟨o, its, n, e, c, _⟩
    · exact ⟨_, .base (.tup e), rfl⟩
    · exact ⟨_, .fTuple e, rfl⟩
    · exact ⟨_, .kTuple e c, rfl⟩
section
variable {K : PySem.W.Frag} {D0 : Hp} {R : Res} {l : List (V × PyData)} {σ : L2.St} {D : Ends} {Q : VK}
def kZip (K : PySem.W.Frag) (vs : List V) (H1 : Hp) (Ri : It → Hp → Prop) : Prop := ∃ (c1 c2 : Sc) (xs ys : List V), vs = [c1.v, c2.v] ∧ c1.has K H1 xs ∧ c2.has K H1 ys ∧ Ri (Itzg K c1 c2) H1
theorem d_gZip {ta : TA} {Ri : It → Hp → Prop} (k : RD K D0 R l (fun H => ta σ H fun vs H1 => kZip K vs H1 Ri)) : RD K D0 R l (fun H => gZip K ta σ H Ri) := k
theorem d_gcons {t : TG} {u : TGs} {v : V} {r : List V} {Qn : L2.St → Hp → Prop} (k : RD K D0 R l (fun H => t v σ H fun σ' H' => u r σ' H' Qn)) : RD K D0 R l (fun H => gCons t u (v :: r) σ H Qn) := fun N H A => ⟨v, r, rfl, k N H A⟩
theorem d_gnil {Qn : L2.St → Hp → Prop} (k : RD K D0 R l (Qn σ)) : RD K D0 R l (fun H => gNil [] σ H Qn) := fun N H A => ⟨rfl, k N H A⟩
/-- for a, b in zip(a tuple, a text) -/
theorem d_forZipTS {g : TGs} {tb : TS} {v : V} {z : Str} {ds : List PyData} (hv : InL l v (.tuple ds)) (P : Nat → Res → L2.St → List (V × PyData) → Prop) (hkeep : ∀ i R' σ' l', P i R' σ' l' → InL l' v (.tuple ds)) (h0 : P 0 R σ l)
    (hs : ∀ i d x c R' σ' l', ds[i]? = some d → z.cps.toList[i]? = some c → Dv x d → P i R' σ' l' → RD K D0 R' ((x, d) :: l') (fun H => g [x, .str ⟨#[c]⟩] σ' H fun σ2 H2 => tb { D with nx := Cont K D0 (P (i + 1)), ct := Cont K D0 (P (i + 1)), bk := D.nx } σ2 H2))
    (hd : ∀ R' σ' l', P (min ds.length z.cps.toList.length) R' σ' l' → RD K D0 R' l' (fun H => D.nx σ' H)) :
    RD K D0 R l (fun H => kZip K [v, .str z] H fun J H1 => ForK (gTup K 2 g) tb D σ J H1) := fun N H A => by
  obtain ⟨a, xs, rfl, ha, hd0⟩ := (A.dt hv).tuple
  have hl : ∀ {i R' σ' l' N' H'}, P i R' σ' l' → At K D0 R' l' N' H' → ∃ xs', SqT K H' a xs' ∧ DtAll K (off H' N') xs' ds := fun p A' => by
    obtain ⟨a', xs', e, h', d'⟩ := (A'.dt (hkeep _ _ _ _ p)).tuple
    cases e
    exact ⟨xs', same_sqT off_same h', d'⟩
  have lz : (ones z).length = z.cps.toList.length := List.length_map _
  refine ⟨.tup a, .txt z, xs, ones z, rfl, same_sqT off_same ha, rfl, fun i m σ H => m = min ds.length z.cps.toList.length - i ∧ i ≤ min ds.length z.cps.toList.length ∧ Cont K D0 (P i) σ H, ⟨_, rfl, Nat.zero_le _, R, l, N, h0, A⟩, ?_⟩
  rintro i m σ' H' ⟨rfl, hi, R', l', N', p, A'⟩
  obtain ⟨xs', hq, d'⟩ := hl p A'
  by_cases hlt : i < min ds.length z.cps.toList.length
  · have l1 : i < ds.length := by omega
    have l2 : i < z.cps.toList.length := by omega
    refine .inr ⟨⟨xs', ones z, hq, rfl, by rw [d'.len]; exact l1, by rw [lz]; exact l2⟩, Cont K D0 (P (i + 1)), fun σ2 H2 p => ⟨min ds.length z.cps.toList.length - (i + 1), by omega, rfl, hlt, p⟩, ?_⟩
    rintro u H2 ⟨T, x, y, rfl, hT, rfl, hx, hy⟩
    obtain ⟨d, e1, e2⟩ := d'.get (hx xs' hq)
    have ey := hy (ones z) rfl
    obtain ⟨c, hc⟩ : ∃ c, z.cps.toList[i]? = some c := ⟨_, List.getElem?_eq_getElem l2⟩
    have ey2 : y = .str ⟨#[c]⟩ := by
      rw [show (ones z)[i]? = (z.cps.toList[i]?).map (fun c => V.str ⟨#[c]⟩) from List.getElem?_map .., hc] at ey
      exact (Option.some.inj ey).symm
    subst ey2
    obtain ⟨A2, e⟩ := A'.new (.tup [x, .str ⟨#[c]⟩]) hT
    have e3 : Dt K (off (upd H' T (.tup [x, .str ⟨#[c]⟩])) N') x d := by
      have A3 := (A'.facts e2).new (.tup [x, .str ⟨#[c]⟩]) hT
      exact A3.1.dt (.mem List.mem_cons_self)
    have r := hs i d x c R' σ' l' e1 hc e2.dv p N' _ (A2.facts e3)
    exact ⟨T, [x, .str ⟨#[c]⟩], rfl, .inl (.inl upd_same), rfl, r⟩
  · have e : i = min ds.length z.cps.toList.length := by omega
    subst e
    exact .inl ⟨⟨xs', ones z, hq, rfl, by rw [d'.len, lz]⟩, hd R' σ' l' p N' H' A'⟩
/-! ### list(text), text * n, isinstance, is, a, b = .. -/
theorem d_listT {z : Str} (hz : z.length ≤ sizeLine) (k : ∀ v, RD K D0 R ((v, .list (z.cps.toList.map fun c => .str ⟨#[c]⟩)) :: l) (Q v)) : RD K D0 R l (fun H => gListA K [.str z] H Q) :=
  fun N H A => .inr ⟨z, rfl, hz, RD.new (fun D p _ e => .lst e (dt_ones _)) k N H A⟩
theorem d_mulIA {i j : Int} (c : CMul i j) (k : RD K D0 R l (Q (.int (i * j)))) : RD K D0 R l (fun H => gMulA (.int i) (.int j) H Q) := fun N H A => .inl (d_mulI c k N H A)
theorem mulN {cs : List Nat} {n : Nat} (h : cs.length * n ≤ 1000000) (hn : n ≤ 1000000) : MulOk (S cs) (n : Int) ∧ Txt.mul (S cs) (n : Int) = S (List.replicate n cs).flatten := by
  have hl : (S cs).length = cs.length := S_len cs
  have hc : (n : Int).toNat = n := rfl
  refine ⟨⟨?_, ?_, ?_⟩, ?_⟩
  · have h1 : ¬ ((n : Int) < -(2 ^ 63 : Int)) := by omega
    have h2 : ¬ ((n : Int) ≥ 2 ^ 63) := by omega
    rw [decide_eq_false h1, decide_eq_false h2]
    rfl
  · intro a _
    rw [hl]
    have hm : (cs.length : Int) * (n : Int) ≤ 2 ^ 63 - 1 := by
      have : ((cs.length * n : Nat) : Int) ≤ 1000000 := by omega
      rw [Int.natCast_mul] at this
      omega
    have := Int.le_ediv_of_mul_le (show (0 : Int) < n by omega) hm
    omega
  · intro _ _
    rw [hl, hc]
    have h3 : ¬ (cs.length * n > sizeLine) := Nat.not_lt.2 (Nat.le_trans (Nat.le_trans h (by decide)) line_big)
    exact decide_eq_false h3
  · unfold Txt.mul
    have hf : ∀ (m : Nat) (acc : List Nat), ((List.replicate m (S cs).cps).foldl (· ++ ·) acc.toArray) = (acc ++ (List.replicate m cs).flatten).toArray := by
      intro m
      induction m with
      | zero => intro acc; simp
      | succ m ih =>
        intro acc
        rw [List.replicate_succ, List.foldl_cons, List.replicate_succ, List.flatten_cons]
        have e : acc.toArray ++ (S cs).cps = (acc ++ cs).toArray := by
          show acc.toArray ++ cs.toArray = _
          simp
        rw [e, ih, List.append_assoc]
    rw [hc]
    by_cases h1 : (n : Int) < 1
    · rw [if_pos h1]
      have : n = 0 := by omega
      subst this
      rfl
    · rw [if_neg h1]
      by_cases h2 : ((n : Int) == 1 || (S cs).length == 0) = true
      · rw [if_pos h2]
        rcases Bool.or_eq_true_iff.1 h2 with q | q
        · have q2 : (n : Int) = 1 := by simpa using q
          have : n = 1 := by omega
          subst this
          simp
        · have : cs = [] := by
            rw [hl] at q
            exact List.length_eq_zero_iff.1 (by simpa using q)
          subst this
          simp
      · rw [if_neg h2]
        exact congrArg Str.mk (by simpa using hf n [])
theorem d_mulS {cs : List Nat} {n : Nat} (h : cs.length * n ≤ 1000000) (hn : n ≤ 1000000) (k : RD K D0 R l (Q (.str (S (List.replicate n cs).flatten)))) : RD K D0 R l (fun H => gMulA (.str (S cs)) (.int (n : Int)) H Q) :=
  fun N H A => .inr ⟨S cs, n, rfl, rfl, (mulN h hn).1, by rw [(mulN h hn).2]; exact k N H A⟩
theorem d_isB {a b : Bool} (k : RD K D0 R l (Q (.bl (decide (a = b))))) : RD K D0 R l (fun H => L2.rIsB (.bl a) (.bl b) H Q) := fun N H A => ⟨a, b, rfl, rfl, k N H A⟩
theorem d_notB {a b : Bool} (k : RD K D0 R l (Q (.bl (!decide (a = b))))) : RD K D0 R l (fun H => L2.rNotB (.bl a) (.bl b) H Q) := fun N H A => ⟨a, b, rfl, rfl, k N H A⟩
theorem d_par {i j : Nat} {ta : TA} (k : RD K D0 R l (fun H => ta σ H fun vs H1 => kPar i j vs D σ H1)) : RD K D0 R l (fun H => tPar i j ta D σ H) := k
theorem d_kPar {i j : Nat} {v w : V} (k : RD K D0 R l (fun H => D.nx ((σ.set i (some v)).set j (some w)) H)) : RD K D0 R l (fun H => kPar i j [v, w] D σ H) := fun N H A => ⟨v, w, rfl, k N H A⟩
/-- isinstance(x, T) -/
theorem d_isi {x : V} {d : PyData} {n : String} {b : Bool} (hx : InL l x d) (hk : ∀ t, t = tyD d → PySem.W.kitOne K (.type t) (.type n) = some b) (k : RD K D0 R l (Q (.bl b))) : RD K D0 R l (fun H => rIsi K [x, .ty n] H Q) := fun N H A => by
  obtain ⟨t, ht, e⟩ := (A.dH hx).ty
  exact ⟨x, .ty n, .type t, .type n, b, rfl, .ty n, ht, hk t e, k N H A⟩
theorem d_repr {x : V} {d : PyData} (hx : InL l x d) (h1 : d.showable = true) (h2 : d.depth ≤ 60) (h3 : d.shown.length ≤ sizeLine) (h4 : d.hasDict = false) (k : RD K D0 R l (Q (.str d.shown))) : RD K D0 R l (fun H => rRepr K [x] H Q) :=
  fun N H A => ⟨x, d, rfl, (A.dH hx).dp, h1, h4, h2, h3, k N H A⟩
theorem d_un {r : V → Hp → VK → Prop} {t : TE} (k : RD K D0 R l (fun H => t σ H fun x H1 => r x H1 Q)) : RD K D0 R l (fun H => tUn r t σ H Q) := k
theorem d_negI {i : Int} (k : RD K D0 R l (Q (.int (-i)))) : RD K D0 R l (fun H => gNeg (.int i) H Q) := fun N H A => ⟨i, rfl, k N H A⟩
theorem d_takeA {cs : List Nat} {n : Nat} (h : cs.length ≤ 1000000) (k : RD K D0 R l (Q (.str (S (cs.take n))))) : RD K D0 R l (fun H => gSl K (.str (S cs)) none (some (n : Int)) H Q) := by
  have e : cutS (S cs) none (some (n : Int)) = S (cs.take n) := by
    unfold cutS
    rw [HT.sIx_none, HT.sIx_nat, S_tl, S_len]
    by_cases hn : n ≤ cs.length
    · rw [Nat.min_eq_left hn]
      rfl
    · rw [Nat.min_eq_right (by omega), List.take_of_length_le (show cs.length ≤ n by omega)]
      show S ((cs.drop 0).take (cs.length - 0)) = S cs
      simp
  exact d_slS (by rw [S_len]; exact Nat.le_trans (Nat.le_trans h (by decide)) line_big) (by rw [e]; exact k)
theorem d_lcTup {v : V} {ds : List PyData} {g : TG} {tt : TT} {te : TE} {vs : List Nat} (hv : InL l v (.tuple ds)) (P : Nat → Res → List (V × PyData) → List PyData → Prop) (hkeep : ∀ i R' l' es, P i R' l' es → InL l' v (.tuple ds)) (h0 : P 0 R l [])
    (hs : ∀ i d x D R' l' es, ds[i]? = some d → Dv x d → P i R' l' es → RD K D0 (star (own K D es) R') ((x, d) :: l') (fun H => g x (wipe σ vs) H fun σ2 H2 => kWipe σ2 vs σ H2 fun H2 => tt σ2 H2 fun b H3 =>
      if b = true then te σ2 H3 fun y H4 => kItem D y H4 (ContC K D0 D (P (i + 1))) else ContC K D0 D (P (i + 1)) H3))
    (hd : ∀ v R' l' es, P ds.length R' l' es → RD K D0 R' ((v, .list es) :: l') (Q v)) :
    RD K D0 R l (fun H => wIt K v H fun J H1 => LcK g tt te vs σ Q J H1) := fun N H A => by
  obtain ⟨a, xs, rfl, ha, hd0⟩ := (A.dt hv).tuple
  have hl : ∀ {i D R' l' es N' H'}, P i R' l' es → At K D0 (star (own K D es) R') l' N' H' → ∃ xs', SqT K H' a xs' ∧ DtAll K (off H' N') xs' ds := fun p A' => by
    obtain ⟨a', xs', e, h', d'⟩ := (A'.dt (hkeep _ _ _ _ p)).tuple
    cases e
    exact ⟨xs', same_sqT off_same h', d'⟩
  refine .inr (.inl ⟨a, rfl, ⟨xs, same_sqT off_same ha⟩, fun D hD => ⟨fun i m H => m = ds.length - i ∧ i ≤ ds.length ∧ ContC K D0 D (P i) H, ⟨_, rfl, Nat.zero_le _, R, l, [], _, h0, A.newOwn hD .nil⟩, ?_⟩⟩)
  rintro i m H' ⟨rfl, hi, R', l', es, N', p, A'⟩
  obtain ⟨xs', hq, d'⟩ := hl p A'
  by_cases hlt : i < ds.length
  · have hx : i < xs'.length := by rw [d'.len]; exact hlt
    refine .inr ⟨⟨xs', xs'[i], hq, by simp [hx]⟩, ContC K D0 D (P (i + 1)), fun H2 p => ⟨ds.length - (i + 1), by omega, rfl, hlt, p⟩, ?_⟩
    rintro x H2 ⟨rfl, hy⟩
    obtain ⟨d, e1, e2⟩ := d'.get (hy xs' hq)
    exact hs i d x D R' l' es e1 e2.dv p N' _ (A'.facts e2)
  · have e : i = ds.length := by omega
    subst e
    obtain ⟨N2, A2⟩ := A'.freeze
    exact .inl ⟨⟨xs', hq, by rw [d'.len]; exact Nat.le_refl _⟩, hd (.ref D) R' l' es p N2 H' A2⟩
/-- signs of a text, each kept or not: any test that draws alone -/
theorem d_pickG {p : Addr} {cs : List Nat} {i j : Nat} {tt : TT} (ht : ∀ (R2 : Res) (σ2 : L2.St) (l2 : List (V × PyData)) (Qb : Bool → Hp → Prop), σ2[j]? = some (some (.ref p)) → (∀ b, RD K D0 (star R2 (star (pen K p) R)) l2 (Qb b)) → RD K D0 (star R2 (star (pen K p) R)) l2 (fun H => tt σ2 H Qb))
    (hl : cs.length ≤ 1000) (hp : (wipe σ [i])[j]? = some (some (.ref p))) (hi : i ≠ j) (hi2 : i < σ.length) (kk : ∀ (v : V) (ds : List Nat), ds.Sublist cs → RD K D0 (star (pen K p) R) ((v, .list (ds.map fun c => .str (S [c]))) :: l) (Q v)) :
    RD K D0 (star (pen K p) R) l (fun H => wIt K (.str (S cs)) H fun J H1 => LcK (gName i) tt (tVar i) [i] σ Q J H1) := by
  have hw' : ∀ v : V, wipe ((wipe σ [i]).set i (some v)) [i] = wipe σ [i] := fun v => by
    show ((σ.set i none).set i (some v)).set i none = σ.set i none
    rw [List.set_set, List.set_set]
  have h1 : ∀ v : V, ((wipe σ [i]).set i (some v))[j]? = some (some (.ref p)) := fun v => by
    rw [List.getElem?_set_ne hi]; exact hp
  have h2 : ∀ v : V, ((wipe σ [i]).set i (some v))[i]? = some (some v) := fun v => by
    rw [List.getElem?_set_self]
    rw [wipe_length]; exact hi2
  refine d_lcStr (fun n R' l' es => R' = star (pen K p) R ∧ l' = l ∧ ∃ ds : List Nat, es = ds.map (fun c => PyData.str (S [c])) ∧ ds.Sublist (cs.take n)) ?_ ?_ ?_
  · exact ⟨rfl, rfl, [], rfl, List.nil_sublist _⟩
  · rintro n c D R' l' es hc ⟨rfl, rfl, ds, rfl, hs⟩
    rw [S_tl] at hc
    have hdl : ds.length ≤ 1000 := Nat.le_trans hs.length_le (by rw [List.length_take]; omega)
    refine d_name rfl ?_
    refine d_wipe (hw' _) ?_
    refine ht _ _ _ _ (h1 _) fun b => ?_
    refine d_ite (fun _ => ?_) (fun _ => ?_)
    · refine d_var (h2 _) ?_
      refine d_item (l' := l') (d := .str (S [c])) (.str _) ?_ ?_ (by walk_at "sub")
      · rw [List.length_map]; exact Nat.lt_of_lt_of_le (by omega) line_big
      · refine ⟨rfl, rfl, ds ++ [c], by rw [List.map_append]; rfl, ?_⟩
        rw [List.take_succ, hc]
        exact hs.append (List.Sublist.refl _)
    · refine d_noItem (l' := l') ?_ (by walk_at "sub")
      refine ⟨rfl, rfl, ds, rfl, hs.trans ?_⟩
      rw [List.take_succ]
      exact List.sublist_append_left _ _
  · rintro v R' l' es ⟨rfl, rfl, ds, rfl, hs⟩
    rw [S_tl, List.take_length] at hs
    exact kk v ds hs
theorem d_positions {log pat : List Nat} {E : XK} (h1 : log.length ≤ 1000000) (h2 : pat.length ≤ 1000000) (k1 : ¬ pat.Sublist log → RD K D0 R l (Q .non))
    (k2 : ∀ (v : V) (ps : List Nat) (i : Nat), (∃ a, v = .ref a) → Gr log pat ps i → pat.Sublist log → RD K D0 R ((v, .tuple (ps.map fun (k : Nat) => .int k)) :: l) (Q v)) : RD K D0 R l (fun H => sp_positions K [.str (S log), .str (S pat)] H Q E) := by
  refine d_pure [.str (S log), .str (S pat)] (.cons (.str _) (.cons (.str _) .nil)) rfl ⟨log, pat, rfl, h1, h2⟩ fun v d hd hv => ?_
  obtain ⟨log', pat', e, h⟩ := hd
  cases e
  rcases h with ⟨rfl, hn⟩ | ⟨ps, i, rfl, hg, hs⟩
  · cases hv
    exact RD.forget (k1 hn)
  · exact k2 v ps i hv hg hs
theorem cutS_mid {cs : List Nat} {a b : Nat} : cutS (S cs) (some (a : Int)) (some (b : Int)) = S ((cs.drop a).take (b - a)) := by
  unfold cutS
  rw [HT.sIx_nat, HT.sIx_nat, S_tl, S_len]
  have e : (cs.drop (min a cs.length)).take (min b cs.length - min a cs.length) = (cs.drop a).take (b - a) := by
    by_cases ha : a ≤ cs.length
    · rw [Nat.min_eq_left ha]
      by_cases hb : b ≤ cs.length
      · rw [Nat.min_eq_left hb]
      · rw [Nat.min_eq_right (by omega), List.take_of_length_le (by rw [List.length_drop]; omega), List.take_of_length_le (by rw [List.length_drop]; omega)]
    · have h1 : min a cs.length = cs.length := Nat.min_eq_right (by omega)
      rw [h1, List.drop_of_length_le (Nat.le_refl _), List.drop_of_length_le (show cs.length ≤ a by omega)]
      simp
  rw [e]
theorem d_midS {cs : List Nat} {a b : Nat} (h : cs.length ≤ 1000000) (k : RD K D0 R l (Q (.str (S ((cs.drop a).take (b - a)))))) : RD K D0 R l (fun H => gSl K (.str (S cs)) (some (a : Int)) (some (b : Int)) H Q) :=
  d_slS (by rw [S_len]; exact Nat.le_trans (Nat.le_trans h (by decide)) line_big) (by rw [cutS_mid]; exact k)
theorem d_atS {cs : List Nat} {i : Int} {c : Nat} (h : cs.length ≤ 1000000) (hi : atI cs i = some c) (k : RD K D0 R l (Q (.str (S [c])))) : RD K D0 R l (fun H => rIx K (.str (S cs)) (.int i) H Q) :=
  d_ixS (by rw [S_len]; exact Nat.le_trans (Nat.le_trans h (by decide)) line_big) (by rw [S_tl]; exact hi) k
theorem depth_signs (cs : List Nat) : (PyData.list (cs.map fun c => PyData.str (S [c]))).depth ≤ 60 := by
  have h : PyData.depthAll (cs.map fun c => PyData.str (S [c])) = 0 := by
    induction cs with
    | nil => simp only [List.map_nil, PyData.depthAll]
    | cons c cs ih => simp only [List.map_cons, PyData.depthAll, PyData.depth, ih]; rfl
  simp only [PyData.depth, h]
  omega
theorem eqv_signs (cs : List Nat) : PyData.eqvAll (cs.map fun c => PyData.str (S [c])) (cs.map fun c => PyData.str (S [c])) = true := by
  induction cs with
  | nil => simp only [List.map_nil, PyData.eqvAll]
  | cons c cs ih => simp only [List.map_cons, PyData.eqvAll, PyData.eqv, ih, beq_self_eq_true, Bool.and_self]
end
end GL

/-! G9: own exceptions over ValueError with a field: what the head tells of them, raise, except as, the field. -/
namespace GL
open PySem PySem.Spec L2
open PyProof.Rows hiding St
/-! ### more that the head tells -/
def hookX (n : Nat) (fa : List He.Fa) (fn : List He.DefD) (ex : PySem.W.Frag → Bool) : PySem.W.Hook where
  α := He.AlD × Bool
  obs := fun s => (He.obsDG n fa fn s.heap.get?, ex (He.frG s.heap.get? (He.asD s.heap.get? n)))
  val := fun _ => (He.valD fn, true)
  says := fun _ h => ∃ K : PySem.W.Frag, K.In h ∧ He.SaysD fa fn K ∧ ex K = true
  of := fun _ _ e => ⟨_, He.frG_in, congrArg Prod.fst e, congrArg Prod.snd e⟩
  keeps := fun _ _ _ ⟨K, hK, c⟩ k => ⟨K, PySem.W.Frag.In.keeps hK k, c⟩
def obsX (n : Nat) (fa : List He.Fa) (fn : List He.DefD) (ex : PySem.W.Frag → Bool) (g : Addr → Option Obj) : He.AlD × Bool := (He.obsDG n fa fn g, ex (He.frG g (He.asD g n)))
theorem obsX_eq {n : Nat} {fa : List He.Fa} {fn : List He.DefD} {ex : PySem.W.Frag → Bool} {g : Addr → Option Obj} {s : Shared} (h : ∀ a, g a = s.heap.get? a) : obsX n fa fn ex g = (hookX n fa fn ex).obs s := by
  have e : g = s.heap.get? := funext h
  rw [e]
  rfl
def clsVE (K : PySem.W.Frag) (C : Addr) : Bool := match K.lookup C with
  | some ⟨.type "type", _, .cls cd, sl⟩ => (match cd.mro, sl.toList with
    | .ref D :: bm, [_, _, _, _, some (.builtin n), _] => (D == C && n == "ValueError.__new__") && ((!cd.hasDel && cd.hasDict) && PySem.HandSPX.refsVE bm)
    | _, _ => false)
  | _ => false
theorem clsVE_ok {K : PySem.W.Frag} {C : Addr} (h : clsVE K C = true) :
    ∃ nm q N bs bm sn sub ab col dd k0 k1 k2 k3 k5, K.lookup C = some (excClassObj nm q C N bs bm true sn sub ab col dd k0 k1 k2 k3 k5 "ValueError.__new__") ∧ PySem.HandSPX.refsVE bm = true := by
  unfold clsVE at h
  split at h
  · rename_i dd cd sl ho
    split at h
    · rename_i D bm k0 k1 k2 k3 n k5 e1 e2
      obtain ⟨nm, bs, mro, ns, qn, hd, sn, sub, ab, col, del⟩ := cd
      obtain ⟨sl⟩ := sl
      dsimp only at e1 e2 h
      subst e1 e2
      simp only [Bool.and_eq_true, beq_iff_eq, Bool.not_eq_true'] at h
      obtain ⟨⟨rfl, rfl⟩, ⟨rfl, rfl⟩, hb⟩ := h
      exact ⟨nm, qn, ns, bs, bm, sn, sub, ab, col, dd, k0, k1, k2, k3, k5, ho, hb⟩
    · cases h
  · cases h
/-- the class x (at C), over ValueError, keeps its one argument in the field n -/
structure ExT (K : PySem.W.Frag) (C fI : Addr) (n : Str) : Prop where
  T : OexC K C
  X : XfC K C
  no : PySem.W.findIn K (.ref C) n = some none
  iC : PySem.W.findIn K (.ref C) "__init__" = some (some (.ref fI))
  tI : PySem.W.typeIn K (.ref fI) = some (.type "function")
  te : PySem.W.exmOne K (.ref C) (.ref C) = some true
def exT (x n : Str) (K : PySem.W.Frag) : Bool :=
  (clsVE K (He.ga K x) && (xfB K (He.ga K x) && PySem.W.keepIn K (.ref (He.ga K x)))) &&
  ((decide (PySem.W.findIn K (.ref (He.ga K x)) "__setattr__" = some (some (.builtin "object.__setattr__"))) && decide (PySem.W.typeIn K (.ref (He.ga K x)) = some (.type "type"))) &&
  ((decide (PySem.W.findIn K (.ref (He.ga K x)) n = some none) && decide (PySem.W.findIn K (.ref (He.ga K x)) "__init__" = some (some (.ref (He.ma K (He.ga K x) "__init__"))))) &&
  (decide (PySem.W.typeIn K (.ref (He.ma K (He.ga K x) "__init__")) = some (.type "function")) && decide (PySem.W.exmOne K (.ref (He.ga K x)) (.ref (He.ga K x)) = some true))))
theorem exT_ok {K : PySem.W.Frag} {x n : Str} (h : exT x n K = true) : ExT K (He.ga K x) (He.ma K (He.ga K x) "__init__") n := by
  unfold exT at h
  simp only [Bool.and_eq_true, decide_eq_true_eq] at h
  obtain ⟨⟨h1, h2, h3⟩, ⟨h4, h5⟩, ⟨h6, h7⟩, h8, h9⟩ := h
  have X := xfB_ok h2
  exact ⟨⟨clsVE_ok h1, h4, X.exC, h5, h3⟩, X, h6, h7, h8, h9⟩
/-! ### its __init__ -/
def spInit (C : Addr) (n : Str) : Sp := fun vs H Q _ => ∃ a y, vs = [.ref a, y] ∧ H a = some (exo a C none) ∧ ∀ dx, H dx = none → dx ≠ a → Q .non (upd (upd H dx (exd dx [(n, y)])) a (exo a C (some dx)))
section
variable {P : Program} {w : World} {K : PySem.W.Frag} {mg : Str → Option Value} {base : Heap} {f C fI : Addr} {fd : FuncData} {n : Str}
theorem pure_init {vs : List V} {H : Hp} {Q : VK} {E : XK} {s1 s2 : Str} (T : ExT K C fI n) (h : spInit C n vs H Q E) :
    tOst K n (tVar 0) (tVar 1) { nx := fun _ H' => Q .non H', rt := Q } (start [s1, s2] vs) H := by
  obtain ⟨a, y, rfl, ha, k⟩ := h
  exact ⟨y, rfl, .ref a, rfl, a, C, rfl, T.T, T.no, .inl ⟨ha, fun dx hd ne => k dx hd ne⟩⟩
theorem len_init {vs : List V} {H : Hp} {Q : VK} {E : XK} (h : spInit C n vs H Q E) : vs.length = 2 := by
  obtain ⟨_, _, rfl, _⟩ := h
  rfl
end
section
variable {X : Cx} {C fI : Addr} {n x : Str} {W : WX} {fdI : FuncData} {ps : List Str} {e : Expr} {ta : TA} {p pos pos2 : Pos} {k : Nat}
def tRz (C : Addr) (n : Str) (W : WX) (ta : TA) : TS := fun _ σ H => tMkO C (spInit C n) [] ta σ H fun cls d H' => W cls d σ H'
theorem g_raise (T : ExT X.K C fI n) (F1 : FnOk X.prog X.w X.K X.mg X.base CX0 k fI fdI ps (spInit C n)) (hr : Room (k + 1) X.A) (hb : Binds X.K fdI ps []) (hc : X.calm = true) (tk : Takes X W) (hg : Gl X x) (hm : X.mg x = some (.ref C)) (ha : PA X [e] ta)
    (hdb : (x == ("__debug__" : Str)) = false := by decide) (he : starEach [e] X.env = (false, eval e X.env) :: starEach [] X.env := by rfl) (hpl : (backTo pos (starEach [] X.env)).any (·.1) = false := by rfl) :
    PS X (.Raise (some (.Call (.Name x p) [e] [] pos)) none pos2) (tRz C n W ta) :=
  ps_raise hc tk (pmk_oex T.T T.iC T.tI F1 hr hb .nil pass0 hg hm ha hdb he hpl)
end
/-! ### derived -/
/-- at dx: an exception's own fields -/
def xdo (dx : Addr) (fs : List (Str × V)) : Res where
  h := fun N D H => (∀ b, N b ↔ b = dx) ∧ H dx = some (.xd fs)
  st := fun ⟨e, h⟩ _ k => ⟨e, (k dx ((e dx).2 rfl)).trans h⟩
section
variable {K : PySem.W.Frag} {D0 : Hp} {R : Res} {l : List (V × PyData)} {σ : L2.St} {D : Ends} {Q : VK}
theorem At.newX {N : Addr → Prop} {H : Hp} (A : At K D0 R l N H) {p : Addr} {fs : List (Str × V)} (hp : H p = none) : At K D0 (star (xdo p fs) R) l (fun b => b = p ∨ N b) (upd H p (.xd fs)) := by
  have away : ∀ b, N b → b ≠ p := fun b hb z => A.nn b hb (z ▸ hp)
  have sm : Same (off H N) (off (upd H p (.xd fs)) fun b => b = p ∨ N b) := fun b u h => by
    by_cases hb : N b
    · unfold off at h
      rw [if_pos hb] at h
      cases h
    · rw [off_ne hb] at h
      have nb : b ≠ p := ne_of_none h hp
      have nn : ¬ (b = p ∨ N b) := fun z => z.elim nb hb
      rw [off_ne nn, upd_ne nb]
      exact h
  have rest : R.h N (off (upd H p (.xd fs)) fun b => b = p ∨ N b) (upd H p (.xd fs)) := R.st A.r sm fun b hb => upd_ne (away b hb)
  refine ⟨?_, ⟨fun b => b = p, N, fun b => Iff.rfl, fun b x y => away b y x, ⟨fun b => Iff.rfl, upd_same⟩, rest⟩, A.d0.trans sm, fun q hq => (A.f q hq).mono sm⟩
  intro b hb
  by_cases z : b = p
  · rw [z]
    exact ⟨_, upd_same, fun _ z => by cases z⟩
  · rw [upd_ne z]
    exact A.nt b (hb.resolve_left z)
theorem At.xd {N : Addr → Prop} {H : Hp} {p : Addr} {fs : List (Str × V)} (A : At K D0 (star (xdo p fs) R) l N H) : H p = some (.xd fs) := by
  obtain ⟨_, _, _, _, ⟨_, h⟩, _⟩ := A.r
  exact h
/-- the exception is forgotten -/
theorem At.dropX {N : Addr → Prop} {H : Hp} {p : Addr} {fs : List (Str × V)} (A : At K D0 (star (xdo p fs) R) l N H) : ∃ N', At K D0 R l N' H := by
  obtain ⟨N1, N2, e, dj, ⟨e1, hx⟩, h2⟩ := A.r
  have sm : Same (off H N) (off H N2) := fun b u h => by
    by_cases hb : N b
    · unfold off at h
      rw [if_pos hb] at h
      cases h
    · rw [off_ne hb] at h
      rw [off_ne fun z => hb ((e b).2 (.inr z))]
      exact h
  exact ⟨N2, fun b hb => A.nt b ((e b).2 (.inr hb)), R.st h2 sm fun _ _ => rfl, A.d0.trans sm, fun q hq => (A.f q hq).mono sm⟩
theorem RD.dropX {p : Addr} {fs : List (Str × V)} {T : Hp → Prop} (k : RD K D0 R l T) : RD K D0 (star (xdo p fs) R) l T := fun N H A => by
  obtain ⟨N', A'⟩ := A.dropX
  exact k N' H A'
def kRz (C : Addr) (n : Str) (vs : List V) (H1 : Hp) (Q : XK) : Prop := vs.length ≤ 1000 ∧ ∀ a, H1 a = none → spInit C n (.ref a :: (vs ++ [])) (upd H1 a (exo a C none))
  (fun v H2 => v = .non ∧ ∃ (d : Addr) (fs : List (Str × V)), H2 a = some (exo a C (some d)) ∧ H2 d = some (exd d fs) ∧ H1 d = none ∧ Q (.ref C) (some d) (upd (del H2 a) d (.xd fs))) (fun _ _ _ => False)
theorem d_rz {C : Addr} {n : Str} {W : WX} {ta : TA} (k : RD K D0 R l (fun H => ta σ H fun vs H1 => kRz C n vs H1 fun cls d H' => W cls d σ H')) : RD K D0 R l (fun H => tRz C n W ta D σ H) := k
theorem d_kRz {C : Addr} {n : Str} {v : V} {Qx : XK} (k : ∀ d, RD K D0 (star (xdo d [(n, v)]) R) l (Qx (.ref C) (some d))) : RD K D0 R l (fun H => kRz C n [v] H Qx) := fun N H A => by
  refine ⟨Nat.le_of_lt (show 1 < 1000 by decide), fun a ha => ⟨a, v, rfl, upd_same, fun dx hd ne => ⟨rfl, dx, [(n, v)], upd_same, ?_, ?_, ?_⟩⟩⟩
  · rw [upd_ne ne, upd_same]
  · rw [upd_ne ne] at hd
    exact hd
  · have hd' : H dx = none := by rw [upd_ne ne] at hd; exact hd
    have e : upd (del (upd (upd (upd H a (exo a C none)) dx (exd dx [(n, v)])) a (exo a C (some dx))) a) dx (.xd [(n, v)]) = upd H dx (.xd [(n, v)]) := by
      funext b
      by_cases h1 : b = dx
      · rw [h1, upd_same, upd_same]
      · rw [upd_ne h1, upd_ne h1]
        by_cases h2 : b = a
        · rw [h2, del_same, ha]
        · rw [del_ne h2, upd_ne h2, upd_ne h1, upd_ne h2]
    rw [e]
    exact k dx _ _ (A.newX hd')
/-- e.n in the suite -/
theorem d_xf {a C dd : Addr} {n : Str} {v : V} {te : TE} (h : ∀ {N H}, At K D0 (star (xdo dd [(n, v)]) R) l N H → True) (k : RD K D0 (star (xdo dd [(n, v)]) R) l (Q v)) (hx : ∀ {Q' : VK}, RD K D0 (star (xdo dd [(n, v)]) R) l (Q' (.ref a)) → RD K D0 (star (xdo dd [(n, v)]) R) l (fun H => te σ H Q')) :
    RD K D0 (star (xdo dd [(n, v)]) R) l (fun H => tXf a (.ref C) (some dd) C n te σ H Q) :=
  hx (Q' := fun x H1 => x = .ref a ∧ Value.ref C = .ref C ∧ ∃ (d2 : Addr) (fs : List (Str × V)) (v : V), some dd = some d2 ∧ H1 d2 = some (.xd fs) ∧ fs.lookup n = some v ∧ Q v H1)
    fun N H A => ⟨rfl, rfl, dd, [(n, v)], v, rfl, A.xd, by simp [List.lookup], k N H A⟩
end
end GL

/-! G10: repr of data or of an empty dict; try in readings. -/
namespace GL
open PySem PySem.Spec L2
open PyProof.Rows hiding St
def gShow (K : PySem.W.Frag) : List V → Hp → VK → Prop := fun vs H Q => rRepr K vs H Q ∨ ∃ a, vs = [.ref a] ∧ H a = some (.dK []) ∧ Q (.str "{}") H
theorem call_show {X : Cx} (hg : NoG X.A) (hu : X.A.units + 64 < cLine) : CallR X (.builtin "repr") (gShow X.K) := by
  intro pins s σ H xs us Q I r h
  rcases h with h | ⟨a, rfl, ha, q⟩
  · exact call_repr hg hu pins s σ H xs us Q I r h
  obtain ⟨u, rfl, ru⟩ := vals1 r
  cases (show u = Value.ref a from ru)
  obtain ⟨_, hm, vs, kv, o, es, ep, e1, e2, e3, e4⟩ := (show ObjOk X.prog X.w H s.heap a (.dK []) from I.hok a _ ha)
  have ev : vs = [] := by cases kv; rfl
  subst ev
  have ee : es.toList = [] := by
    have z := e4.2.1
    generalize es.toList = es' at z ⊢
    cases es' with
    | nil => rfl
    | cons x r => cases z
  have rd : Reads s.heap (.ref a) (.dict []) [a] := .dict (kvs := []) (as := []) (bs := []) e1 e2.1 e3 (by rw [ee]; exact ReadsAll.nil) (by rw [ee]; exact ReadsAll.nil)
  have sh : (PyData.dict []).shown = "{}" := by decide +kernel
  have dz : (PyData.dict []).depth ≤ 60 := by decide +kernel
  refine repr_of_reads' rd (by decide +kernel) (fun _ z => ?_) hg (by omega) (fun _ _ z => z) (fun h' t tk k => ?_) (by rw [sh]; exact Nat.le_trans (by decide) line_big)
  · have z' : sysModules = a := by simpa using z
    rw [← z'] at hm
    simp at hm
  · rw [sh]
    exact ⟨.str "{}", H, I.kept (t' := tk) k, ⟨t, rfl⟩, q⟩
def tTry (K : PySem.W.Frag) (C : Addr) (i : Nat) (tb : WX → TS) (ts : Addr → Value → Option Addr → TS) (W : WX) : TS := fun D σ H => tb (wAs K (.ref C) i ts W D) D σ H
/-- at p: this object, and nothing else is said of it -/
def fxo (p : Addr) (o : HO) : Res where
  h := fun N D H => (∀ b, N b ↔ b = p) ∧ H p = some o
  st := fun ⟨e, h⟩ _ k => ⟨e, (k p ((e p).2 rfl)).trans h⟩
section
variable {K : PySem.W.Frag} {D0 : Hp} {R : Res} {l : List (V × PyData)} {σ : L2.St} {D : Ends} {Q : VK}
theorem d_try {C : Addr} {i : Nat} {tb : WX → TS} {ts : Addr → Value → Option Addr → TS} {W : WX} (k : RD K D0 R l (fun H => tb (wAs K (.ref C) i ts W D) D σ H)) : RD K D0 R l (fun H => tTry K C i tb ts W D σ H) := k
theorem d_caught {C d : Addr} {i : Nat} {ts : Addr → Value → Option Addr → TS} {W : WX} (te : PySem.W.exmOne K (.ref C) (.ref C) = some true)
    (k : ∀ a, RD K D0 R l (fun H => ts a (.ref C) (some d) { nx := fun σ' H' => D.nx (σ'.set i none) H', rt := D.rt, bk := fun σ' H' => D.bk (σ'.set i none) H', ct := fun σ' H' => D.ct (σ'.set i none) H' } (σ.set i (some (.ref a))) H)) :
    RD K D0 R l (fun H => wAs K (.ref C) i ts W D (.ref C) (some d) σ H) := fun N H A => ⟨true, te, fun _ a _ => k a N H A, fun z => by cases z⟩
def kXf (a : Addr) (cls : Value) (d : Option Addr) (C : Addr) (f : Str) (x : V) (H1 : Hp) (Q : VK) : Prop := x = .ref a ∧ cls = .ref C ∧ ∃ (dd : Addr) (fs : List (Str × V)) (v : V), d = some dd ∧ H1 dd = some (.xd fs) ∧ fs.lookup f = some v ∧ Q v H1
theorem d_tXf {a : Addr} {cls : Value} {d : Option Addr} {C : Addr} {f : Str} {te : TE} (k : RD K D0 R l (fun H => te σ H fun x H1 => kXf a cls d C f x H1 Q)) : RD K D0 R l (fun H => tXf a cls d C f te σ H Q) := k
theorem d_kXf {a C dd : Addr} {n : Str} {v : V} (k : RD K D0 (star (xdo dd [(n, v)]) R) l (Q v)) : RD K D0 (star (xdo dd [(n, v)]) R) l (fun H => kXf a (.ref C) (some dd) C n (.ref a) H Q) :=
  fun N H A => ⟨rfl, rfl, dd, [(n, v)], v, rfl, A.xd, by simp [List.lookup], k N H A⟩
theorem d_show {v : V} {z : Str} (h : ∀ (N : Addr → Prop) (H : Hp) (Q' : VK), At K D0 R l N H → Q' (.str z) H → gShow K [v] H Q') (k : RD K D0 R l (Q (.str z))) : RD K D0 R l (fun H => gShow K [v] H Q) := fun N H A => h N H Q A (k N H A)
theorem d_ty {v : V} {t n : String} {b : Bool} (h : ∀ (N : Addr → Prop) (H : Hp), At K D0 R l N H → TyX K H v (.type t)) (hk : PySem.W.kitOne K (.type t) (.type n) = some b) (k : RD K D0 R l (Q (.bl b))) : RD K D0 R l (fun H => rIsi K [v, .ty n] H Q) :=
  fun N H A => ⟨v, .ty n, .type t, .type n, b, rfl, .ty n, h N H A, hk, k N H A⟩
theorem At.newF {N : Addr → Prop} {H : Hp} (A : At K D0 R l N H) {p : Addr} {o : HO} (ho : NotTup o) (hp : H p = none) : At K D0 (star (fxo p o) R) l (fun b => b = p ∨ N b) (upd H p o) := by
  have away : ∀ b, N b → b ≠ p := fun b hb z => A.nn b hb (z ▸ hp)
  have sm : Same (off H N) (off (upd H p o) fun b => b = p ∨ N b) := fun b u h => by
    by_cases hb : N b
    · unfold off at h
      rw [if_pos hb] at h
      cases h
    · rw [off_ne hb] at h
      have nb : b ≠ p := ne_of_none h hp
      have nn : ¬ (b = p ∨ N b) := fun z => z.elim nb hb
      rw [off_ne nn, upd_ne nb]
      exact h
  have rest : R.h N (off (upd H p o) fun b => b = p ∨ N b) (upd H p o) := R.st A.r sm fun b hb => upd_ne (away b hb)
  refine ⟨?_, ⟨fun b => b = p, N, fun b => Iff.rfl, fun b x y => away b y x, ⟨fun b => Iff.rfl, upd_same⟩, rest⟩, A.d0.trans sm, fun q hq => (A.f q hq).mono sm⟩
  intro b hb
  by_cases z : b = p
  · rw [z]
    exact ⟨_, upd_same, ho⟩
  · rw [upd_ne z]
    exact A.nt b (hb.resolve_left z)
theorem At.fx {N : Addr → Prop} {H : Hp} {p : Addr} {o : HO} (A : At K D0 (star (fxo p o) R) l N H) : H p = some o := by
  obtain ⟨_, _, _, _, ⟨_, h⟩, _⟩ := A.r
  exact h
theorem At.second {N : Addr → Prop} {H : Hp} {P S : Res} (A : At K D0 (star P (star S R)) l N H) : ∃ N', S.h N' (off H N) H := by
  obtain ⟨_, _, _, _, _, _, N2, _, _, h, _⟩ := A.r
  exact ⟨_, h⟩
theorem At.third {N : Addr → Prop} {H : Hp} {P S U : Res} (A : At K D0 (star P (star S (star U R))) l N H) : ∃ N', U.h N' (off H N) H := by
  obtain ⟨_, _, _, _, _, _, _, _, _, _, _, N2, _, _, h, _⟩ := A.r
  exact ⟨_, h⟩
/-- {} -/
theorem d_dnewP {P : Res} (k : ∀ q, RD K D0 (star P (star (fxo q (.dK [])) R)) l (Q (.ref q))) : RD K D0 (star P R) l (fun H => tDNewK σ H Q) := fun N H A q hq => RD.rot (k q) _ _ (A.newF (fun _ z => by cases z) hq)
/-- a list that is only indexed -/
theorem d_newV {P : Res} {vs : List V} (hl : vs.length ≤ sizeLine) (k : ∀ a, RD K D0 (star P (star (fxo a (.lst vs)) R)) l (Q (.ref a))) : RD K D0 (star P R) l (fun H => kLst vs H Q) := fun N H A => ⟨hl, fun a ha => RD.rot (k a) _ _ (A.newF (fun _ z => by cases z) ha)⟩
theorem d_ixV {P : Res} {a : Addr} {vs : List V} {n : Int} {v : V} (hv : atI vs n = some v) (k : RD K D0 (star P (star (fxo a (.lst vs)) R)) l (Q v)) : RD K D0 (star P (star (fxo a (.lst vs)) R)) l (fun H => rIx K (.ref a) (.int n) H Q) := fun N H A => by
  obtain ⟨_, _, h⟩ := A.second
  exact .inl ⟨a, vs, n, v, rfl, rfl, SqL.of h, hv, k N H A⟩
end
end GL

/-! G11: own exceptions with one field over any plain built-in error. -/
namespace PySem
namespace GLX
open PySem.W PySem.Calls PyProof.Rows PySem.HandSPX
section
open Builtin Builtin.ObjectAttr
variable {prog : Program} {w : World} {A : Around} {E : Value → Shared → Prop} {R : Result → Shared → Prop} {hp : Heap} {g : Array GenState} {d : Drawn} {t : Nat} {os : OsState} {B : String} {bmB : List Value}
theorem tail_some {l : List Value} (SF : StoreFacts B bmB "object.__setattr__" "object") (e : excTail bmB l = true) : l.isEmpty = false := by
  cases l with
  | cons x r => rfl
  | nil =>
    have z : ([] : List Value) = bmB := beq_iff_eq.mp e
    have h := SF.hasOwner
    rw [← z] at h
    exact absurd h (by decide)
/-- the first field of a fresh exception -/
theorem first_store {K : W.Frag} {f : Str} {tk : Tok} {v : Value} {x C : Addr} {fv : Array Value} {cd : ClassData} (SF : StoreFacts B bmB "object.__setattr__" "object") (KI : K.In hp)
    (hx : hp.get? x = some { cls := .ref C, data := .fields fv }) (hcd : W.clsIn K C = some cd) (tl : excTail bmB cd.mro = true) (dct : cd.hasDict = true) (own : W.findIn K (.ref C) f = some none)
    (k : ∀ h2 tk2 dx, (∀ b o, b ≠ x → hp.get? b = some o → h2.get? b = some o) → hp.objs.size ≤ dx → dx ≠ x →
      h2.get? x = some { cls := .ref C, dict := some dx, data := .fields fv } → h2.Ns1 dx (fun y => if y = f then some v else none) → R (.ok (.ret .none)) ⟨h2, g, d, tk2, os⟩) :
    codeAny (model prog w) A (.call (.builtin "object.__setattr__") ⟨[.ref x, .str f tk, v], []⟩) R ⟨hp, g, d, t, os⟩ := by
  have at_ : W.InstAt hp x { cls := .ref C, data := .fields fv } C none :=
    ⟨hx, rfl, rfl, trivial⟩
  have obj : cd.mro.contains (.type "object") = true :=
    (excTail_contains "object" _ tl).trans SF.hasOwner
  have x_old : x ≠ hp.objs.size :=
    Nat.ne_of_lt (Heap.lt_size hx)
  have inM : W.mroIn K C (.type "object") = some true := by
    unfold W.mroIn
    rw [hcd, Option.bind_some, if_neg (by rw [tail_some SF tl]; decide), obj]
  have isO : W.Looks (model prog w) hp (isInstance (.ref x) (.type "object")) true :=
    at_.type.andThen (W.looks_mroIn KI inM)
  have OF := F.store_object
  apply codeAny_call_builtin OF.slot.plain OF.entry
  apply @W.check_slot (model prog w) _ _ ⟨hp, g, d, t, os⟩ "object.__setattr__" "object" "__setattr__" (.ref x) [.str f tk, v] [] _ OF.kind OF.split isO (OF.args (.ref x) (.str f tk) v)
  have mr : W.Looks (model prog w) hp (mroOf (.ref C)) cd.mro :=
    (W.looks_clsIn KI hcd).andThen .now
  have tk0 : W.Looks (model prog w) hp (storeTaker? none) none :=
    .now
  have cl : W.Looks (model prog w) hp (classData C) cd :=
    W.looks_clsIn KI hcd
  rw [W.osa_eq, refuse_eq]
  apply wpAny_bind
  apply wpAny_bind
  apply at_.type.at
  apply wpAny_bind
  apply mr.at
  rw [excTail_pass _ (SF.passes _) _ tl]
  apply wpAny_pure
  apply wpAny_bind
  apply at_.type.at
  apply wpAny_bind
  apply (W.looks_findIn KI own).at
  apply wpAny_bind
  apply tk0.at
  show wpAny _ _ (storeInOwnDict (.ref x) (.ref C) (.str f tk) f v false) _ _ _
  obtain ⟨c1, c2, c3, c4, c5, c6, c7, c8, c9, c10, c11⟩ := cd
  have dct : c6 = true := dct
  subst dct
  unfold storeInOwnDict
  unfold ownDictForStores
  repeat (first
    | with_reducible refine store_in_new ?_ ?_
    | with_reducible refine wpAny_loadPart_at hx ?_
    | with_reducible refine cl.at ?_
    | wp_step)
  · have here : ((hp.push { cls := .type "dict", data := .dict #[] }).get? hp.objs.size) = some { cls := .type "dict", data := .dict #[] } :=
      Heap.get?_push_at rfl rfl
    exact ⟨_, #[], _, (Heap.get?_update_ne _ _ _ _ x_old.symm).trans here, rfl, fun e he => absurd he (by simp), fun _ => rfl⟩
  · intro h2 tk2 nsx same
    have hx2 : (hp.push { cls := .type "dict", data := .dict #[] }).get? x = some { cls := .ref C, data := .fields fv } :=
      Heap.get?_push_of_some _ hx
    have upx := Heap.get?_update_self (fun o => { o with dict := some hp.objs.size }) hx2 rfl
    refine k h2 tk2 hp.objs.size (fun b o hb ho => ?_) (Nat.le_refl _) x_old.symm ?_ nsx
    · have old := Heap.get?_push_of_some { cls := .type "dict", data := .dict #[] } ho
      exact (same.2 b (Nat.ne_of_lt (Heap.lt_size ho))).trans ((Heap.get?_update_ne _ _ _ _ hb).trans old)
    · exact (same.2 x x_old).trans upx
end
end GLX
end PySem
namespace GL
open PySem PySem.Spec L2
open PyProof.Rows hiding St
/-- the class at C over the built-in error B (mro bmB), one field n kept by its own __init__ at fI -/
structure ExB (B newId : String) (bmB : List Value) (K : PySem.W.Frag) (C fI : Addr) (n : Str) : Prop where
  cls : ∃ nm q N bs bm sn sub ab col dd k0 k1 k2 k3 k5, K.lookup C = some (excClassObj nm q C N bs bm true sn sub ab col dd k0 k1 k2 k3 k5 newId) ∧ PySem.W.excTail bmB bm = true
  sa : PySem.W.findIn K (.ref C) "__setattr__" = some (some (.builtin "object.__setattr__"))
  tyC : PySem.W.typeIn K (.ref C) = some (.type "type")
  kC : PySem.W.keepIn K (.ref C) = true
  X : XfC K C
  no : PySem.W.findIn K (.ref C) n = some none
  iC : PySem.W.findIn K (.ref C) "__init__" = some (some (.ref fI))
  tI : PySem.W.typeIn K (.ref fI) = some (.type "function")
  te : PySem.W.exmOne K (.ref C) (.ref C) = some true
theorem ExB.data {B newId : String} {bmB : List Value} {K : PySem.W.Frag} {C fI : Addr} {n : Str} (T : ExB B newId bmB K C fI n) : ∃ cd, PySem.W.clsIn K C = some cd ∧ PySem.W.excTail bmB cd.mro = true ∧ cd.hasDict = true := by
  obtain ⟨nm, q, N, bs, bm, sn, sub, ab, col, dd, k0, k1, k2, k3, k5, e, tl⟩ := T.cls
  refine ⟨_, by unfold PySem.W.clsIn; rw [e], ?_, rfl⟩
  exact tl
section
variable {X : Cx} {pins : List (Addr × Obj)} {σ : L2.St} {H : Hp} {s : Shared} {a C fI : Addr} {n : Str} {B newId initId : String} {bmB : List Value}
theorem ostB {y : V} {u : Value} {Q : Unit → Shared → Prop} {E : Value → Shared → Prop} {A : Around} (SF : StoreFacts B bmB "object.__setattr__" "object") (T : ExB B newId bmB X.K C fI n) (I : Inv X pins σ H s) (ha : H a = some (exo a C none)) (ry : RelV y u)
    (k : ∀ dx s', H dx = none → dx ≠ a → Inv X pins σ (upd (upd H dx (exd dx [(n, y)])) a (exo a C (some dx))) s' → Q () s') : wpAny (model X.prog X.w) A (setAttr (.ref a) n u) Q E s := by
  obtain ⟨cd, hcd, tl, dct⟩ := T.data
  obtain ⟨t1, at_a⟩ := exo_at I.hok ha
  obtain ⟨hp, g, d, t, os⟩ := s
  apply PySem.W.set_plain I.kIn (ox := { cls := .ref C, dict := none, data := .fields #[.ref t1, .none, .none, .none, .bool false, .none] }) (od := none) ⟨at_a, rfl, rfl, trivial⟩ T.sa
  apply PySem.GLX.first_store SF I.kIn at_a hcd tl dct T.no
  intro h2 tk2 dx keep ge ne hx2 ns2
  have fr : H dx = none := I.hok.fresh ge
  have nx : ∀ {b : Addr} {o : Obj}, hp.get? b = some o → b ≠ dx :=
    fun q => Nat.ne_of_lt (Nat.lt_of_lt_of_le (Heap.lt_size q) ge)
  have off_a : ∀ {b : Addr}, H b = none → b ≠ a := fun z q => by
    subst q
    rw [ha] at z
    cases z
  have new_at : ∀ {b : Addr} {o : HO}, H b = some o → o ≠ exo a C none → upd (upd H dx (exd dx [(n, y)])) a (exo a C (some dx)) b = some o := fun {b o} q z => by
    have hb : b ≠ a := fun e => z (by subst e; exact Option.some.inj (q.symm.trans ha))
    rw [upd_ne hb, upd_ne (ne_of_none q fr)]
    exact q
  have U : Un X.fs [] H (upd (upd H dx (exd dx [(n, y)])) a (exo a C (some dx))) hp h2 := by
    constructor
    · intro b o q z _ _
      exact keep b o (off_a z) q
    · intro b o q z _ _
      exact ⟨o.slots, keep b o (off_a z) q⟩
    · intro b o q z _
      rw [upd_ne (off_a z), upd_ne (nx q)]
      exact z
    · intro b o q _
      by_cases hb : b = a
      · subst hb
        exact ⟨_, hx2⟩
      · exact ⟨o, keep b o hb q⟩
    · intro b xs q
      exact new_at q (Ne.symm exo_tup)
    · intro b o xs q
      exact new_at q (Ne.symm exo_frz)
    · intro b ps q
      exact ⟨#[], by simpa using new_at q (Ne.symm exo_tbl)⟩
  refine k dx _ fr ne (I.un (t' := tk2) U fun b o q => ?_)
  by_cases hb : b = a
  · subst hb
    rw [upd_same] at q
    cases q
    exact exo_ok hx2
  rw [upd_ne hb] at q
  by_cases hd : b = dx
  · subst hd
    rw [upd_same] at q
    cases q
    exact exd_ok ns2 (relO_put (fs := []) ry fun _ => trivial)
  rw [upd_ne hd] at q
  refine (I.hok b o q).stay (fun c v hc z => keep c v ?_ z) (fun c hc => new_at hc (Ne.symm exo_own)) fun c xs hc => new_at hc (Ne.symm exo_tup)
  rcases hc with rfl | hc
  · exact hb
  · exact fun e => by
      subst e
      exact exo_own (Option.some.inj (ha.symm.trans hc))
def tOstB (K : PySem.W.Frag) (C : Addr) (n : Str) (to te : TE) : TS := fun D σ H => te σ H fun y H1 => to σ H1 fun x H2 => ∃ a, x = .ref a ∧ H2 a = some (exo a C none) ∧
  ∀ dx, H2 dx = none → dx ≠ a → D.nx σ (upd (upd H2 dx (exd dx [(n, y)])) a (exo a C (some dx)))
theorem ps_ostB {o e : Expr} {to te : TE} {p' pos : Pos} (SF : StoreFacts B bmB "object.__setattr__" "object") (T : ExB B newId bmB X.K C fI n) (ho : PE X o to) (he : PE X e te) (hs : swapsWith e (some (.Attribute o n p')) pos.line X.env = pure false := by rfl) :
    PS X (.Assign [.Attribute o n p'] e pos) (tOstB X.K C n to te) := by
  constructor
  intro pins s σ H D I h
  refine plainObj_wpAny_Assign_Attribute (thn (he.run pins s σ H _ I h) ?_) hs
  rintro v s1 ⟨y, H1, I1, r1, q1⟩
  refine thn (ho.run pins s1 σ H1 _ I1 q1) ?_
  rintro u s2 ⟨x, H2, I2, r2, a, rfl, ha, q⟩
  obtain rfl : u = Value.ref a := r2
  exact ostB SF T I2 ha r1 fun dx s' hd ne J => ⟨σ, _, J, q dx hd ne⟩
/-- C(e, ..), C's own __init__ keeping sp -/
theorem pmkB {CX : CXT} {x : Str} {k : Nat} {fdI : FuncData} {ps : List Str} {sp : Sp} {e : Expr} {es : List Expr} {ta : TA} {p pos : Pos} (FB : ExcBaseFacts B newId initId bmB) (T : ExB B newId bmB X.K C fI n) (F1 : FnOk X.prog X.w X.K X.mg X.base CX k fI fdI ps sp)
    (hr : Room (k + 1) X.A) (hb : Binds X.K fdI ps []) (hx : Passes CX X (fun _ _ _ => False)) (hg : Gl X x) (hm : X.mg x = some (.ref C)) (ha : PA X (e :: es) ta)
    (hdb : (x == ("__debug__" : Str)) = false := by decide) (he : starEach (e :: es) X.env = (false, eval e X.env) :: starEach es X.env := by rfl) (hpl : (backTo pos (starEach es X.env)).any (·.1) = false := by rfl) :
    PMk X (.Call (.Name x p) (e :: es) [] pos) (tMkO C sp [] ta) := by
  intro pins s σ H Q I h
  obtain ⟨nm, q, N, bs, bm, sn, sub, ab, col, dd, k0, k1, k2, k3, k5, hC, tl⟩ := T.cls
  apply wpAny_Call_Name_kw
  apply ld_glob I hg hm _ hdb
  apply PySem.W.callWith_K (h₀ := X.base) I.ok.mod.kin T.kC _ he hpl
  apply thn (ha.run pos pins s σ H _ I h)
  rintro us s1 ⟨vs, H1, I1, r1, hz, q1⟩
  refine ⟨I1.kIn, ?_⟩
  obtain ⟨hp, g, dr, tk, os⟩ := s1
  have up : hp.objs.size ≤ hp.objs.size + 1 := Nat.le_succ _
  have fr : H1 (hp.objs.size + 1) = none := I1.hok.fresh up
  have made : ∀ b o, hp.get? b = some o → ((hp.push (PySem.W.kdv_tup us)).push (PySem.HandSPX.excO C hp.objs.size)).get? b = some o :=
    fun b o e => Heap.get?_push_of_some _ (Heap.get?_push_of_some _ e)
  have there : ((hp.push (PySem.W.kdv_tup us)).push (PySem.HandSPX.excO C hp.objs.size)).get? (hp.objs.size + 1) = some (PySem.HandSPX.excO C hp.objs.size) := by
    heap_get
  have J : Inv X pins σ (upd H1 (hp.objs.size + 1) (exo (hp.objs.size + 1) C none)) ⟨(hp.push (PySem.W.kdv_tup us)).push (PySem.HandSPX.excO C hp.objs.size), g, dr, tk, os⟩ :=
    I1.laid (t' := tk) made up (exo_ok there)
  have sp1 := q1 (hp.objs.size + 1) fr
  rw [List.append_nil] at sp1
  have rv : Vals (V.ref (hp.objs.size + 1) :: vs) (Value.ref (hp.objs.size + 1) :: us) := .cons rfl r1
  have hlen : (Value.ref (hp.objs.size + 1) :: us).length = ps.length := rv.length.symm.trans (F1.len _ _ _ _ sp1)
  have hus : us.length ≤ sizeLine := by
    rw [← r1.length, sizeLine_eq]
    omega
  have bnd := hb ⟨(hp.push (PySem.W.kdv_tup us)).push (PySem.HandSPX.excO C hp.objs.size), g, dr, tk, os⟩ (Value.ref (hp.objs.size + 1) :: us) J.kIn (by rw [List.append_nil]; exact hlen)
  rw [List.append_nil] at bnd
  apply wpAny_call
  apply PySem.HandSPX.call_own FB (fun Y => PySem.W.excTail_contains Y bm tl) (I1.kIn _ _ hC) (PySem.W.looks_findIn I1.kIn T.iC) (fun self => PySem.W.bind_fn I1.kIn self T.tI) hus
  apply codeAny_mono (F1.run _ X.stack _ _ ⟨Value.ref (hp.objs.size + 1) :: us, []⟩ _ _ _ (fun _ _ _ => False) (hr.make C us []) (J.env0.make C us []) bnd rv sp1)
  intro r s' h'
  cases r with
  | error er => exact hx pins σ _ _ er s' J h'
  | ok fl => cases fl with
    | next => exact h'.elim
    | brk => exact h'.elim
    | cont => exact h'.elim
    | ret u =>
      obtain ⟨v, H2, e1, e2, un, hok, r3, rfl, d2, fs, ea, ed, hd, q2⟩ := h'
      obtain ⟨h2, g2, dr2, t2, os2⟩ := s'
      exact ⟨r3, mk_end (raises_own T.X.exC T.tyC) I1 up made un hok e1 e2 ea ed hd q2⟩
/-- raise C(e) -/
theorem g_raiseB {W : WX} {x : Str} {k : Nat} {fdI : FuncData} {ps : List Str} {e : Expr} {ta : TA} {p pos pos2 : Pos} (FB : ExcBaseFacts B newId initId bmB) (T : ExB B newId bmB X.K C fI n) (F1 : FnOk X.prog X.w X.K X.mg X.base CX0 k fI fdI ps (spInit C n))
    (hr : Room (k + 1) X.A) (hb : Binds X.K fdI ps []) (hc : X.calm = true) (tk : Takes X W) (hg : Gl X x) (hm : X.mg x = some (.ref C)) (ha : PA X [e] ta)
    (hdb : (x == ("__debug__" : Str)) = false := by decide) (he : starEach [e] X.env = (false, eval e X.env) :: starEach [] X.env := by rfl) (hpl : (backTo pos (starEach [] X.env)).any (·.1) = false := by rfl) :
    PS X (.Raise (some (.Call (.Name x p) [e] [] pos)) none pos2) (tRz C n W ta) :=
  ps_raise hc tk (pmkB FB T F1 hr hb pass0 hg hm ha hdb he hpl)
theorem pure_initB {K : PySem.W.Frag} {vs : List V} {H : Hp} {Q : VK} {E : XK} {s1 s2 : Str} (h : spInit C n vs H Q E) :
    tOstB K C n (tVar 0) (tVar 1) { nx := fun _ H' => Q .non H', rt := Q } (start [s1, s2] vs) H := by
  obtain ⟨a, y, rfl, ha, k⟩ := h
  exact ⟨y, rfl, .ref a, rfl, a, rfl, ha, k⟩
end
end GL
namespace GL
open PySem PySem.Spec L2
open PyProof.Rows hiding St
def clsB (newId : String) (bmB : List Value) (K : PySem.W.Frag) (C : Addr) : Bool := match K.lookup C with
  | some ⟨.type "type", _, .cls cd, sl⟩ => (match cd.mro, sl.toList with
    | .ref D :: bm, [_, _, _, _, some (.builtin n), _] => (D == C && n == newId) && ((!cd.hasDel && cd.hasDict) && PySem.W.excTail bmB bm)
    | _, _ => false)
  | _ => false
theorem clsB_ok {newId : String} {bmB : List Value} {K : PySem.W.Frag} {C : Addr} (h : clsB newId bmB K C = true) :
    ∃ nm q N bs bm sn sub ab col dd k0 k1 k2 k3 k5, K.lookup C = some (excClassObj nm q C N bs bm true sn sub ab col dd k0 k1 k2 k3 k5 newId) ∧ PySem.W.excTail bmB bm = true := by
  unfold clsB at h
  split at h
  · rename_i dd cd sl ho
    split at h
    · rename_i D bm k0 k1 k2 k3 n k5 e1 e2
      obtain ⟨nm, bs, mro, ns, qn, hd, sn, sub, ab, col, del⟩ := cd
      obtain ⟨sl⟩ := sl
      dsimp only at e1 e2 h
      subst e1 e2
      simp only [Bool.and_eq_true, beq_iff_eq, Bool.not_eq_true'] at h
      obtain ⟨⟨rfl, rfl⟩, ⟨rfl, rfl⟩, hb⟩ := h
      exact ⟨nm, qn, ns, bs, bm, sn, sub, ab, col, dd, k0, k1, k2, k3, k5, ho, hb⟩
    · cases h
  · cases h
def exB (newId : String) (bmB : List Value) (x n : Str) (K : PySem.W.Frag) : Bool :=
  (clsB newId bmB K (He.ga K x) && (xfB K (He.ga K x) && PySem.W.keepIn K (.ref (He.ga K x)))) &&
  ((decide (PySem.W.findIn K (.ref (He.ga K x)) "__setattr__" = some (some (.builtin "object.__setattr__"))) && decide (PySem.W.typeIn K (.ref (He.ga K x)) = some (.type "type"))) &&
  ((decide (PySem.W.findIn K (.ref (He.ga K x)) n = some none) && decide (PySem.W.findIn K (.ref (He.ga K x)) "__init__" = some (some (.ref (He.ma K (He.ga K x) "__init__"))))) &&
  (decide (PySem.W.typeIn K (.ref (He.ma K (He.ga K x) "__init__")) = some (.type "function")) && decide (PySem.W.exmOne K (.ref (He.ga K x)) (.ref (He.ga K x)) = some true))))
theorem exB_ok {B newId : String} {bmB : List Value} {K : PySem.W.Frag} {x n : Str} (h : exB newId bmB x n K = true) : ExB B newId bmB K (He.ga K x) (He.ma K (He.ga K x) "__init__") n := by
  unfold exB at h
  simp only [Bool.and_eq_true, decide_eq_true_eq] at h
  obtain ⟨⟨h1, h2, h3⟩, ⟨h4, h5⟩, ⟨h6, h7⟩, h8, h9⟩ := h
  exact ⟨clsB_ok h1, h4, h5, h3, xfB_ok h2, h6, h7, h8, h9⟩
abbrev bmLE : List Value := [.type "LookupError", .type "Exception", .type "BaseException", .type "object"]
abbrev bmRE : List Value := [.type "RuntimeError", .type "Exception", .type "BaseException", .type "object"]
abbrev bmOE : List Value := [.type "OverflowError", .type "ArithmeticError", .type "Exception", .type "BaseException", .type "object"]
end GL

/-! G13: try with several clauses, each with or without a name. -/
namespace GL
open PySem PySem.Spec L2
open PyProof.Rows hiding St
/-- the suite's ends, the name's slot emptied behind it -/
def endsOf : Option Nat → Ends → Ends
  | none, D => D
  | some i, D => { nx := fun σ' H' => D.nx (σ'.set i none) H', rt := D.rt, bk := fun σ' H' => D.bk (σ'.set i none) H', ct := fun σ' H' => D.ct (σ'.set i none) H' }
def slotOf (a : Addr) : Option Nat → L2.St → L2.St
  | none, σ => σ
  | some i, σ => σ.set i (some (.ref a))
abbrev Cl : Type := Value × Option Nat × (Addr → Value → Option Addr → TS)
def wMix (K : PySem.W.Frag) (Wout : WX) (D : Ends) : List Cl → WX
  | [] => Wout
  | (c, o, ts) :: r => fun cls d σ H => ∃ b, PySem.W.exmOne K cls c = some b ∧
      (b = true → ∀ a, H a = none → ts a cls d (endsOf o D) (slotOf a o σ) H) ∧
      (b = false → wMix K Wout D r cls d σ H)
inductive ClsOk (X : Cx) : List ExceptHandler → List Cl → Prop
  | nil : ClsOk X [] []
  | plain {x : Str} {c : Value} {ts : Addr → Value → Option Addr → TS} {b0 : Stmt} {su : List Stmt} {np ps : Pos} {hs : List ExceptHandler} {l : List Cl} (hc : Names X x c)
      (run : ∀ (e : Addr) (ob : Obj) (cls : Value) (d : Option Addr) (pn : List (Addr × Obj)), Zc cls d ob → (∃ vs, ob.data = .fields vs) → PSs (X.suite e ((e, ob) :: pn)) (b0 :: su) (ts e cls d))
      (rest : ClsOk X hs l) : ClsOk X (.ExceptHandler (some (.Name x np)) none (b0 :: su) ps :: hs) ((c, none, ts) :: l)
  | named {x n : Str} {i : Nat} {c : Value} {ts : Addr → Value → Option Addr → TS} {b0 : Stmt} {su : List Stmt} {np ps : Pos} {hs : List ExceptHandler} {l : List Cl} (hN : X.N.Nodup) (hi : X.N[i]? = some n) (hl : X.env.kindOf n = some .local) (hc : Names X x c)
      (run : ∀ (e : Addr) (ob : Obj) (cls : Value) (d : Option Addr) (pn : List (Addr × Obj)), Zc cls d ob → (∃ vs, ob.data = .fields vs) → PSs (X.suite e ((e, ob) :: pn)) (b0 :: su) (ts e cls d))
      (rest : ClsOk X hs l) : ClsOk X (.ExceptHandler (some (.Name x np)) (some n) (b0 :: su) ps :: hs) ((c, some i, ts) :: l)
section
variable {X : Cx} {body : List Stmt} {h0 : ExceptHandler} {hs : List ExceptHandler} {l : List Cl} {pos : Pos} {tb : WX → TS} {Wout : WX}
theorem ps_mix (st : X.stack = X.env :: X.outer) (fr : X.env.frame = some X.env.locals) (tk : Takes X Wout)
    (hb : ∀ (W : WX) (pn : List (Addr × Obj)) (xe : Value → Shared → Prop), Takes (X.tr pn xe) W → PassesOwn (model X.prog X.w) X.A X.env xe → PSs (X.tr pn xe) body (tb W)) (cl : ClsOk X (h0 :: hs) l) :
    PS X (.Try body (h0 :: hs) [] [] pos) (fun D σ H => tb (wMix X.K Wout D l) D σ H) := by
  constructor
  intro pins s σ H D I h
  have lim := I.ok
  have frames : X.A.frames = some (X.env :: X.outer) := by
    rw [lim.frames, st]
  apply wpAny_Try_except
  have B1 := hb (wMix X.K Wout D l) (X.pn ++ pins)
    (fun e s1 => wpAny (model X.prog X.w) X.A (noteFrame e X.env) (fun _ s2 => wpAny (model X.prog X.w) X.A (setFlight e none)
      (fun _ s3 => wpAny (model X.prog X.w) X.A (handleBy e X.env (h0 :: hs)) (SP X pins D) X.xe s3) X.xe s2) X.xe s1)
  refine wpAny_mono ((B1 (fun u s' air => ?_) PassesOwn.looking).run [] s σ H D (I.toTry _) h) (fun f s1 sp => ?_) fun _ _ z => z
  · obtain ⟨e, B, sI, pins2, σ2, H2, cls, d, rfl, J0, nb, up, sky, new, os, bare, w⟩ := air
    have J : Inv X pins σ2 H2 sI := J0.ofTry lim
    rw [show X.stack = X.env :: X.outer from st] at sky
    show wpAny (model X.prog X.w) X.A (noteFrame (.ref e) X.env) _ _ _
    apply Sky.land Zc.steady frames fr sky
    intro g3 fly up3
    have J3 : Inv X pins σ2 H2 { s' with heap := g3 } :=
      J.landed nb fly.1 (up.trans up3) os bare
    obtain ⟨ob, vs, at3, z3, dt3⟩ := fly.there
    have out : e ∉ frs (X.env :: X.outer) := fun hm => by
      obtain ⟨_, ob', at', nf⟩ := fly.2.2.1.mem hm
      rw [at3] at at'
      cases at'
      exact nf _ dt3
    have notL : e ≠ X.env.locals := fun z =>
      out (List.mem_filterMap.2 ⟨X.env, List.mem_cons_self, by rw [fr, z]⟩)
    have notF : e ∉ X.fs := fun hm => by
      obtain ⟨x, hx, q⟩ := List.mem_filterMap.1 hm
      exact out (List.mem_filterMap.2 ⟨x, List.mem_cons_of_mem _ hx, q⟩)
    have S3 := J3.suite at3 dt3 new notL notF
    have looks : PySem.W.Looks (model X.prog X.w) g3 (typeOf (.ref e)) cls := fun A Q E s k q =>
      wpAny_typeOf_ref (k _ _ at3) (by rw [z3.1]; exact q)
    have ask : ∀ {x : Str} {c : Value} {np : Pos} {Q : Value → Shared → Prop} {E : Value → Shared → Prop}, Names X x c → Q c { s' with heap := g3 } →
        wpAny (model X.prog X.w) (X.A.mark (some (.ref e))) (eval (.Name x np) X.env) Q E { s' with heap := g3 } := fun nm q => by
      obtain ⟨gl, db, m | ⟨m, v, nn⟩⟩ := nm
      · exact ld_glob (X := X.suite e ((e, ob) :: (X.pn ++ pins))) S3 gl m q db
      · exact ld_blt (X := X.suite e ((e, ob) :: (X.pn ++ pins))) S3 gl m v q nn db
    have walk : ∀ {hs' : List ExceptHandler} {l' : List Cl}, ClsOk X hs' l' → wMix X.K Wout D l' cls d σ2 H2 →
        wpAny (model X.prog X.w) X.A (handleBy (.ref e) X.env hs') (SP X pins D) X.xe { s' with heap := g3 } := by
      intro hs' l' ok
      induction ok with
      | nil =>
        intro w
        apply wpAny_handleBy_nil
        obtain ⟨_, _, _, ob2, vs2, T, oT, ts2, a1, _, a3, a4, _⟩ := id fly
        unfold PySem.passOn
        apply wpAny_bind
        apply wpAny_field a1 a3 a4
        have nn : ¬ ((Value.ref T == Value.none) = true) := by
          simp
        rw [if_neg nn]
        have last : wpAny (model X.prog X.w) X.A (setFlight (.ref e) X.env.frame) (fun _ s4 => wpAny (model X.prog X.w) X.A (throw (.ref e) : Sem Flow) (SP X pins D) X.xe s4) X.xe
            { s' with heap := g3 } := by
          rw [fr]
          apply HandSPX.setFlight_upZ fly
          intro g4 held up4
          apply wpAny_throw
          apply tk
          exact ⟨e, B, sI, pins, σ2, H2, cls, d, rfl, J, nb, (up.trans up3).trans up4, .inr (.inr (by rw [st]; exact held)), new, os, bare, w⟩
        first
          | exact wpAny_bind (wpAny_pure (wpAny_bind last))
          | exact wpAny_bind last
      | plain nm run rest ih =>
        rintro ⟨b, hb1, yes, no⟩
        have M := PySem.W.exm_one (M := model X.prog X.w) J3.kIn looks hb1
        refine wpAny_handleBy_cons (codeAny_handlers_test (ask nm (M.here ?_))) (by intro q; cases q)
        cases b with
        | false => exact ih (no rfl)
        | true =>
          apply codeAny_handlers_suite
          apply HandSPX.lands_againZ fly
          intro g4 fly4 up4
          have J4 : Inv X pins σ2 H2 { s' with heap := g4 } :=
            J.landed nb fly4.1 ((up.trans up3).trans up4) os bare
          obtain ⟨ob4, vs4, at4, z4, dt4⟩ := fly4.there
          have S4 := J4.suite at4 dt4 new notL notF
          refine wpAny_mono ((run e ob4 cls d (X.pn ++ pins) z4 ⟨_, dt4⟩).run [] _ _ H2 _ S4 (yes rfl e new)) (fun f s6 sp => ?_) (fun _ _ z => False.elim z)
          cases f with
          | ret u =>
            obtain ⟨v6, σ6, H6, S6, r6, q6⟩ := sp
            exact ⟨v6, σ6, H6, S6.unsuite lim, r6, q6⟩
          | next =>
            obtain ⟨σ6, H6, S6, q6⟩ := sp
            exact ⟨σ6, H6, S6.unsuite lim, q6⟩
          | brk =>
            obtain ⟨σ6, H6, S6, q6⟩ := sp
            exact ⟨σ6, H6, S6.unsuite lim, q6⟩
          | cont =>
            obtain ⟨σ6, H6, S6, q6⟩ := sp
            exact ⟨σ6, H6, S6.unsuite lim, q6⟩
      | @named x n i c ts b0 su np ps hs2 l2 hN hi hl nm run rest ih =>
        rintro ⟨b, hb1, yes, no⟩
        have M := PySem.W.exm_one (M := model X.prog X.w) J3.kIn looks hb1
        refine wpAny_handleBy_cons (codeAny_handlers_test (ask nm (M.here ?_))) (by intro q; cases q)
        cases b with
        | false => exact ih (no rfl)
        | true =>
          apply codeAny_handlers_suite_as
          apply HandSPX.lands_againZ fly
          intro g4 fly4 up4
          have J4 : Inv X pins σ2 H2 { s' with heap := g4 } :=
            J.landed nb fly4.1 ((up.trans up3).trans up4) os bare
          obtain ⟨ob4, vs4, at4, z4, dt4⟩ := fly4.there
          have S4 := J4.suite at4 dt4 new notL notF
          refine store_ok (X := X.suite e ((e, ob4) :: (X.pn ++ pins))) (v := .ref e) S4 hN hi (.inl hl) rfl (fun s5 S5 => ?_) (.inr hl)
          refine wpAny_mono ((run e ob4 cls d (X.pn ++ pins) z4 ⟨_, dt4⟩).run [] s5 _ H2 _ S5 (yes rfl e new)) (fun f s6 sp => ?_) (fun _ _ z => False.elim z)
          have tidy : ∀ {σ6 : L2.St} {H6 : Hp} {Q : Shared → Prop}, Inv (X.suite e ((e, ob4) :: (X.pn ++ pins))) [] σ6 H6 s6 → (∀ s7, Inv X pins (σ6.set i none) H6 s7 → Q s7) →
              wpAny (model X.prog X.w) X.A (do bindName X.env n .none; unbindBehindTheSuite X.env n ps) (fun _ s7 => Q s7) X.xe s6 :=
            fun S6 hq => gone_ok (S6.unsuite lim) hN hi hl hq
          cases f with
          | ret u =>
            obtain ⟨v6, σ6, H6, S6, r6, q6⟩ := sp
            exact tidy S6 fun s7 J7 => ⟨v6, _, H6, J7, r6, q6⟩
          | next =>
            obtain ⟨σ6, H6, S6, q6⟩ := sp
            exact tidy S6 fun s7 J7 => ⟨_, H6, J7, q6⟩
          | brk =>
            obtain ⟨σ6, H6, S6, q6⟩ := sp
            exact tidy S6 fun s7 J7 => ⟨_, H6, J7, q6⟩
          | cont =>
            obtain ⟨σ6, H6, S6, q6⟩ := sp
            exact tidy S6 fun s7 J7 => ⟨_, H6, J7, q6⟩
    exact walk cl w
  · cases f with
    | ret u =>
      obtain ⟨v, σ2, H2, J2, r, q⟩ := sp
      exact ⟨v, σ2, H2, J2.ofTry lim, r, q⟩
    | next =>
      obtain ⟨σ2, H2, J2, q⟩ := sp
      exact wpAny_execs_nil ⟨σ2, H2, J2.ofTry lim, q⟩
    | brk =>
      obtain ⟨σ2, H2, J2, q⟩ := sp
      exact ⟨σ2, H2, J2.ofTry lim, q⟩
    | cont =>
      obtain ⟨σ2, H2, J2, q⟩ := sp
      exact ⟨σ2, H2, J2.ofTry lim, q⟩
def tMix (K : PySem.W.Frag) (tb : WX → TS) (l : List Cl) (W : WX) : TS := fun D σ H => tb (wMix K W D l) D σ H
end
end GL

/-! G12: sorted of a list or a tuple's data, any length. -/
namespace GL
open PySem PySem.Spec L2
open PyProof.Rows hiding St
open PySem.W (EachIs AllAlike Sortable dataLe)
def byD : V × PyData → PyData := fun p => p.2
def gSorted (K : PySem.W.Frag) : List V → Hp → VK → Prop := fun vs H Q => ∃ (a : Addr) (ps : List (V × PyData)), vs = [.ref a] ∧ SqL K H a (ps.map (·.1)) ∧ (∀ p ∈ ps, Dp K H p.1 p.2) ∧ AllAlike (ps.map byD) ∧ Sortable (ps.map byD) ∧ (∀ p ∈ ps, p.2.depth ≤ 60) ∧
  ∀ q, H q = none → Q (.ref q) (upd H q (.lst ((ps.mergeSort (dataLe false byD)).map (·.1))))
theorem each_of : ∀ {ps : List (V × PyData)} {us : List Value}, Vals (ps.map (·.1)) us → EachIs (fun u (p : V × PyData) => RelV p.1 u) us ps
  | [], _, h => by
    cases h
    exact .nil
  | p :: ps, _, h => by
    cases h with
    | cons r t => exact .cons r (each_of t)
theorem vals_each : ∀ {ps : List (V × PyData)} {us : List Value}, EachIs (fun u (p : V × PyData) => RelV p.1 u) us ps → Vals (ps.map (·.1)) us
  | _, _, .nil => .nil
  | _, _, .cons r t => .cons r (vals_each t)
theorem each_in {α β : Type} {R S : α → β → Prop} : ∀ {us : List α} {ps : List β}, EachIs R us ps → (∀ u p, p ∈ ps → R u p → S u p) → EachIs S us ps
  | _, _, .nil, _ => .nil
  | _, _, .cons r t, h => .cons (h _ _ List.mem_cons_self r) (each_in t fun u p hp => h u p (List.mem_cons_of_mem _ hp))
theorem call_gsorted {X : Cx} (hu : X.A.units + 64 < cLine) : CallR X (.builtin "sorted") (gSorted X.K) := by
  intro pins s σ H xs us Q I r h
  obtain ⟨a, ps, rfl, hq, hd, al, so, dp, q⟩ := h
  obtain ⟨u, rfl, ru⟩ := vals1 r
  cases (show u = Value.ref a from ru)
  obtain ⟨its, rv, pl, hz⟩ := I.list hq
  have e := each_of rv
  have er := each_in (S := fun v p => ∃ as, Reads s.heap v (byD p) as) e fun u p hp r => Dp.reads I p.2 p.1 u (hd p hp) r
  have hlen : ps.length ≤ sizeLine := by simpa using hz
  refine PySem.W.sorted_data pl.isList e er al so hlen (fun p hp => ?_) fun out hl eo => ?_
  · have := dp p hp
    show X.A.units + 2 + p.2.depth < cLine
    omega
  obtain ⟨n, at_⟩ := sortedAll_at s.heap its out.toArray
  have ov := vals_each eo
  have ol : ((ps.mergeSort (dataLe false byD)).map (·.1)).length ≤ sizeLine := by
    rw [List.length_map, List.length_mergeSort]
    exact hlen
  have new : ObjOk X.prog X.w (upd H (s.heap.objs.size + 1) (.lst ((ps.mergeSort (dataLe false byD)).map (·.1)))) (PyProof.Rows.sortedAll s.heap its out.toArray) (s.heap.objs.size + 1) (.lst ((ps.mergeSort (dataLe false byD)).map (·.1))) :=
    ⟨ol, out, n, ov, at_⟩
  have J := I.laid (t' := s.toks) (fun b u => sortedAll_old) (Nat.le_succ _) new
  exact ⟨.ref _, _, J, rfl, q _ (I.hok.fresh (Nat.le_succ _))⟩
section
variable {K : PySem.W.Frag} {D0 : Hp} {R : Res} {l : List (V × PyData)} {σ : L2.St} {D : Ends} {Q : VK}
theorem dt_pairs {H : Hp} : ∀ {xs : List V} {ds : List PyData}, DtAll K H xs ds → ∃ ps : List (V × PyData), ps.map (·.1) = xs ∧ ps.map byD = ds ∧ ∀ p ∈ ps, Dt K H p.1 p.2
  | _, _, .nil => ⟨[], rfl, rfl, fun p hp => by cases hp⟩
  | _, _, .cons (v := v) (d := d) a b => by
    obtain ⟨ps, e1, e2, h⟩ := dt_pairs b
    refine ⟨(v, d) :: ps, by rw [List.map_cons, e1], by rw [List.map_cons, e2]; rfl, fun p hp => ?_⟩
    rcases List.mem_cons.1 hp with rfl | hp
    · exact a
    · exact h p hp
theorem pairs_dt {H : Hp} : ∀ {ps : List (V × PyData)}, (∀ p ∈ ps, Dt K H p.1 p.2) → DtAll K H (ps.map (·.1)) (ps.map byD)
  | [], _ => .nil
  | p :: ps, h => .cons (h p List.mem_cons_self) (pairs_dt fun q hq => h q (List.mem_cons_of_mem _ hq))
/-- sorted(xs) of a list -/
theorem d_sorted {x : V} {ds : List PyData} (hx : InL l x (.list ds)) (al : AllAlike ds) (so : Sortable ds) (dp : ∀ d ∈ ds, d.depth ≤ 60) (k : ∀ v, RD K D0 R ((v, .list (ds.mergeSort (dataLe false id))) :: l) (Q v)) : RD K D0 R l (fun H => gSorted K [x] H Q) := fun N H A => by
  obtain ⟨a, xs, rfl, ha, hd⟩ := (A.dt hx).list
  obtain ⟨ps, rfl, rfl, hp⟩ := dt_pairs hd
  refine ⟨a, ps, rfl, SqL.of (off_same a _ ha), fun p hm => ((hp p hm).mono off_same).dp, al, so, fun p hm => dp _ (List.mem_map.2 ⟨p, hm, rfl⟩), fun q hq => ?_⟩
  obtain ⟨A', e⟩ := A.new (.lst ((ps.mergeSort (dataLe false byD)).map (·.1))) hq
  have hp2 : ∀ p ∈ ps, Dt K (off (upd H q (.lst ((ps.mergeSort (dataLe false byD)).map (·.1)))) N) p.1 p.2 := fun p hm =>
    ((A.facts (hp p hm)).new (.lst ((ps.mergeSort (dataLe false byD)).map (·.1))) hq).1.dt (.mem List.mem_cons_self)
  have hs : DtAll K (off (upd H q (.lst ((ps.mergeSort (dataLe false byD)).map (·.1)))) N) ((ps.mergeSort (dataLe false byD)).map (·.1)) ((ps.mergeSort (dataLe false byD)).map byD) :=
    pairs_dt fun p hm => hp2 p ((List.mergeSort_perm _ _).mem_iff.1 hm)
  have em : (ps.mergeSort (dataLe false byD)).map byD = (ps.map byD).mergeSort (dataLe false id) := List.map_mergeSort fun _ _ _ _ => rfl
  rw [em] at hs
  exact k _ N _ (A'.facts (.lst e hs))
end
end GL

/-! G14: objects owned by name (instances, dicts), tuples that stand by name. -/
namespace GL
open PySem PySem.Spec L2
open PyProof.Rows hiding St
/-- these objects, each as it says, and no others, are owned -/
def objs (L : List (Addr × HO)) : Res where
  h := fun N D H => (∀ b, N b ↔ ∃ o, (b, o) ∈ L) ∧ ∀ p ∈ L, H p.1 = some p.2
  st := fun ⟨e, h⟩ _ k => ⟨e, fun p hp => (k p.1 ((e p.1).2 ⟨p.2, hp⟩)).trans (h p hp)⟩
def putO (L : List (Addr × HO)) (a : Addr) (o : HO) : List (Addr × HO) := L.map fun p => if p.1 = a then (a, o) else p
section
variable {K : PySem.W.Frag} {D0 D1 : Hp} {R : Res} {l : List (V × PyData)} {σ : L2.St} {D : Ends} {Q : VK} {L : List (Addr × HO)} {T : Hp → Prop}
theorem At.ob {N : Addr → Prop} {H : Hp} (A : At K D0 (star (objs L) R) l N H) {a : Addr} {o : HO} (hp : (a, o) ∈ L) : H a = some o := by
  obtain ⟨_, _, _, _, ⟨_, h⟩, _⟩ := A.r
  exact h _ hp
theorem off_grow {N N' : Addr → Prop} {H H' : Hp} (h : ∀ b, ¬ N b → H b ≠ none → ¬ N' b ∧ H' b = H b) : Same (off H N) (off H' N') := fun b u e => by
  by_cases hb : N b
  · unfold off at e
    rw [if_pos hb] at e
    cases e
  · rw [off_ne hb] at e
    obtain ⟨h1, h2⟩ := h b hb (by rw [e]; exact fun z => by cases z)
    rw [off_ne h1, h2]
    exact e
theorem At.newOb {N : Addr → Prop} {H : Hp} (A : At K D0 (star (objs L) R) l N H) {p : Addr} {o : HO} (ho : NotTup o) (hp : H p = none) : At K D0 (star (objs ((p, o) :: L)) R) l (fun b => b = p ∨ N b) (upd H p o) := by
  have away : ∀ b, N b → b ≠ p := fun b hb z => A.nn b hb (z ▸ hp)
  have sm : Same (off H N) (off (upd H p o) fun b => b = p ∨ N b) := off_grow fun b hb nb => by
    have z : b ≠ p := fun e => nb (e ▸ hp)
    exact ⟨fun q => q.elim z hb, upd_ne z⟩
  obtain ⟨N1, N2, e, dj, ⟨e1, h1⟩, h2⟩ := A.r
  refine ⟨?_, ⟨fun b => b = p ∨ N1 b, N2, ?_, ?_, ⟨?_, ?_⟩, R.st h2 sm fun b hb => upd_ne (away b ((e b).2 (.inr hb)))⟩, A.d0.trans sm, fun q hq => (A.f q hq).mono sm⟩
  · intro b hb
    by_cases z : b = p
    · rw [z]
      exact ⟨_, upd_same, ho⟩
    · rw [upd_ne z]
      exact A.nt b (hb.resolve_left z)
  · intro b
    show (b = p ∨ N b) ↔ (b = p ∨ N1 b) ∨ N2 b
    rw [e b, or_assoc]
  · rintro b (rfl | hb) h
    · exact away _ ((e _).2 (.inr h)) rfl
    · exact dj b hb h
  · intro b
    constructor
    · rintro (rfl | hb)
      · exact ⟨o, List.mem_cons_self⟩
      · obtain ⟨u, hu⟩ := (e1 b).1 hb
        exact ⟨u, List.mem_cons_of_mem _ hu⟩
    · rintro ⟨u, hu⟩
      rcases List.mem_cons.1 hu with z | hu
      · exact .inl (congrArg Prod.fst z)
      · exact .inr ((e1 b).2 ⟨u, hu⟩)
  · intro q hq
    rcases List.mem_cons.1 hq with rfl | hq
    · exact upd_same
    · rw [upd_ne (away _ ((e _).2 (.inl ((e1 _).2 ⟨q.2, hq⟩))))]
      exact h1 q hq
theorem At.setOb {N : Addr → Prop} {H : Hp} (A : At K D0 (star (objs L) R) l N H) {a : Addr} {o1 o : HO} (ho : NotTup o) (ha : (a, o1) ∈ L) : At K D0 (star (objs (putO L a o)) R) l N (upd H a o) := by
  obtain ⟨N1, N2, e, dj, ⟨e1, h1⟩, h2⟩ := A.r
  have n1 : N1 a := (e1 a).2 ⟨o1, ha⟩
  have na : N a := (e a).2 (.inl n1)
  have sm : Same (off H N) (off (upd H a o) N) := off_grow fun b hb _ => ⟨hb, upd_ne fun z => hb (z ▸ na)⟩
  refine ⟨?_, ⟨N1, N2, e, dj, ⟨?_, ?_⟩, R.st h2 sm fun b hb => upd_ne fun z => dj a n1 (z ▸ hb)⟩, A.d0.trans sm, fun q hq => (A.f q hq).mono sm⟩
  · intro b hb
    by_cases z : b = a
    · rw [z]
      exact ⟨_, upd_same, ho⟩
    · rw [upd_ne z]
      exact A.nt b hb
  · intro b
    rw [e1 b]
    unfold putO
    constructor
    · rintro ⟨u, hu⟩
      by_cases z : b = a
      · exact ⟨o, List.mem_map.2 ⟨(b, u), hu, by rw [if_pos z, z]⟩⟩
      · exact ⟨u, List.mem_map.2 ⟨(b, u), hu, by rw [if_neg z]⟩⟩
    · rintro ⟨u, hu⟩
      obtain ⟨q, hq, eq⟩ := List.mem_map.1 hu
      by_cases z : q.1 = a
      · rw [if_pos z] at eq
        have eb : a = b := congrArg Prod.fst eq
        exact ⟨q.2, by rw [← eb, ← z]; exact hq⟩
      · rw [if_neg z] at eq
        exact ⟨u, eq ▸ hq⟩
  · intro q hq
    unfold putO at hq
    obtain ⟨r, hr, rfl⟩ := List.mem_map.1 hq
    by_cases z : r.1 = a
    · rw [if_pos z]
      exact upd_same
    · rw [if_neg z, upd_ne z]
      exact h1 r hr
/-- what stands by name -/
theorem At.fixed {N : Addr → Prop} {H : Hp} (A : At K D0 R l N H) {b : Addr} {o : HO} (h : D0 b = some o) : H b = some o := off_same b o (A.d0 b o h)
theorem At.lessD {N : Addr → Prop} {H : Hp} (A : At K D1 R l N H) (h : Same D0 D1) : At K D0 R l N H := ⟨A.nt, A.r, h.trans A.d0, A.f⟩
theorem RD.moreD (h : Same D0 D1) (k : RD K D0 R l T) : RD K D1 R l T := fun N H A => k N H (A.lessD h)
theorem same_upd {q : Addr} {o : HO} (h : D0 q = none) : Same D0 (upd D0 q o) := fun b u e => by
  rw [upd_ne (ne_of_none e h)]
  exact e
/-- a new tuple, known by name too -/
theorem d_newTD {xs : List V} {ds : List PyData} (hl : xs.length ≤ sizeLine) (hx : InLs l xs ds) (k : ∀ q, D0 q = none → RD K (upd D0 q (.tup xs)) R ((.ref q, .tuple ds) :: l) (Q (.ref q))) : RD K D0 R l (fun H => kTup xs H Q) := fun N H A => by
  refine ⟨hl, fun q hq => ?_⟩
  have dq : D0 q = none := by
    cases e : D0 q with
    | none => rfl
    | some u => exact absurd (A.fixed e) (by rw [hq]; exact fun z => by cases z)
  obtain ⟨A', e⟩ := A.new (.tup xs) hq
  have A2 : At K (upd D0 q (.tup xs)) R l N (upd H q (.tup xs)) := ⟨A'.nt, A'.r, fun b u h => by
    by_cases z : b = q
    · subst z
      rw [upd_same] at h
      cases h
      exact e
    · rw [upd_ne z] at h
      exact A'.d0 b u h, A'.f⟩
  exact k q dq N _ (A2.facts (.tup (.inl (.inl e)) (A'.dts hx)))
/-! ### an instance's fields -/
def kFld (K : PySem.W.Frag) (f : Str) (x : V) (H1 : Hp) (Q : VK) : Prop := ∃ a C dx fs v, x = .ref a ∧ H1 a = some (.ins C dx fs) ∧ Cls K C ∧ NoAttr K C f ∧ fs.lookup f = some v ∧ Q v H1
theorem d_tFld {te : TE} {f : Str} (k : RD K D0 R l (fun H => te σ H fun x H1 => kFld K f x H1 Q)) : RD K D0 R l (fun H => tFld K te f σ H Q) := k
theorem d_fld {a C dx : Addr} {fs : List (Str × V)} {f : Str} {v : V} (ha : (a, .ins C dx fs) ∈ L) (c : Cls K C) (n : NoAttr K C f) (hf : fs.lookup f = some v) (k : RD K D0 (star (objs L) R) l (Q v)) : RD K D0 (star (objs L) R) l (fun H => kFld K f (.ref a) H Q) :=
  fun N H A => ⟨a, C, dx, fs, v, rfl, A.ob ha, c, n, hf, k N H A⟩
def kPutF (K : PySem.W.Frag) (f : Str) (y x : V) (H2 : Hp) (Qn : Hp → Prop) : Prop := ∃ a C dx fs, x = .ref a ∧ H2 a = some (.ins C dx fs) ∧ Cls K C ∧ NoAttr K C f ∧ fs.length < 1000 ∧ Qn (upd H2 a (.ins C dx (putF f y fs)))
theorem d_sFld {ta tv : TE} {f : Str} (k : RD K D0 R l (fun H => tv σ H fun y H1 => ta σ H1 fun x H2 => kPutF K f y x H2 fun H3 => D.nx σ H3)) : RD K D0 R l (fun H => sFld K ta tv f D σ H) := k
theorem d_putF {a C dx : Addr} {fs : List (Str × V)} {f : Str} {y : V} {Qn : Hp → Prop} (ha : (a, .ins C dx fs) ∈ L) (c : Cls K C) (n : NoAttr K C f) (hl : fs.length < 1000) (k : RD K D0 (star (objs (putO L a (.ins C dx (putF f y fs)))) R) l Qn) :
    RD K D0 (star (objs L) R) l (fun H => kPutF K f y (.ref a) H Qn) := fun N H A => ⟨a, C, dx, fs, rfl, A.ob ha, c, n, hl, k N _ (A.setOb (fun _ z => by cases z) ha)⟩
/-! ### dicts -/
theorem At.ob_ne {N : Addr → Prop} {H : Hp} (A : At K D0 (star (objs L) R) l N H) {q : Addr} (hq : H q = none) : ∀ p ∈ L, q ≠ p.1 := fun p hp z => by
  have h := A.ob (a := p.1) (o := p.2) hp
  rw [← z, hq] at h
  cases h
theorem d_dnewT (k : ∀ q, (∀ p ∈ L, q ≠ p.1) → RD K D0 (star (objs ((q, .dT []) :: L)) R) l (Q (.ref q))) : RD K D0 (star (objs L) R) l (fun H => tDNewT σ H Q) := fun N H A q hq => k q (A.ob_ne hq) _ _ (A.newOb (fun _ z => by cases z) hq)
theorem d_dnewK (k : ∀ q, (∀ p ∈ L, q ≠ p.1) → RD K D0 (star (objs ((q, .dK []) :: L)) R) l (Q (.ref q))) : RD K D0 (star (objs L) R) l (fun H => tDNewK σ H Q) := fun N H A q hq => k q (A.ob_ne hq) _ _ (A.newOb (fun _ z => by cases z) hq)
def kDIn (neg : Bool) (y x : V) (H : Hp) (Q : VK) : Prop := ∃ a o, x = .ref a ∧ DGet H a y o ∧ Q (.bl (if neg then !o.isSome else o.isSome)) H
theorem d_tDIn {ty td : TE} (k : RD K D0 R l (fun H => ty σ H fun y H1 => td σ H1 fun x H2 => kDIn false y x H2 Q)) : RD K D0 R l (fun H => tDIn ty td σ H Q) := k
theorem d_tDNotIn {ty td : TE} (k : RD K D0 R l (fun H => ty σ H fun y H1 => td σ H1 fun x H2 => kDIn true y x H2 Q)) : RD K D0 R l (fun H => tDNotIn ty td σ H Q) := k
theorem d_dinT {neg : Bool} {a b : Addr} {kvs : List (List Key × V)} {ks : List Key} (ha : (a, .dT kvs) ∈ L) (hb : D0 b = some (.tup (ks.map kV))) (k : RD K D0 (star (objs L) R) l (Q (.bl (if neg then !(valV kvs ks).isSome else (valV kvs ks).isSome)))) :
    RD K D0 (star (objs L) R) l (fun H => kDIn neg (.ref b) (.ref a) H Q) := fun N H A => ⟨a, valV kvs ks, rfl, .t (A.ob ha) (A.fixed hb), k N H A⟩
theorem d_dinK {neg : Bool} {a : Addr} {kvs : List (Key × V)} {key : Key} (ha : (a, .dK kvs) ∈ L) (k : RD K D0 (star (objs L) R) l (Q (.bl (if neg then !(valV kvs key).isSome else (valV kvs key).isSome)))) :
    RD K D0 (star (objs L) R) l (fun H => kDIn neg (kV key) (.ref a) H Q) := fun N H A => ⟨a, valV kvs key, rfl, .k (A.ob ha), k N H A⟩
def kDPut (v x y : V) (H : Hp) (Qn : Hp → Prop) : Prop := ∃ a H4, x = .ref a ∧ DPut H a y v H4 ∧ Qn H4
theorem d_sDPut {td ty tv : TE} (k : RD K D0 R l (fun H => tv σ H fun v H1 => td σ H1 fun x H2 => ty σ H2 fun y H3 => kDPut v x y H3 fun H4 => D.nx σ H4)) : RD K D0 R l (fun H => sDPut td ty tv D σ H) := k
theorem d_putT {a b : Addr} {kvs : List (List Key × V)} {ks : List Key} {v : V} {Qn : Hp → Prop} (ha : (a, .dT kvs) ∈ L) (hb : D0 b = some (.tup (ks.map kV))) (hl : kvs.length < sizeLine) (k : RD K D0 (star (objs (putO L a (.dT (putK kvs ks v)))) R) l Qn) :
    RD K D0 (star (objs L) R) l (fun H => kDPut v (.ref a) (.ref b) H Qn) := fun N H A => ⟨a, _, rfl, .t (A.ob ha) (A.fixed hb) hl, k N _ (A.setOb (fun _ z => by cases z) ha)⟩
theorem d_putK {a : Addr} {kvs : List (Key × V)} {key : Key} {v : V} {Qn : Hp → Prop} (ha : (a, .dK kvs) ∈ L) (hl : kvs.length < sizeLine) (k : RD K D0 (star (objs (putO L a (.dK (putK kvs key v)))) R) l Qn) :
    RD K D0 (star (objs L) R) l (fun H => kDPut v (.ref a) (kV key) H Qn) := fun N H A => ⟨a, _, rfl, .k (A.ob ha) hl, k N _ (A.setOb (fun _ z => by cases z) ha)⟩
theorem RD.objs {L' : List (Addr × HO)} (e : ∀ p, p ∈ L ↔ p ∈ L') (k : RD K D0 (star (objs L') R) l T) : RD K D0 (star (objs L) R) l T := RD.res (S := star (GL.objs L') R) (fun h => by
  obtain ⟨N1, N2, a, dj, ⟨b, c⟩, h2⟩ := h
  exact ⟨N1, N2, a, dj, ⟨fun x => (b x).trans ⟨fun ⟨o, h⟩ => ⟨o, (e _).1 h⟩, fun ⟨o, h⟩ => ⟨o, (e _).2 h⟩⟩, fun p hp => c p ((e p).2 hp)⟩, h2⟩) k
end
end GL

/-! G15: sorted of a dict by tuples. -/
namespace GL
open PySem PySem.Spec L2
open PyProof.Rows hiding St
open PySem.W (EachIs AllAlike Sortable dataLe)
def kD : Key → PyData
  | .inl i => .int i
  | .inr s => .str s
def keyD (q : Addr × List Key) : PyData := .tuple (q.2.map kD)
def gSortedT : List V → Hp → VK → Prop := fun xs H Q => ∃ (d : Addr) (kvs : List (List Key × V)), xs = [.ref d] ∧ H d = some (.dT kvs) ∧ AllAlike (kvs.map fun kv => .tuple (kv.1.map kD)) ∧ Sortable (kvs.map fun kv => .tuple (kv.1.map kD)) ∧
  ∀ (p : Addr) (bs : List (Addr × List Key)), bs.map (·.2) = kvs.map (·.1) → (∀ q ∈ bs, H q.1 = some (.tup (q.2.map kV))) → H p = none → Q (.ref p) (upd H p (.lst ((bs.mergeSort (dataLe false keyD)).map fun q => .ref q.1)))
theorem kD_dp {K : PySem.W.Frag} {H : Hp} : ∀ ks : List Key, DtAll K H (ks.map kV) (ks.map kD)
  | [] => .nil
  | .inl i :: ks => .cons (.int i) (kD_dp ks)
  | .inr s :: ks => .cons (.str s) (kD_dp ks)
theorem kD_reads {h : Heap} : ∀ {ks : List Key} {us : List Value}, Vals (ks.map kV) us → ReadsAll h us (ks.map kD) []
  | [], _, r => by
    cases r
    exact .nil
  | .inl i :: ks, _, r => by
    cases r with
    | cons a t =>
      obtain ⟨tk, rfl⟩ := (show ∃ tk, _ = Value.int i tk from a)
      exact .cons (as := []) (.int i tk) (kD_reads t)
  | .inr s :: ks, _, r => by
    cases r with
    | cons a t =>
      obtain ⟨tk, rfl⟩ := (show ∃ tk, _ = Value.str s tk from a)
      exact .cons (as := []) (.str s tk) (kD_reads t)
theorem kD_depth : ∀ ks : List Key, PyData.depthAll (ks.map kD) = 0
  | [] => by simp [PyData.depthAll]
  | .inl i :: ks => by simp [PyData.depthAll, PyData.depth, kD, kD_depth ks]
  | .inr s :: ks => by simp [PyData.depthAll, PyData.depth, kD, kD_depth ks]
theorem keyD_depth (q : Addr × List Key) : (keyD q).depth ≤ 1 := by
  unfold keyD
  simp only [PyData.depth, kD_depth]
  omega
theorem each_refs : ∀ (bs : List (Addr × List Key)), EachIs (fun v (q : Addr × List Key) => v = Value.ref q.1) (bs.map fun q => Value.ref q.1) bs
  | [] => .nil
  | _ :: bs => .cons rfl (each_refs bs)
theorem refs_each : ∀ {bs : List (Addr × List Key)} {us : List Value}, EachIs (fun v (q : Addr × List Key) => v = Value.ref q.1) us bs → Vals (bs.map fun q => V.ref q.1) us
  | _, _, .nil => .nil
  | _, _, .cons e t => .cons e (refs_each t)
theorem call_gsortedT {X : Cx} (hc : X.calm = true) (hu : X.A.units + 64 < cLine) : CallR X (.builtin "sorted") gSortedT := by
  intro pins s σ H xs us Q I r h
  obtain ⟨d, kvs, rfl, hd, al, so, q⟩ := h
  obtain ⟨u, rfl, ru⟩ := vals1 r
  cases (show u = Value.ref d from ru)
  obtain ⟨hz, sysm, ks, pr, o, es, ep, ho, ex, hdt, he, nd⟩ := (show ObjOk X.prog X.w H s.heap d (.dT kvs) from I.hok d _ hd)
  have n1 : es.size = ks.length := size_of_entries he
  have n2 : kvs.length = ks.length := Paired.length pr
  apply Calls.call_function_entry PyProof.Rows.kind_sorted PyProof.Rows.plain_sorted PyProof.Rows.entry_sorted (PyProof.Rows.args_sorted1 _)
  unfold Builtin.«sorted»
  apply wpAny_bind (m := checkCount "sorted" 1 1 _)
  apply wpAny_pure
  apply wpAny_bind
  apply PySem.W.kdu_collect (A := X.A.in1) (kdl_raw sysm ex hdt) (I.ok.hd hc) ho (by omega)
  intro h' tk acc keep items
  have bs0 : acc.toList = (ks.map fun x => (x.2.1, x.1)).map fun q => Value.ref q.1 := by
    rw [List.map_map]
    apply List.ext_getElem?
    intro j
    rw [List.getElem?_map]
    have len : acc.toList.length = ks.length := by
      rw [show acc.toList.length = acc.size from Array.length_toList, items.1]
      exact n1
    by_cases hj : j < ks.length
    · obtain ⟨v, hv⟩ : ∃ v, acc.toList[j]? = some v := ⟨_, List.getElem?_eq_getElem (by omega)⟩
      obtain ⟨en, e1, e2⟩ := items.2 j v (by rw [← Array.getElem?_toList]; exact hv)
      have at_ := entry_at he j
      rw [e1, List.getElem?_eq_getElem hj] at at_
      have ee : en = entryOfKey (tupleKind (mixKind X.prog X.w)) ks[j] := Option.some.inj at_
      rw [hv, List.getElem?_eq_getElem hj, e2, ee]
      rfl
    · rw [List.getElem?_eq_none (by omega), List.getElem?_eq_none (by omega)]
      rfl
  generalize hb : (ks.map fun x => (x.2.1, x.1)) = bs at bs0
  have keysEq : bs.map (·.2) = kvs.map (·.1) := by
    rw [← hb, List.map_map]
    clear hb bs0 al so q hz n1 n2 he nd hd
    induction pr with
    | nil => rfl
    | cons h t ih => rw [List.map_cons, List.map_cons, ih]; rw [h.1]; rfl
  have tups : ∀ x ∈ bs, H x.1 = some (.tup (x.2.map kV)) := by
    rw [← hb]
    clear keysEq hb bs0 al so q hz n1 n2 he nd hd
    intro x hx
    obtain ⟨y, hy, rfl⟩ := List.mem_map.1 hx
    induction pr with
    | nil => cases hy
    | cons h t ih =>
      rcases List.mem_cons.1 hy with rfl | hy
      · show H _ = some (.tup (_ : List V))
        rw [h.2.1, h.1]
      · exact ih hy (List.mem_map.2 ⟨y, hy, rfl⟩)
  have lb : bs.length = ks.length := by rw [← hb, List.length_map]
  have size : bs.length ≤ sizeLine := by omega
  have I1 : Inv X pins σ H { s with heap := h', toks := tk } := I.kept keep
  apply wpAny_bind
  refine wpAny_newList ?_ (by rw [bs0, List.length_map]; exact size)
  have here : (h'.push (seqObj "list" acc.toList.toArray 0)).get? h'.objs.size = some (seqObj "list" acc.toList.toArray 0) :=
    Heap.get?_push_size _ rfl
  show wpAny _ _ _ _ _ { s with heap := h'.push (seqObj "list" acc.toList.toArray 0), toks := tk }
  have dat : bs.map keyD = kvs.map fun kv => .tuple (kv.1.map kD) := by
    have e1 : bs.map keyD = (bs.map (·.2)).map fun k => PyData.tuple (k.map kD) := by
      rw [List.map_map]
      rfl
    rw [e1, keysEq, List.map_map]
    rfl
  have rd : EachIs (fun v (x : Addr × List Key) => ∃ as, Reads (h'.push (seqObj "list" acc.toList.toArray 0)) v (keyD x) as ∧ h'.objs.size ∉ as) acc.toList bs := by
    rw [bs0]
    refine each_in (each_refs bs) fun v x hx e => ?_
    subst e
    obtain ⟨_, its, rv, ob, a1, a2, n, a3⟩ := (show ObjOk X.prog X.w H s.heap x.1 (.tup (x.2.map kV)) from I.hok _ _ (tups x hx))
    exact ⟨[], .tuple (Heap.get?_push_of_some _ (keep _ _ a1)) a2 a3 (kD_reads rv), List.not_mem_nil⟩
  have ev : EachIs (fun v (x : Addr × List Key) => v = Value.ref x.1) acc.toList bs := by
    rw [bs0]
    exact each_refs bs
  apply wpAny_bind
  apply wpAny_holding
  have fin := PySem.W.list_sort_data (prog := X.prog) (w := X.w) (A := X.A.in1) (E := X.xe) (s := { s with heap := h'.push (seqObj "list" acc.toList.toArray 0), toks := tk }) (enc := keyD) here ev rd (by rw [dat]; exact al) (by rw [dat]; exact so) size
    (fun x _ => by have := keyD_depth x; show X.A.units + 1 + 1 + (keyD x).depth < cLine; omega)
    (Q := fun _ s2 => EP X pins σ Q (.ref h'.objs.size) s2) (fun out len eo => by
      obtain ⟨c, at_⟩ := sortedHeap_at (out := out.toArray) here
      have ov := refs_each eo
      have ol : ((bs.mergeSort (dataLe false keyD)).map fun q => V.ref q.1).length ≤ sizeLine := by
        rw [List.length_map, List.length_mergeSort]
        exact size
      have new : ObjOk X.prog X.w (upd H h'.objs.size (.lst ((bs.mergeSort (dataLe false keyD)).map fun q => V.ref q.1))) (PyProof.Rows.sortedHeap (h'.push (seqObj "list" acc.toList.toArray 0)) h'.objs.size acc.toList out.toArray) h'.objs.size
          (.lst ((bs.mergeSort (dataLe false keyD)).map fun q => V.ref q.1)) := ⟨ol, out, c, ov, at_⟩
      have J := I1.laid (t' := tk) (h' := PyProof.Rows.sortedHeap (h'.push (seqObj "list" acc.toList.toArray 0)) h'.objs.size acc.toList out.toArray) (fun b o e => by
        have lt := Heap.lt_size e
        rw [sortedHeap_old (Nat.ne_of_lt lt) (by rw [Heap.size_push]; exact Nat.lt_succ_of_lt lt)]
        exact Heap.get?_push_of_some _ e) (Nat.le_refl _) new
      exact ⟨.ref _, _, J, rfl, q _ _ keysEq tups (I1.hok.fresh (Nat.le_refl _))⟩)
  refine wpAny_mono fin (fun _ s2 x => ?_) fun _ _ e => e
  exact wpAny_pure ⟨_, rfl, x⟩
end GL

/-! G16: del d[k] of a dict by tuples; sorted of it, derived. -/
namespace GL
open PySem PySem.Spec L2
open PyProof.Rows hiding St
open PySem.W (EachIs AllAlike Sortable dataLe)
section
variable {K : Type} [DecidableEq K] {prog : Program} {w : World} {knd : HeapKind prog w K}
theorem meetsDel {d b : Addr} {k : K} :
    MeetsIn prog w (Builtin.«dict.__delitem__» ⟨[.ref d, .ref b], []⟩) (fun A R s => ∃ xs p, knd.room A.in1 ∧ knd.is s.heap k b ∧ s.heap.DictOfH knd d xs ∧ xs.length ≤ sizeLine ∧ atKey xs k = some p ∧
      ∀ h' tk, h'.DictOfH knd d (DT.dropH xs k) → Heap.SameBut d s.heap h' → R (.ok (.ret .none)) { s with heap := h', toks := tk }) :=
  .of_wp fun A R s ⟨xs, p, room, key, dict, sz, there, go⟩ => by
    unfold Builtin.«dict.__delitem__»
    apply wpAny_bind
    unfold Builtin.Dict.dictSlotArgs
    apply wpAny_bind
    apply wpAny_notOrdered_dict dict.typeIs
    show wpAny _ _ (pure (Value.ref d, Value.ref b)) _ _ s
    apply wpAny_pure
    show wpAny _ _ (Builtin.Dict.takeOut d (.ref b) >>= _) _ _ s
    apply wpAny_bind
    apply DT.takeH room key dict sz
    · intro no
      rw [there] at no
      cases no
    · intro p2 e _ _ h' dict' same
      exact wpAny_bind (wpAny_letGo (wpAny_pure ⟨.none, rfl, go h' _ dict' same⟩))
end
section
variable {X : Cx} {pins : List (Addr × Obj)} {σ : L2.St} {H : Hp} {s : Shared} {A : Around} {a b : Addr} {kvs : List (List Key × V)} {ks : List Key}
theorem del_tup {Q : Unit → Shared → Prop} {E : Value → Shared → Prop} (hu : A.units + 1 < cLine) (I : Inv X pins σ H s) (ha : H a = some (.dT kvs)) (hb : H b = some (.tup (ks.map kV))) (there : (valV kvs ks).isSome = true)
    (k : ∀ s', Inv X pins σ (upd H a (.dT (dropK kvs ks))) s' → Q () s') : wpAny (model X.prog X.w) A (delItem (.ref a) (.ref b)) Q E s := by
  obtain ⟨z, sysm, xs, rel, dd⟩ := dt_of I.hok ha
  have sz : xs.length ≤ sizeLine := by
    rw [← Paired.length rel]
    exact z
  obtain ⟨v0, ev⟩ := Option.isSome_iff_exists.1 there
  have r := rel.val ks
  rw [ev] at r
  obtain ⟨p, hp⟩ : ∃ p, atKey xs ks = some p := by
    cases e : atKey xs ks with
    | some p => exact ⟨p, rfl⟩
    | none =>
      rw [e] at r
      exact (show False from r).elim
  apply wpAny_delItem_slot dd.typeIs (by decide) PySem.F.slot_dict_delitem
  apply call_meetsIn PySem.F.slot_dict_delitem dd.typeIs PySem.F.entry_dict_delitem (PySem.F.args_dict_delitem_2 _ _) (meetsDel (knd := tupleKind (mixKind X.prog X.w)) (k := ks))
  refine ⟨xs, p, tupleKind_room_in1 hu, key_of I.hok hb, dd, sz, hp, fun h' tk dd' same => k _ ?_⟩
  obtain ⟨o, es, ep, g1, g2, g3, g4, _, g5⟩ := dd'
  exact d_write I (by rw [ha]; exact True.intro) same ⟨o, g1⟩
    ⟨Nat.le_trans (dropK_le kvs ks) z, sysm, _, (L2.DX.KT_drop ks rel).keeps (fun c ys ec => by rw [upd_ne (ne_of ec ha (fun z => nomatch z))]; exact ec), o, es, ep, g1, g2, g3, g4, g5⟩
end
def sDDelT (td ty : TE) : TS := fun D σ H => td σ H fun x H1 => ty σ H1 fun y H2 => ∃ a b kvs ks, x = .ref a ∧ y = .ref b ∧ H2 a = some (.dT kvs) ∧ H2 b = some (.tup (ks.map kV)) ∧ (valV kvs ks).isSome = true ∧ D.nx σ (upd H2 a (.dT (dropK kvs ks)))
theorem ps_ddelT {X : Cx} {o i : Expr} {td ty : TE} {tpos pos : Pos} (hu : X.A.units + 1 < cLine) (ho : PE X o td) (hi : PE X i ty) : PS X (.Delete [.Subscript o i tpos] pos) (sDDelT td ty) := by
  constructor
  intro pins s σ H D I h
  apply wpAny_Delete
  apply wpAny_deleteEach_cons
  apply wpAny_delete_Subscript
  refine thn (ho.run pins s σ H _ I h) ?_
  rintro u s1 ⟨x, H1, I1, rx, q1⟩
  refine thn (hi.run pins s1 σ H1 _ I1 q1) ?_
  rintro iv s2 ⟨y, H2, I2, ry, a, b, kvs, ks, rfl, rfl, ha, hb, th, q2⟩
  obtain rfl : u = Value.ref a := rx
  obtain rfl : iv = Value.ref b := ry
  exact del_tup hu I2 ha hb th fun s3 I3 => wpAny_deleteEach_nil ⟨σ, _, I3, q2⟩
/-! ### derived -/
section
variable {K : PySem.W.Frag} {D0 D1 : Hp} {R : Res} {l : List (V × PyData)} {σ : L2.St} {D : Ends} {Q : VK} {L : List (Addr × HO)} {T : Hp → Prop}
theorem At.tup_free {N : Addr → Prop} {H : Hp} (A : At K D0 R l N H) {b : Addr} {xs : List V} (h : H b = some (.tup xs)) : ¬ N b := fun hn => by
  obtain ⟨o, e, z⟩ := A.nt b hn
  rw [h] at e
  exact z xs (Option.some.inj e).symm
theorem keys_dt {H : Hp} : ∀ {bs : List (Addr × List Key)}, (∀ q ∈ bs, H q.1 = some (.tup (q.2.map kV))) → DtAll K H (bs.map fun q => V.ref q.1) (bs.map keyD)
  | [], _ => .nil
  | q :: bs, h => .cons (.tup (.inl (.inl (h q List.mem_cons_self))) (kD_dp q.2)) (keys_dt fun x hx => h x (List.mem_cons_of_mem _ hx))
theorem d_sortedT {d : Addr} {kvs : List (List Key × V)} (hd : (d, .dT kvs) ∈ L) (al : AllAlike (kvs.map fun kv => .tuple (kv.1.map kD))) (so : Sortable (kvs.map fun kv => .tuple (kv.1.map kD)))
    (k : ∀ v, RD K D0 (star (objs L) R) ((v, .list ((kvs.map fun kv => PyData.tuple (kv.1.map kD)).mergeSort (dataLe false id))) :: l) (Q v)) : RD K D0 (star (objs L) R) l (fun H => gSortedT [.ref d] H Q) := fun N H A => by
  refine ⟨d, kvs, rfl, A.ob hd, al, so, fun p bs e1 tups hp => ?_⟩
  obtain ⟨A', e⟩ := A.new (.lst ((bs.mergeSort (dataLe false keyD)).map fun q => V.ref q.1)) hp
  have dat : bs.map keyD = kvs.map fun kv => PyData.tuple (kv.1.map kD) := by
    have z : bs.map keyD = (bs.map (·.2)).map fun k => PyData.tuple (k.map kD) := by
      rw [List.map_map]
      rfl
    rw [z, e1, List.map_map]
    rfl
  have ds : DtAll K (off (upd H p (.lst ((bs.mergeSort (dataLe false keyD)).map fun q => V.ref q.1))) N) ((bs.mergeSort (dataLe false keyD)).map fun q => V.ref q.1) ((bs.mergeSort (dataLe false keyD)).map keyD) :=
    keys_dt fun q hq => by
      have t := tups q ((List.mergeSort_perm _ _).mem_iff.1 hq)
      rw [off_ne (A.tup_free t), upd_ne (ne_of_none t hp)]
      exact t
  have em : (bs.mergeSort (dataLe false keyD)).map keyD = (bs.map keyD).mergeSort (dataLe false id) := List.map_mergeSort fun _ _ _ _ => rfl
  rw [em, dat] at ds
  exact k _ N _ (A'.facts (.lst e ds))
def kDDelT (x y : V) (H2 : Hp) (Qn : Hp → Prop) : Prop := ∃ a b kvs ks, x = .ref a ∧ y = .ref b ∧ H2 a = some (.dT kvs) ∧ H2 b = some (.tup (ks.map kV)) ∧ (valV kvs ks).isSome = true ∧ Qn (upd H2 a (.dT (dropK kvs ks)))
theorem d_sDDelT {td ty : TE} (k : RD K D0 R l (fun H => td σ H fun x H1 => ty σ H1 fun y H2 => kDDelT x y H2 fun H3 => D.nx σ H3)) : RD K D0 R l (fun H => sDDelT td ty D σ H) := k
theorem d_delT {a b : Addr} {kvs : List (List Key × V)} {ks : List Key} {Qn : Hp → Prop} (ha : (a, .dT kvs) ∈ L) (hb : D0 b = some (.tup (ks.map kV))) (th : (valV kvs ks).isSome = true) (k : RD K D0 (star (objs (putO L a (.dT (dropK kvs ks)))) R) l Qn) :
    RD K D0 (star (objs L) R) l (fun H => kDDelT (.ref a) (.ref b) H Qn) := fun N H A => ⟨a, b, kvs, ks, rfl, rfl, A.ob ha, A.fixed hb, th, k N _ (A.setOb (fun _ z => by cases z) ha)⟩
end
end GL

/-! G17: derived rules for try with several clauses, for errors over any base, for len of a dict. -/
namespace GL
open PySem PySem.Spec L2
open PyProof.Rows hiding St
def gLenD : List V → Hp → VK → Prop := fun xs H Q => rLenT xs H Q ∨ ∃ a kvs, xs = [V.ref a] ∧ H a = some (.dK kvs) ∧ Q (.int (kvs.length : Nat)) H
theorem call_glenD {X : Cx} : CallR X (.builtin "len") gLenD := by
  intro pins s σ H xs us Q I r h
  rcases h with h | h
  · exact call_len_dT pins s σ H xs us Q I r h
  · exact call_lenD pins s σ H xs us Q I r h
section
variable {K : PySem.W.Frag} {D0 D1 : Hp} {R : Res} {l : List (V × PyData)} {σ : L2.St} {D : Ends} {Q : VK} {L : List (Addr × HO)} {T : Hp → Prop}
theorem d_tMix {tb : WX → TS} {cl : List Cl} {W : WX} (k : RD K D0 R l (fun H => tb (wMix K W D cl) D σ H)) : RD K D0 R l (fun H => tMix K tb cl W D σ H) := k
theorem d_mixYes {C C' : Addr} {d : Option Addr} {o : Option Nat} {ts : Addr → Value → Option Addr → TS} {r : List Cl} {W : WX} (te : PySem.W.exmOne K (.ref C) (.ref C') = some true)
    (k : ∀ a, RD K D0 R l (fun H => ts a (.ref C) d (endsOf o D) (slotOf a o σ) H)) : RD K D0 R l (fun H => wMix K W D ((.ref C', o, ts) :: r) (.ref C) d σ H) :=
  fun N H A => ⟨true, te, fun _ a _ => k a N H A, fun z => by cases z⟩
theorem d_mixNo {C C' : Addr} {d : Option Addr} {o : Option Nat} {ts : Addr → Value → Option Addr → TS} {r : List Cl} {W : WX} (te : PySem.W.exmOne K (.ref C) (.ref C') = some false)
    (k : RD K D0 R l (fun H => wMix K W D r (.ref C) d σ H)) : RD K D0 R l (fun H => wMix K W D ((.ref C', o, ts) :: r) (.ref C) d σ H) :=
  fun N H A => ⟨false, te, (fun z => by cases z), fun _ => k N H A⟩
theorem d_chain {r r' : R2} {ta tb tc : TE} (k : RD K D0 R l (fun H => ta σ H fun x H1 => tb σ H1 fun y H2 => r x y H2 fun z H3 => kBl z H3 fun c H4 => if c = true then tc σ H4 fun u H5 => r' y u H5 Q else Q (.bl false) H4)) : RD K D0 R l (fun H => tChain r r' ta tb tc σ H Q) := k
/-- a resource is forgotten -/
theorem At.drop {S : Res} {N : Addr → Prop} {H : Hp} (A : At K D0 (star S R) l N H) : ∃ N', At K D0 R l N' H := by
  obtain ⟨N1, N2, e, dj, h1, h2⟩ := A.r
  have sm : Same (off H N) (off H N2) := off_grow fun b hb _ => ⟨fun z => hb ((e b).2 (.inr z)), rfl⟩
  exact ⟨N2, fun b hb => A.nt b ((e b).2 (.inr hb)), R.st h2 sm fun _ _ => rfl, A.d0.trans sm, fun q hq => (A.f q hq).mono sm⟩
theorem RD.drop {S : Res} (k : RD K D0 R l T) : RD K D0 (star S R) l T := fun N H A => by
  obtain ⟨N', A'⟩ := A.drop
  exact k N' H A'
theorem d_lenDT {a : Addr} {kvs : List (List Key × V)} (ha : (a, .dT kvs) ∈ L) (k : RD K D0 (star (objs L) R) l (Q (.int (kvs.length : Nat)))) : RD K D0 (star (objs L) R) l (fun H => gLenD [.ref a] H Q) := fun N H A => .inl ⟨a, kvs, rfl, A.ob ha, k N H A⟩
theorem d_lenDK {a : Addr} {kvs : List (Key × V)} (ha : (a, .dK kvs) ∈ L) (k : RD K D0 (star (objs L) R) l (Q (.int (kvs.length : Nat)))) : RD K D0 (star (objs L) R) l (fun H => gLenD [.ref a] H Q) := fun N H A => .inr ⟨a, kvs, rfl, A.ob ha, k N H A⟩
/-! ### a method -/
def kGM (C : Addr) (m : Str) (x : V) (H1 : Hp) (k : Hp → Prop) : Prop := ∃ a dx fs, x = .ref a ∧ H1 a = some (.ins C dx fs) ∧ fs.lookup m = none ∧ k H1
theorem d_tGM {C : Addr} {m : Str} {sp : Sp} {W : WX} {ta : TE} {t : TA} (k : RD K D0 R l (fun H => ta σ H fun x H1 => kGM C m x H1 fun H2 => t σ H2 fun vs H3 => sp (x :: vs) H3 Q (WE W σ))) : RD K D0 R l (fun H => tGM C m sp W ta t σ H Q) := k
end
end GL

/-! G18: derived rules for a list that may change: in, len, sorted, pop; list + list; a, b = (x, y) of anything. -/
namespace GL
open PySem PySem.Spec L2
open PyProof.Rows hiding St
open PySem.W (AllAlike Sortable dataLe)
section
variable {K : PySem.W.Frag} {D0 : Hp} {R : Res} {l : List (V × PyData)} {σ : L2.St} {D : Ends} {Q : VK}
theorem At.ownDt {N : Addr → Prop} {H : Hp} {a : Addr} {ds : List PyData} (A : At K D0 (star (own K a ds) R) l N H) : Dt K H (.ref a) (.list ds) := by
  obtain ⟨xs, hx, hd⟩ := A.ownAt
  exact .lst hx (hd.mono off_same)
theorem d_inO {neg : Bool} {x : V} {a : Addr} {d : PyData} {ds : List PyData} (hx : InL l x d) (dp : d.depth ≤ 60) (k : RD K D0 (star (own K a ds) R) l (Q (.bl (if neg = true then !(ds.any fun e => PyData.eqv e d) else ds.any fun e => PyData.eqv e d)))) :
    RD K D0 (star (own K a ds) R) l (fun H => gIn K neg x (.ref a) H Q) := fun N H A => by
  cases neg with
  | false => exact .inl ⟨d, ds, A.dH hx, .inl A.ownDt, dp, k N H A⟩
  | true => exact .inl ⟨d, ds, A.dH hx, .inl A.ownDt, dp, k N H A⟩
theorem d_lenO {a : Addr} {ds : List PyData} (k : RD K D0 (star (own K a ds) R) l (Q (.int (ds.length : Nat)))) : RD K D0 (star (own K a ds) R) l (fun H => gLen K [.ref a] H Q) := fun N H A => by
  obtain ⟨xs, hx, hd⟩ := A.ownAt
  exact ⟨.ref a, ds.length, rfl, .inl ⟨xs, SqL.of hx, hd.len.symm⟩, k N H A⟩
theorem d_catL {x y : V} {ds es : List PyData} (hx : InL l x (.list ds)) (hy : InL l y (.list es)) (hz : ds.length + es.length ≤ sizeLine) (k : ∀ v, RD K D0 R ((v, .list (ds ++ es)) :: l) (Q v)) : RD K D0 R l (fun H => gAdd K x y H Q) := fun N H A => by
  obtain ⟨a, xs, rfl, ha, hd⟩ := (A.dt hx).list
  obtain ⟨b, ys, rfl, hb, he⟩ := (A.dt hy).list
  refine .inr (.inr (.inl ⟨a, b, xs, ys, rfl, rfl, off_same a _ ha, off_same b _ hb, by rw [hd.len, he.len]; exact hz, fun p hp => ?_⟩))
  obtain ⟨A', e⟩ := A.new (.lst (xs ++ ys)) hp
  have h1 := (A'.dt hx)
  have h2 := (A'.dt hy)
  obtain ⟨a', xs', e1, ha', hd'⟩ := h1.list
  obtain ⟨b', ys', e2, hb', he'⟩ := h2.list
  cases e1
  cases e2
  have x1 : xs' = xs := by
    have q := off_same a _ ha'
    rw [upd_ne (ne_of_none (off_same a _ ha) hp), off_same a _ ha] at q
    cases q
    rfl
  have y1 : ys' = ys := by
    have q := off_same b _ hb'
    rw [upd_ne (ne_of_none (off_same b _ hb) hp), off_same b _ hb] at q
    cases q
    rfl
  subst x1 y1
  exact k _ N _ (A'.facts (.lst e (hd'.append he')))
theorem d_tupPar {u v : V} {g : TGs} {Qn : L2.St → Hp → Prop} (k : RD K D0 R l (fun H => g [u, v] σ H Qn)) : RD K D0 R l (fun H => kTup [u, v] H fun x H1 => gTup K 2 g x σ H1 Qn) := fun N H A => by
  refine ⟨show 2 ≤ sizeLine by decide, fun p hp => ⟨p, [u, v], rfl, .inl (.inl upd_same), rfl, ?_⟩⟩
  obtain ⟨A', _⟩ := A.new (.tup [u, v]) hp
  exact k N _ A'
theorem d_popO {a : Addr} {ds : List PyData} {i : Nat} {d : PyData} (hi : ds[i]? = some d) (hz : ds.length < 2 ^ 63) (k : ∀ v, Dv v d → RD K D0 (star (own K a (ds.eraseIdx i)) R) ((v, d) :: l) (Q v)) :
    RD K D0 (star (own K a ds) R) l (fun H => rPopAt (.ref a) [.int i] H Q) := fun N H A => by
  obtain ⟨xs, hx, hd⟩ := A.ownAt
  obtain ⟨v, hv, dv⟩ := hd.at hi
  have lt := (List.getElem?_eq_some_iff.1 hi).1
  have lx : xs.length = ds.length := hd.len
  refine ⟨a, xs, i, i, v, rfl, rfl, hx, by omega, by omega, ?_, hv, ?_⟩
  · unfold seqIndex?
    have h1 : ¬ ((i : Int) < 0) := by omega
    rw [if_neg h1]
    have h2 : (decide (0 ≤ (i : Int)) && decide ((i : Int) < (xs.length : Int))) = true := by
      rw [decide_eq_true (show 0 ≤ (i : Int) by omega), decide_eq_true (show (i : Int) < (xs.length : Int) by omega)]
      rfl
    rw [if_pos h2]
    rfl
  · have A1 := (A.facts dv).setOwn (es := ds.eraseIdx i) (ys := xs.eraseIdx i) (hd.erase i)
    exact k v dv.dv _ _ A1
theorem RD.third {A B C S : Res} {T : Hp → Prop} (k : RD K D0 (star C (star A (star B S))) l T) : RD K D0 (star A (star B (star C S))) l T := RD.res (S := star C (star A (star B S))) (fun h => by
  obtain ⟨N1, N2, e, dj, h1, h2⟩ := h
  exact star_swap ⟨N1, N2, e, dj, h1, star_swap h2⟩) k
theorem RD.back {A B C S : Res} {T : Hp → Prop} (k : RD K D0 (star A (star B (star C S))) l T) : RD K D0 (star C (star A (star B S))) l T := RD.res (S := star A (star B (star C S))) (fun h => by
  obtain ⟨N1, N2, e, dj, h1, h2⟩ := star_swap h
  exact ⟨N1, N2, e, dj, h1, star_swap h2⟩) k
theorem d_lcList {v : V} {ds : List PyData} {g : TG} {tt : TT} {te : TE} {vs : List Nat} (hv : InL l v (.list ds)) (P : Nat → Res → List (V × PyData) → List PyData → Prop) (hkeep : ∀ i R' l' es, P i R' l' es → InL l' v (.list ds)) (h0 : P 0 R l [])
    (hs : ∀ i d x D R' l' es, ds[i]? = some d → Dv x d → P i R' l' es → RD K D0 (star (own K D es) R') ((x, d) :: l') (fun H => g x (wipe σ vs) H fun σ2 H2 => kWipe σ2 vs σ H2 fun H2 => tt σ2 H2 fun b H3 =>
      if b = true then te σ2 H3 fun y H4 => kItem D y H4 (ContC K D0 D (P (i + 1))) else ContC K D0 D (P (i + 1)) H3))
    (hd : ∀ v R' l' es, P ds.length R' l' es → RD K D0 R' ((v, .list es) :: l') (Q v)) :
    RD K D0 R l (fun H => wIt K v H fun J H1 => LcK g tt te vs σ Q J H1) := fun N H A => by
  obtain ⟨a, xs, rfl, ha, hd0⟩ := (A.dt hv).list
  have hl : ∀ {i D R' l' es N' H'}, P i R' l' es → At K D0 (star (own K D es) R') l' N' H' → ∃ xs', SqL K H' a xs' ∧ DtAll K (off H' N') xs' ds := fun p A' => by
    obtain ⟨a', xs', e, h', d'⟩ := (A'.dt (hkeep _ _ _ _ p)).list
    cases e
    exact ⟨xs', SqL.of (off_same a _ h'), d'⟩
  refine .inl ⟨a, rfl, ⟨xs, SqL.of (off_same a _ ha)⟩, fun D hD => ⟨fun i m H => m = ds.length - i ∧ i ≤ ds.length ∧ ContC K D0 D (P i) H, ⟨_, rfl, Nat.zero_le _, R, l, [], _, h0, A.newOwn hD .nil⟩, ?_⟩⟩
  rintro i m H' ⟨rfl, hi, R', l', es, N', p, A'⟩
  obtain ⟨xs', hq, d'⟩ := hl p A'
  by_cases hlt : i < ds.length
  · have hx : i < xs'.length := by rw [d'.len]; exact hlt
    refine .inr ⟨⟨xs', xs'[i], hq, by simp [hx]⟩, ContC K D0 D (P (i + 1)), fun H2 p => ⟨ds.length - (i + 1), by omega, rfl, hlt, p⟩, ?_⟩
    rintro x H2 ⟨rfl, hy⟩
    obtain ⟨d, e1, e2⟩ := d'.get (hy xs' hq)
    exact hs i d x D R' l' es e1 e2.dv p N' _ (A'.facts e2)
  · have e : i = ds.length := by omega
    subst e
    obtain ⟨N2, A2⟩ := A'.freeze
    exact .inl ⟨⟨xs', hq, by rw [d'.len]; exact Nat.le_refl _⟩, hd (.ref D) R' l' es p N2 H' A2⟩
end
end GL

/-! I1: is_log: all of a comprehension. -/
namespace GL
open PySem PySem.Spec L2
open PyProof.Rows hiding St
open SX (S)
local macro_rules | `(tactic| walk_at "mem") => `(tactic| (first | exact List.Mem.head _ | exact List.Mem.tail _ (List.Mem.head _) | exact List.Mem.tail _ (List.Mem.tail _ (List.Mem.head _)) | ((repeat (first | exact List.Mem.head _ | apply List.Mem.tail)); done)))
local macro_rules | `(tactic| walk_at "inl") => `(tactic| (first | exact InL.int _ | exact InL.str _ | exact InL.bl _ | exact InL.non | (refine InL.mem ?zm; walk_at "mem") | assumption))
local macro_rules | `(tactic| walk_at "inls") => `(tactic| (repeat (first | exact InLs.nil | (refine InLs.cons ?zi ?_; case zi => walk_at "inl"))))
local macro_rules | `(tactic| walk_at "set") => `(tactic| (simp only [wipe, List.set_cons_succ, List.set_cons_zero]; rfl))
local macro_rules | `(tactic| walk_at "tails") => `(tactic| (first | exact sub_refl | exact sub_tail sub_refl | exact sub_tail (sub_tail sub_refl) | exact sub_nil | ((repeat (first | exact sub_refl | apply sub_tail)); done)))
local macro_rules | `(tactic| walk_at "sub") => `(tactic| (first | walk_at "tails" | ((repeat (refine sub_cons ?zi ?_; case zi => walk_at "inl")); walk_at "tails")))
local macro_rules | `(tactic| walk_at "g1") => `(tactic| (first
  | with_reducible refine d_seq ?_
  | with_reducible refine d_asg ?_
  | ((with_reducible refine d_name (σ' := ?zs) ?zh ?_); (case zh => walk_at "set"))
  | ((with_reducible refine d_var (v := ?zs) ?zh ?_); (case zh => rfl))
  | with_reducible refine d_C ?_
  | with_reducible refine d_op ?_
  | with_reducible refine d_cons ?_
  | with_reducible refine d_nil ?_
  | with_reducible refine d_cb ?_
  | with_reducible refine d_g ?_
  | with_reducible refine d_ifS ?_
  | with_reducible refine d_test ?_
  | with_reducible refine d_bl ?_
  | with_reducible refine d_addI ?_
  | with_reducible refine d_I0 ?_
  | with_reducible refine d_ret ?_
  | with_reducible refine d_retN ?_
  | with_reducible refine d_next ?_
  | with_reducible refine d_drop ?_
  | with_reducible refine d_and ?_
  | with_reducible refine d_or ?_
  | with_reducible refine d_not ?_
  | with_reducible refine d_andV ?_
  | with_reducible refine d_orV ?_
  | with_reducible refine d_notV ?_
  | with_reducible refine d_tru ?_
  | with_reducible refine d_truB ?_
  | with_reducible refine d_tif ?_
  | with_reducible refine d_iteT ?_
  | with_reducible refine d_iteF ?_
  | with_reducible refine d_iteNT ?_
  | with_reducible refine d_iteNF ?_
  | with_reducible refine d_eqI ?_
  | with_reducible refine d_neI ?_
  | with_reducible refine d_eqS ?_
  | with_reducible refine d_neS ?_
  | with_reducible refine d_eqB ?_
  | with_reducible refine d_neB ?_
  | with_reducible refine d_isN ?_
  | with_reducible refine d_notN ?_
  | with_reducible refine d_bm ?_
  | with_reducible refine d_tyS ?_
  | with_reducible refine d_tyO ?_
  | with_reducible refine d_find3 ?_
  | with_reducible refine d_tup ?_
  | with_reducible refine d_lst ?_
  | with_reducible refine d_for ?_
  | with_reducible refine d_iRng1 ?_
  | with_reducible refine d_gIt ?_
  | with_reducible refine d_lc ?_
  | with_reducible refine d_yes ?_
  | with_reducible refine d_tSl ?_
  | with_reducible refine d_noPart ?_
  | with_reducible refine d_part ?_
  | with_reducible refine d_int ?_
  | ((with_reducible refine d_wipe ?zh ?_); (case zh => rfl))
  | ((with_reducible refine d_aug (v := ?zs) ?zh ?_); (case zh => rfl))
  | with_reducible refine d_ipI ?_
  | ((with_reducible refine d_set (σ' := ?zs) ?zh ?_); (case zh => walk_at "set"))))
local macro_rules | `(tactic| walk_at "go") => `(tactic| (repeat walk_at "g1"))
def goodB (cs : List Nat) (k : Nat) : Bool := cs.all fun c => decide (c ∈ ([97, 98, 99] : List Nat).take k)
theorem goodB_iff {cs : List Nat} {k : Nat} : goodB cs k = true ↔ ∀ c ∈ cs, c ∈ ([97, 98, 99] : List Nat).take k := by
  simp [goodB]
def notStrT : List String := ["NoneType", "int", "bool", "tuple", "list", "dict"]
theorem notStr {K : PySem.W.Frag} {t : String} (h : t ∈ notStrT) : PySem.W.kitOne K (.type t) (.type "str") = some false := by
  simp only [notStrT, List.mem_cons, List.not_mem_nil, or_false] at h
  rcases h with rfl | rfl | rfl | rfl | rfl | rfl <;> rfl
def sp_is_log (K : PySem.W.Frag) : Sp := fun vs H Q E => ∃ (v : V) (k : Nat) (D0 : Hp) (F : Res) (l : List (V × PyData)) (N : Addr → Prop), vs = [v, .int k] ∧ At K D0 F l N H ∧
  ((∃ cs : List Nat, v = .str (S cs) ∧ cs.length ≤ 1000000 ∧ RD K D0 F l (Q (.bl (goodB cs k)))) ∨
   (∃ t, t ∈ notStrT ∧ (∀ (N : Addr → Prop) (H : Hp), At K D0 F l N H → TyX K H v (.type t)) ∧ RD K D0 F l (Q (.bl false))))
def t_is_log (K : PySem.W.Frag) (W : WX) : TS := (tRet (tAndV (tCB (rIsi K) (tCons (tVar 0) (tCons (tC (.ty "str")) tNil))) (tCB (rAll K) (tCons (tLc (gIt K (tVar 0)) (gName 2) tYes (tOp (gIn K false) (tVar 2) (tSl (gSl K) (tC (.str "abc")) tNoPart (tPart (tVar 1)))) [2]) tNil))))

section
variable {K : PySem.W.Frag} {W : WX} {D0 : Hp} {R : Res} {l : List (V × PyData)} {Q : VK} {vs : List V} {H : Hp} {E : XK}
theorem d_all {x : V} {bs : List Bool} (hx : InL l x (.list (bs.map .bool))) (k : RD K D0 R l (Q (.bl (bs.all id)))) : RD K D0 R l (fun H => L2.rAll K [x] H Q) := fun N H A => by
  obtain ⟨p, xs, rfl, hp, hd⟩ := (A.dt hx).list
  obtain rfl := hd.bls
  exact ⟨p, bs, rfl, SqL.of (off_same p _ hp), k N H A⟩
theorem len_is_log (h : sp_is_log K vs H Q E) : vs.length = 2 := by
  obtain ⟨_, _, _, _, _, _, rfl, _⟩ := h
  rfl
theorem pure_is_log (h : sp_is_log K vs H Q E) : t_is_log K W { nx := fun _ H' => Q .non H', rt := Q } (start ["value", "signs", "letter"] vs) H := by
  obtain ⟨v, k, D0, F, l, N, rfl, A, h⟩ := h
  refine (?_ : RD K D0 F l (fun H => t_is_log K W _ [some v, some (.int k), none] H)) N H A
  unfold t_is_log
  rcases h with ⟨cs, rfl, hl, kY⟩ | ⟨t, ht, hty, kN⟩
  · walk_at "go"
    refine d_isi (d := .str (S cs)) (InL.str _) (b := true) (fun t e => by subst e; rfl) ?_
    walk_at "go"
    refine d_lcStr (fun i R' l' es => R' = F ∧ l' = l ∧ es = (cs.take i).map fun c => PyData.bool (decide (c ∈ ([97, 98, 99] : List Nat).take k))) ⟨rfl, rfl, rfl⟩ ?_ ?_
    · rintro i c D R' l' es hc ⟨rfl, rfl, rfl⟩
      rw [S_tl] at hc
      have hi := (List.getElem?_eq_some_iff.1 hc).1
      walk_at "go"
      rw [abc_S]
      refine d_takeA (by decide) ?_
      refine d_inSg ?_
      rw [S_tl]
      refine d_item (l' := l') (d := .bool (decide (c ∈ ([97, 98, 99] : List Nat).take k))) (.bl _) ?_ ⟨rfl, rfl, ?_⟩ (by walk_at "sub")
      · rw [List.length_map, List.length_take]
        exact Nat.lt_of_lt_of_le (by omega) line_big
      · rw [List.take_succ, hc, List.map_append]; rfl
    · rintro v R' l' es ⟨rfl, rfl, rfl⟩
      rw [S_tl, List.take_length]
      refine d_all (bs := cs.map fun c => decide (c ∈ ([97, 98, 99] : List Nat).take k)) (.mem (by rw [List.map_map]; exact List.Mem.head _)) ?_
      have e : (cs.map fun c => decide (c ∈ ([97, 98, 99] : List Nat).take k)).all id = goodB cs k := by
        rw [List.all_map]; rfl
      rw [e]
      exact RD.forget kY
  · walk_at "go"
    refine d_ty hty (notStr ht) ?_
    walk_at "go"
    exact kN
theorem d_isLogS {cs : List Nat} {k : Nat} (hl : cs.length ≤ 1000000) (kk : RD K D0 R l (Q (.bl (goodB cs k)))) : RD K D0 R l (fun H => sp_is_log K [.str (S cs), .int k] H Q E) :=
  fun N H A => ⟨.str (S cs), k, D0, R, l, N, rfl, A, .inl ⟨cs, rfl, hl, kk⟩⟩
theorem d_isLogN {v : V} {t : String} {k : Nat} (ht : t ∈ notStrT) (hty : ∀ (N : Addr → Prop) (H : Hp), At K D0 R l N H → TyX K H v (.type t)) (kk : RD K D0 R l (Q (.bl false))) : RD K D0 R l (fun H => sp_is_log K [v, .int k] H Q E) :=
  fun N H A => ⟨v, k, D0, R, l, N, rfl, A, .inr ⟨t, ht, hty, kk⟩⟩
end
end GL

/-! M1: machines: small defs. -/
namespace GL
open PySem PySem.Spec L2
open PyProof.Rows hiding St
open SX (S)
local macro_rules | `(tactic| walk_at "mem") => `(tactic| (first | exact List.Mem.head _ | exact List.Mem.tail _ (List.Mem.head _) | exact List.Mem.tail _ (List.Mem.tail _ (List.Mem.head _)) | ((repeat (first | exact List.Mem.head _ | apply List.Mem.tail)); done)))
local macro_rules | `(tactic| walk_at "inl") => `(tactic| (first | exact InL.int _ | exact InL.str _ | exact InL.bl _ | exact InL.non | (refine InL.mem ?zm; walk_at "mem") | assumption))
local macro_rules | `(tactic| walk_at "inls") => `(tactic| (repeat (first | exact InLs.nil | (refine InLs.cons ?zi ?_; case zi => walk_at "inl"))))
local macro_rules | `(tactic| walk_at "set") => `(tactic| (simp only [wipe, List.set_cons_succ, List.set_cons_zero]; rfl))
local macro_rules | `(tactic| walk_at "tails") => `(tactic| (first | exact sub_refl | exact sub_tail sub_refl | exact sub_tail (sub_tail sub_refl) | exact sub_nil | ((repeat (first | exact sub_refl | apply sub_tail)); done)))
local macro_rules | `(tactic| walk_at "sub") => `(tactic| (first | walk_at "tails" | ((repeat (refine sub_cons ?zi ?_; case zi => walk_at "inl")); walk_at "tails")))
local macro_rules | `(tactic| walk_at "g1") => `(tactic| (first
  | with_reducible refine d_seq ?_
  | with_reducible refine d_asg ?_
  | ((with_reducible refine d_name (σ' := ?zs) ?zh ?_); (case zh => walk_at "set"))
  | ((with_reducible refine d_var (v := ?zs) ?zh ?_); (case zh => rfl))
  | with_reducible refine d_C ?_
  | with_reducible refine d_op ?_
  | with_reducible refine d_cons ?_
  | with_reducible refine d_nil ?_
  | with_reducible refine d_cb ?_
  | with_reducible refine d_g ?_
  | with_reducible refine d_ifS ?_
  | with_reducible refine d_test ?_
  | with_reducible refine d_bl ?_
  | with_reducible refine d_addI ?_
  | with_reducible refine d_I0 ?_
  | with_reducible refine d_ret ?_
  | with_reducible refine d_retN ?_
  | with_reducible refine d_next ?_
  | with_reducible refine d_drop ?_
  | with_reducible refine d_and ?_
  | with_reducible refine d_or ?_
  | with_reducible refine d_not ?_
  | with_reducible refine d_andV ?_
  | with_reducible refine d_orV ?_
  | with_reducible refine d_notV ?_
  | with_reducible refine d_tru ?_
  | with_reducible refine d_truB ?_
  | with_reducible refine d_tif ?_
  | with_reducible refine d_iteT ?_
  | with_reducible refine d_iteF ?_
  | with_reducible refine d_iteNT ?_
  | with_reducible refine d_iteNF ?_
  | with_reducible refine d_eqI ?_
  | with_reducible refine d_neI ?_
  | with_reducible refine d_eqS ?_
  | with_reducible refine d_neS ?_
  | with_reducible refine d_eqB ?_
  | with_reducible refine d_neB ?_
  | with_reducible refine d_isN ?_
  | with_reducible refine d_notN ?_
  | with_reducible refine d_bm ?_
  | with_reducible refine d_tyS ?_
  | with_reducible refine d_tyO ?_
  | with_reducible refine d_find3 ?_
  | with_reducible refine d_tup ?_
  | with_reducible refine d_lst ?_
  | with_reducible refine d_for ?_
  | with_reducible refine d_iRng1 ?_
  | with_reducible refine d_gIt ?_
  | with_reducible refine d_lc ?_
  | with_reducible refine d_yes ?_
  | with_reducible refine d_tSl ?_
  | with_reducible refine d_noPart ?_
  | with_reducible refine d_part ?_
  | with_reducible refine d_int ?_
  | ((with_reducible refine d_wipe ?zh ?_); (case zh => rfl))
  | ((with_reducible refine d_aug (v := ?zs) ?zh ?_); (case zh => rfl))
  | with_reducible refine d_ipI ?_
  | ((with_reducible refine d_set (σ' := ?zs) ?zh ?_); (case zh => walk_at "set"))))
local macro_rules | `(tactic| walk_at "go") => `(tactic| (repeat walk_at "g1"))
local macro_rules | `(tactic| walk_at "g1") => `(tactic| (first
  | with_reducible refine d_chain ?_
  | with_reducible refine d_tB ?_
  | with_reducible refine d_tGM ?_
  | with_reducible refine d_rz ?_
  | with_reducible refine d_tXf ?_
  | with_reducible refine d_tFld ?_
  | with_reducible refine d_sFld ?_
  | with_reducible refine d_tMix ?_
  | with_reducible refine d_tDIn ?_
  | with_reducible refine d_tDNotIn ?_
  | with_reducible refine d_sDPut ?_
  | with_reducible refine d_sDDelT ?_))
/-- is this data a whole number from lo to hi? -/
def between (d : PyData) (lo hi : Int) : Bool := match d with
  | .int i => decide (lo ≤ i) && decide (i ≤ hi)
  | _ => false
def sp_is_between (K : PySem.W.Frag) : Sp := fun vs H Q _ => ∃ (v : V) (d : PyData) (lo hi : Int) (D0 : Hp) (F : Res) (l : List (V × PyData)) (N : Addr → Prop), vs = [v, .int lo, .int hi] ∧ At K D0 F l N H ∧ InL l v d ∧ d.hasDict = false ∧ RD K D0 F l (Q (.bl (between d lo hi)))
def t_is_between (K : PySem.W.Frag) (W : WX) : TS := (tRet (tAndV (tCB (rIsi K) (tCons (tVar 0) (tCons (tC (.ty "int")) tNil))) (tAndV (tNotV (tCB (rIsi K) (tCons (tVar 0) (tCons (tC (.ty "bool")) tNil)))) (tChain gLe gLe (tVar 1) (tVar 0) (tVar 2)))))

def okSign (cs : List Nat) (k : Nat) : Prop := ∃ c, cs = [c] ∧ c ∈ ([97, 98, 99] : List Nat).take k
def isSign (cs : List Nat) (k : Nat) : Bool := goodB cs k && decide (cs.length = 1)
theorem isSign_iff {cs : List Nat} {k : Nat} : isSign cs k = true ↔ okSign cs k := by
  rw [isSign, Bool.and_eq_true, goodB_iff, decide_eq_true_eq]
  constructor
  · rintro ⟨h, h1⟩
    obtain ⟨c, rfl⟩ := List.length_eq_one_iff.1 h1
    exact ⟨c, rfl, h c (List.mem_singleton.2 rfl)⟩
  · rintro ⟨c, rfl, hc⟩
    exact ⟨fun x hx => by rw [List.mem_singleton.1 hx]; exact hc, rfl⟩
def sp_is_sign (K : PySem.W.Frag) : Sp := fun vs H Q E => ∃ (cs : List Nat) (k : Nat) (D0 : Hp) (F : Res) (l : List (V × PyData)) (N : Addr → Prop), vs = [.str (S cs), .int k] ∧ cs.length ≤ 1000000 ∧ At K D0 F l N H ∧ RD K D0 F l (Q (.bl (isSign cs k)))
def t_is_sign (K : PySem.W.Frag) (W : WX) : TS := (tRet (tAndV (tG (sp_is_log K) W (tCons (tVar 0) (tCons (tVar 1) tNil))) (tOp (gEq K) (tCB (gLen K) (tCons (tVar 0) tNil)) (tC (.int 1)))))

def sp_require_sign (K : PySem.W.Frag) : Sp := fun vs H Q E => ∃ (cs : List Nat) (k : Nat) (D0 : Hp) (F : Res) (l : List (V × PyData)) (N : Addr → Prop), vs = [.str (S cs), .int k] ∧ cs.length ≤ 1000000 ∧ At K D0 F l N H ∧
  (okSign cs k → RD K D0 F l (Q (.str (S cs)))) ∧ (¬ okSign cs k → ∀ d, RD K D0 (star (xdo d [("value", .str (S cs))]) F) l (E (.ref (He.ga K "NotALog")) (some d)))
def t_require_sign (K : PySem.W.Frag) (W : WX) : TS := (tSeq (tIfS (tNot (tTru K (tG (sp_is_sign K) W (tCons (tVar 0) (tCons (tVar 1) tNil))))) (tRz (He.ga K "NotALog") "value" W (tCons (tVar 0) tNil)) tNext)
  (tRet (tVar 0)))

/-! ### a machine as it stands -/
structure Mch where
  k : Nat
  n : Nat
  es : List (Int × Nat × Int)
  st : List Int
  en : List Int
def ekey (e : Int × Nat × Int) : List Key := [.inl e.1, .inr (S [e.2.1]), .inl e.2.2]
def eKV (es : List (Int × Nat × Int)) : List (List Key × V) := es.map fun e => (ekey e, .bl true)
def iKV (is : List Int) : List (Key × V) := is.map fun i => (.inl i, .bl true)
def mFs (ed sd td : Addr) (m : Mch) : List (Str × V) := [("signs", .int m.k), ("states", .int m.n), ("_edges", .ref ed), ("_starts", .ref sd), ("_ends", .ref td)]
def mL (K : PySem.W.Frag) (a dx ed sd td : Addr) (m : Mch) : List (Addr × HO) :=
  [(a, .ins (He.ga K "Machine") dx (mFs ed sd td m)), (dx, .own a), (ed, .dT (eKV m.es)), (sd, .dK (iKV m.st)), (td, .dK (iKV m.en))]
def mach (K : PySem.W.Frag) (a : Addr) (m : Mch) : Res where
  h := fun N D H => ∃ dx ed sd td, [a, dx, ed, sd, td].Nodup ∧ (objs (mL K a dx ed sd td m)).h N D H
  st := fun ⟨dx, ed, sd, td, nd, h⟩ s k => ⟨dx, ed, sd, td, nd, (objs _).st h s k⟩
section
variable {K : PySem.W.Frag} {W : WX} {D0 : Hp} {R : Res} {l : List (V × PyData)} {Q : VK} {vs : List V} {H : Hp} {E : XK}
theorem len_is_between (h : sp_is_between K vs H Q E) : vs.length = 3 := by
  obtain ⟨_, _, _, _, _, _, _, _, rfl, _⟩ := h
  rfl
theorem pure_is_between (h : sp_is_between K vs H Q E) : t_is_between K W { nx := fun _ H' => Q .non H', rt := Q } (start ["value", "low", "high"] vs) H := by
  obtain ⟨v, d, lo, hi, D0, F, l, N, rfl, A, hd, nd, kk⟩ := h
  refine (?_ : RD K D0 F l (fun H => t_is_between K W _ [some v, some (.int lo), some (.int hi)] H)) N H A
  unfold t_is_between
  walk_at "go"
  have odd : ∀ {b : Bool}, (∀ t, t = tyD d → PySem.W.kitOne K (.type t) (.type "int") = some false) → between d lo hi = false → RD K D0 F l (fun H2 => rIsi K [v, .ty "int"] H2 fun x H1 => kBl x H1 fun c H2 =>
      if c = true then tAndV (tNotV (tCB (rIsi K) (tCons (tVar 0) (tCons (tC (V.ty "bool")) tNil)))) (tChain gLe gLe (tVar 1) (tVar 0) (tVar 2)) [some v, some (V.int lo), some (V.int hi)] H2 Q
      else Q (V.bl false) H2) := fun {_} hk hb => by
    rw [hb] at kk
    refine d_isi hd hk ?_
    walk_at "go"
    exact kk
  have dv := (A.dt hd).dv
  cases d with
  | none => exact odd (b := true) (fun t e => by subst e; rfl) rfl
  | str s => exact odd (b := true) (fun t e => by subst e; rfl) rfl
  | list xs => exact odd (b := true) (fun t e => by subst e; rfl) rfl
  | tuple xs => exact odd (b := true) (fun t e => by subst e; rfl) rfl
  | dict xs => cases nd
  | bool b =>
    refine d_isi hd (b := true) (fun t e => by subst e; rfl) ?_
    walk_at "go"
    refine d_isi hd (b := true) (fun t e => by subst e; rfl) ?_
    walk_at "go"
    exact kk
  | int i =>
    obtain rfl : v = .int i := dv
    refine d_isi hd (b := true) (fun t e => by subst e; rfl) ?_
    walk_at "go"
    refine d_isi hd (b := false) (fun t e => by subst e; rfl) ?_
    walk_at "go"
    refine d_iteP (fun h1 => ?_) (fun h1 => ?_)
    · walk_at "go"
      have e : between (.int i) lo hi = decide (i ≤ hi) := by simp [between, h1]
      rw [e] at kk
      exact kk
    · walk_at "go"
      have e : between (.int i) lo hi = false := by simp [between, h1]
      rw [e] at kk
      exact kk
theorem openMach {a : Addr} {m : Mch} {T : Hp → Prop} (k : ∀ dx ed sd td, [a, dx, ed, sd, td].Nodup → RD K D0 (star (objs (mL K a dx ed sd td m)) R) l T) : RD K D0 (star (mach K a m) R) l T := fun N H A => by
  obtain ⟨N1, N2, e, dj, ⟨dx, ed, sd, td, nd, h1⟩, h2⟩ := A.r
  exact k dx ed sd td nd N H ⟨A.nt, ⟨N1, N2, e, dj, h1, h2⟩, A.d0, A.f⟩
theorem closeMach {a dx ed sd td : Addr} {m : Mch} {T : Hp → Prop} (nd : [a, dx, ed, sd, td].Nodup) (k : RD K D0 (star (mach K a m) R) l T) : RD K D0 (star (objs (mL K a dx ed sd td m)) R) l T :=
  RD.res (S := star (mach K a m) R) (fun h => by
    obtain ⟨N1, N2, e, dj, h1, h2⟩ := h
    exact ⟨N1, N2, e, dj, ⟨dx, ed, sd, td, nd, h1⟩, h2⟩) k
theorem len_require_sign (h : sp_require_sign K vs H Q E) : vs.length = 2 := by
  obtain ⟨_, _, _, _, _, _, rfl, _⟩ := h
  rfl
theorem len_is_sign (h : sp_is_sign K vs H Q E) : vs.length = 2 := by
  obtain ⟨_, _, _, _, _, _, rfl, _⟩ := h
  rfl
theorem pure_is_sign (h : sp_is_sign K vs H Q E) : t_is_sign K W { nx := fun _ H' => Q .non H', rt := Q } (start ["value", "signs"] vs) H := by
  obtain ⟨cs, k, D0, F, l, N, rfl, hl, A, kk⟩ := h
  refine (?_ : RD K D0 F l (fun H => t_is_sign K W _ [some (.str (S cs)), some (.int k)] H)) N H A
  unfold t_is_sign
  walk_at "go"
  refine d_isLogS hl ?_
  walk_at "go"
  cases hg : goodB cs k with
  | false =>
    have e : isSign cs k = false := by rw [isSign, hg]; rfl
    rw [e] at kk
    walk_at "go"
    exact kk
  | true =>
    have e : isSign cs k = decide ((cs.length : Int) = 1) := by
      rw [isSign, hg, Bool.true_and]
      exact decide_eq_decide.2 (by omega)
    rw [e] at kk
    walk_at "go"
    refine d_len hl ?_
    walk_at "go"
    exact kk
theorem d_isSign {cs : List Nat} {k : Nat} (hl : cs.length ≤ 1000000) (kk : RD K D0 R l (Q (.bl (isSign cs k)))) : RD K D0 R l (fun H => sp_is_sign K [.str (S cs), .int k] H Q E) :=
  fun N H A => ⟨cs, k, D0, R, l, N, rfl, hl, A, kk⟩
theorem pure_require_sign (h : sp_require_sign K vs H Q E) : t_require_sign K (fun cls d _ H => E cls d H) { nx := fun _ H' => Q .non H', rt := Q } (start ["value", "signs"] vs) H := by
  obtain ⟨cs, k, D0, F, l, N, rfl, hl, A, kY, kN⟩ := h
  refine (?_ : RD K D0 F l (fun H => t_require_sign K (fun cls d _ H => E cls d H) _ [some (.str (S cs)), some (.int k)] H)) N H A
  unfold t_require_sign
  walk_at "go"
  refine d_isSign hl ?_
  walk_at "go"
  cases hs : isSign cs k with
  | true =>
    walk_at "go"
    exact kY (isSign_iff.1 hs)
  | false =>
    walk_at "go"
    refine d_kRz fun d => ?_
    exact kN (fun z => by rw [isSign_iff.2 z] at hs; cases hs) d
/-- the class, as the head tells of it -/
structure MCls (K : PySem.W.Frag) : Prop where
  c : Cls K (He.ga K "Machine")
  n1 : NoAttr K (He.ga K "Machine") "signs"
  n2 : NoAttr K (He.ga K "Machine") "states"
  n3 : NoAttr K (He.ga K "Machine") "_edges"
  n4 : NoAttr K (He.ga K "Machine") "_starts"
  n5 : NoAttr K (He.ga K "Machine") "_ends"
def sp_Machine__require_state (K : PySem.W.Frag) : Sp := fun vs H Q E => ∃ (a : Addr) (m : Mch) (v : V) (d : PyData) (D0 : Hp) (F : Res) (l : List (V × PyData)) (N : Addr → Prop), vs = [.ref a, v] ∧ At K D0 (star (mach K a m) F) l N H ∧ InL l v d ∧ d.hasDict = false ∧
  (between d 0 (m.n - 1) = true → RD K D0 (star (mach K a m) F) l (Q .non)) ∧ (between d 0 (m.n - 1) = false → ∀ x, RD K D0 (star (xdo x [("state", v)]) (star (mach K a m) F)) l (E (.ref (He.ga K "UnknownState")) (some x)))
def t_Machine__require_state (K : PySem.W.Frag) (W : WX) : TS := (tIfS (tNot (tTru K (tG (sp_is_between K) W (tCons (tVar 1) (tCons (tC (.int 0)) (tCons (tOp gSub' (tFld K (tVar 0) "states") (tC (.int 1))) tNil)))))) (tRz (He.ga K "UnknownState") "state" W (tCons (tVar 1) tNil)) tNext)

theorem len_Machine__require_state (h : sp_Machine__require_state K vs H Q E) : vs.length = 2 := by
  obtain ⟨_, _, _, _, _, _, _, _, rfl, _⟩ := h
  rfl
theorem d_between {v : V} {d : PyData} {lo hi : Int} (hd : InL l v d) (nd : d.hasDict = false) (k : RD K D0 R l (Q (.bl (between d lo hi)))) : RD K D0 R l (fun H => sp_is_between K [v, .int lo, .int hi] H Q E) :=
  fun N H A => ⟨v, d, lo, hi, D0, R, l, N, rfl, A, hd, nd, k⟩
theorem pure_Machine__require_state (M : MCls K) (h : sp_Machine__require_state K vs H Q E) : t_Machine__require_state K (fun cls d _ H => E cls d H) { nx := fun _ H' => Q .non H', rt := Q } (start ["self", "state"] vs) H := by
  obtain ⟨a, m, v, d, D0, F, l, N, rfl, A, hd, nd, kY, kN⟩ := h
  refine (?_ : RD K D0 (star (mach K a m) F) l (fun H => t_Machine__require_state K (fun cls d _ H => E cls d H) _ [some (.ref a), some v] H)) N H A
  unfold t_Machine__require_state
  refine openMach fun dx ed sd td nd5 => ?_
  walk_at "go"
  refine d_fld (List.Mem.head _) M.c M.n2 (v := .int m.n) rfl ?_
  walk_at "go"
  refine closeMach nd5 ?_
  refine d_between hd nd ?_
  walk_at "go"
  cases hb : between d 0 (m.n - 1) with
  | true =>
    walk_at "go"
    exact kY hb
  | false =>
    walk_at "go"
    refine d_kRz fun x => ?_
    exact kN hb x
theorem d_kGM {a : Addr} {m : Mch} {n : Str} {T : Hp → Prop} (hn : ∀ ed sd td, (mFs ed sd td m).lookup n = none) (k : RD K D0 (star (mach K a m) R) l T) : RD K D0 (star (mach K a m) R) l (fun H => kGM (He.ga K "Machine") n (.ref a) H T) := fun N H A => by
  have h := k N H A
  obtain ⟨_, _, _, _, ⟨dx, ed, sd, td, _, _, hh⟩, _⟩ := A.r
  exact ⟨a, dx, mFs ed sd td m, rfl, hh _ (List.Mem.head _), hn ed sd td, h⟩
theorem d_reqState {a : Addr} {m : Mch} {v : V} {d : PyData} (hd : InL l v d) (nd : d.hasDict = false) (y : between d 0 (m.n - 1) = true → RD K D0 (star (mach K a m) R) l (Q .non))
    (n : between d 0 (m.n - 1) = false → ∀ x, RD K D0 (star (xdo x [("state", v)]) (star (mach K a m) R)) l (E (.ref (He.ga K "UnknownState")) (some x))) : RD K D0 (star (mach K a m) R) l (fun H => sp_Machine__require_state K [.ref a, v] H Q E) :=
  fun N H A => ⟨a, m, v, d, D0, R, l, N, rfl, A, hd, nd, y, n⟩
theorem d_reqSign {cs : List Nat} {k : Nat} (hl : cs.length ≤ 1000000) (y : okSign cs k → RD K D0 R l (Q (.str (S cs)))) (n : ¬ okSign cs k → ∀ d, RD K D0 (star (xdo d [("value", .str (S cs))]) R) l (E (.ref (He.ga K "NotALog")) (some d))) :
    RD K D0 R l (fun H => sp_require_sign K [.str (S cs), .int k] H Q E) := fun N H A => ⟨cs, k, D0, R, l, N, rfl, hl, A, y, n⟩
theorem ekey_inj {e e' : Int × Nat × Int} (h : ekey e = ekey e') : e = e' := by
  obtain ⟨o, c, t⟩ := e
  obtain ⟨o', c', t'⟩ := e'
  simp only [ekey, List.cons.injEq, Sum.inl.injEq, Sum.inr.injEq, and_true] at h
  obtain ⟨rfl, h2, rfl⟩ := h
  have := SX.S_inj h2
  simp at this
  rw [this]
theorem val_es (es : List (Int × Nat × Int)) (e : Int × Nat × Int) : (valV (eKV es) (ekey e)).isSome = decide (e ∈ es) := by
  induction es with
  | nil => rfl
  | cons x es ih =>
    by_cases h : x = e
    · subst h
      rw [show eKV (x :: es) = (ekey x, .bl true) :: eKV es from rfl, valV_pos rfl]
      simp
    · rw [show eKV (x :: es) = (ekey x, .bl true) :: eKV es from rfl, valV_neg (fun z => h (ekey_inj z)), ih]
      have : ¬ e = x := fun z => h z.symm
      simp [this]
theorem put_es {es : List (Int × Nat × Int)} {e : Int × Nat × Int} (h : e ∉ es) : putK (eKV es) (ekey e) (.bl true) = eKV (es ++ [e]) := by
  have n : ¬ ((eKV es).any fun kv => decide (kv.1 = ekey e)) = true := fun z => by
    obtain ⟨kv, hk, e2⟩ := List.any_eq_true.1 z
    obtain ⟨x, hx, rfl⟩ := List.mem_map.1 hk
    exact h (ekey_inj (of_decide_eq_true e2) ▸ hx)
  unfold putK
  rw [if_neg n]
  simp [eKV]
theorem put_mE {a dx ed sd td : Addr} {m : Mch} {es : List (Int × Nat × Int)} (nd : [a, dx, ed, sd, td].Nodup) : putO (mL K a dx ed sd td m) ed (.dT (eKV es)) = mL K a dx ed sd td { m with es := es } := by
  simp only [List.nodup_cons, List.mem_cons, List.not_mem_nil, or_false, not_or] at nd
  obtain ⟨⟨h1, h2, h3, h4⟩, ⟨h5, h6, h7⟩, ⟨h8, h9⟩, h10, _⟩ := nd
  simp only [putO, mL, List.map_cons, List.map_nil, if_neg h2, if_neg h5, if_true, if_neg (Ne.symm h8), if_neg (Ne.symm h9)]
  rfl
def sp_Machine_add_edge (K : PySem.W.Frag) : Sp := fun vs H Q E => ∃ (a : Addr) (m : Mch) (o t : Int) (cs : List Nat) (D0 : Hp) (F : Res) (l : List (V × PyData)) (N : Addr → Prop), vs = [.ref a, .int o, .str (S cs), .int t] ∧ At K D0 (star (mach K a m) F) l N H ∧ cs.length ≤ 1000000 ∧
  m.es.length ≤ 100 ∧
  (between (.int o) 0 (m.n - 1) = false → ∀ x, RD K D0 (star (xdo x [("state", .int o)]) (star (mach K a m) F)) l (E (.ref (He.ga K "UnknownState")) (some x))) ∧
  (between (.int o) 0 (m.n - 1) = true → between (.int t) 0 (m.n - 1) = false → ∀ x, RD K D0 (star (xdo x [("state", .int t)]) (star (mach K a m) F)) l (E (.ref (He.ga K "UnknownState")) (some x))) ∧
  (between (.int o) 0 (m.n - 1) = true → between (.int t) 0 (m.n - 1) = true → ¬ okSign cs m.k → ∀ x, RD K D0 (star (xdo x [("value", .str (S cs))]) (star (mach K a m) F)) l (E (.ref (He.ga K "NotALog")) (some x))) ∧
  ∀ c, cs = [c] → c ∈ ([97, 98, 99] : List Nat).take m.k → between (.int o) 0 (m.n - 1) = true → between (.int t) 0 (m.n - 1) = true →
    ((o, c, t) ∈ m.es → ∀ q x, RD K D0 (star (xdo x [("edge", .ref q)]) (star (mach K a m) F)) ((.ref q, .tuple [.int o, .str (S [c]), .int t]) :: l) (E (.ref (He.ga K "EdgeExists")) (some x))) ∧
    ((o, c, t) ∉ m.es → 14 ≤ m.es.length → ∀ x, RD K D0 (star (xdo x [("limit", .int 14)]) (star (mach K a m) F)) l (E (.ref (He.ga K "LimitExceeded")) (some x))) ∧
    ((o, c, t) ∉ m.es → m.es.length < 14 → RD K D0 (star (mach K a { m with es := m.es ++ [(o, c, t)] }) F) l (Q .non))
def t_Machine_add_edge (K : PySem.W.Frag) (W : WX) : TS := (tSeq (tDrop (tGM (He.ga K "Machine") "_require_state" (sp_Machine__require_state K) W (tVar 0) (tCons (tVar 1) tNil)))
  (tSeq (tDrop (tGM (He.ga K "Machine") "_require_state" (sp_Machine__require_state K) W (tVar 0) (tCons (tVar 3) tNil)))
  (tSeq (tDrop (tG (sp_require_sign K) W (tCons (tVar 2) (tCons (tFld K (tVar 0) "signs") tNil))))
  (tSeq (tAsg (tTup (tCons (tVar 1) (tCons (tVar 2) (tCons (tVar 3) tNil)))) (gName 4))
  (tSeq (tIfS (tB (tDIn (tVar 4) (tFld K (tVar 0) "_edges"))) (tRz (He.ga K "EdgeExists") "edge" W (tCons (tVar 4) tNil)) tNext)
  (tSeq (tIfS (tTest (tOp gGe (tCB gLenD (tCons (tFld K (tVar 0) "_edges") tNil)) (tC (.int 14)))) (tRz (He.ga K "LimitExceeded") "limit" W (tCons (tC (.int 14)) tNil)) tNext)
  (sDPut (tFld K (tVar 0) "_edges") (tVar 4) (tC (.bl true)))))))))

theorem len_Machine_add_edge (h : sp_Machine_add_edge K vs H Q E) : vs.length = 4 := by
  obtain ⟨_, _, _, _, _, _, _, _, _, rfl, _⟩ := h
  rfl
theorem pure_Machine_add_edge (M : MCls K) (h : sp_Machine_add_edge K vs H Q E) : t_Machine_add_edge K (fun cls d _ H => E cls d H) { nx := fun _ H' => Q .non H', rt := Q } (start ["self", "origin", "sign", "target", "edge"] vs) H := by
  obtain ⟨a, m, o, t, cs, D0, F, l, N, rfl, A, hl, he, k1, k2, k3, k4⟩ := h
  refine (?_ : RD K D0 (star (mach K a m) F) l (fun H => t_Machine_add_edge K (fun cls d _ H => E cls d H) _ [some (.ref a), some (.int o), some (.str (S cs)), some (.int t), none] H)) N H A
  unfold t_Machine_add_edge
  walk_at "go"
  refine d_kGM (fun _ _ _ => rfl) ?_
  walk_at "go"
  refine d_reqState (d := .int o) (.int _) rfl (fun ho => ?_) k1
  walk_at "go"
  refine d_kGM (fun _ _ _ => rfl) ?_
  walk_at "go"
  refine d_reqState (d := .int t) (.int _) rfl (fun ht => ?_) (k2 ho)
  walk_at "go"
  refine openMach fun dx ed sd td nd => ?_
  refine d_fld (List.Mem.head _) M.c M.n1 (v := .int m.k) rfl ?_
  refine closeMach nd ?_
  walk_at "go"
  refine d_reqSign hl (fun hs => ?_) (k3 ho ht)
  obtain ⟨c, rfl, hc⟩ := hs
  obtain ⟨k5, k6, k7⟩ := k4 c rfl hc ho ht
  walk_at "go"
  refine d_newTD (ds := [.int o, .str (S [c]), .int t]) (show 3 ≤ sizeLine by decide) (by walk_at "inls") fun q dq => ?_
  have at_q : upd D0 q (.tup [.int o, .str (S [c]), .int t]) q = some (.tup ((ekey (o, c, t)).map kV)) := upd_same
  walk_at "go"
  refine openMach fun dx ed sd td nd => ?_
  refine d_fld (List.Mem.head _) M.c M.n3 (v := .ref ed) rfl ?_
  refine d_dinT (kvs := eKV m.es) (ks := ekey (o, c, t)) (List.Mem.tail _ (List.Mem.tail _ (List.Mem.head _))) at_q ?_
  rw [if_neg (by decide), val_es]
  refine closeMach nd ?_
  walk_at "go"
  refine d_iteP (fun hm => ?_) (fun hm => ?_)
  · walk_at "go"
    refine d_kRz fun x => ?_
    exact RD.moreD (same_upd dq) (k5 hm q x)
  walk_at "go"
  refine openMach fun dx ed sd td nd => ?_
  refine d_fld (List.Mem.head _) M.c M.n3 (v := .ref ed) rfl ?_
  walk_at "go"
  refine d_lenDT (kvs := eKV m.es) (List.Mem.tail _ (List.Mem.tail _ (List.Mem.head _))) ?_
  rw [show (eKV m.es).length = m.es.length from List.length_map _]
  refine closeMach nd ?_
  walk_at "go"
  refine d_iteP (fun hg => ?_) (fun hg => ?_)
  · walk_at "go"
    refine d_kRz fun x => ?_
    exact RD.moreD (same_upd dq) (RD.forget (k6 hm (by omega) x))
  walk_at "go"
  refine openMach fun dx ed sd td nd => ?_
  refine d_fld (List.Mem.head _) M.c M.n3 (v := .ref ed) rfl ?_
  walk_at "go"
  refine d_putT (kvs := eKV m.es) (ks := ekey (o, c, t)) (List.Mem.tail _ (List.Mem.tail _ (List.Mem.head _))) at_q (by rw [show (eKV m.es).length = m.es.length from List.length_map _]; exact Nat.lt_of_lt_of_le (by omega) line_big) ?_
  rw [put_es hm, put_mE nd]
  refine closeMach nd ?_
  exact RD.moreD (same_upd dq) (RD.forget (k7 hm (by omega)))
theorem drop_es (es : List (Int × Nat × Int)) (e : Int × Nat × Int) : dropK (eKV es) (ekey e) = eKV (es.filter fun x => decide (x ≠ e)) := by
  unfold dropK eKV
  rw [List.filter_map]
  congr 1
  refine List.filter_congr fun x _ => ?_
  show decide (ekey x ≠ ekey e) = decide (x ≠ e)
  by_cases h : x = e
  · rw [h]
    simp
  · have : ¬ ekey x = ekey e := fun z => h (ekey_inj z)
    simp [h, this]
def sp_Machine_remove_edge (K : PySem.W.Frag) : Sp := fun vs H Q E => ∃ (a : Addr) (m : Mch) (o t : Int) (c : Nat) (D0 : Hp) (F : Res) (l : List (V × PyData)) (N : Addr → Prop), vs = [.ref a, .int o, .str (S [c]), .int t] ∧ At K D0 (star (mach K a m) F) l N H ∧
  ((o, c, t) ∉ m.es → ∀ q x, RD K D0 (star (xdo x [("edge", .ref q)]) (star (mach K a m) F)) ((.ref q, .tuple [.int o, .str (S [c]), .int t]) :: l) (E (.ref (He.ga K "UnknownEdge")) (some x))) ∧
  ((o, c, t) ∈ m.es → RD K D0 (star (mach K a { m with es := m.es.filter fun x => decide (x ≠ (o, c, t)) }) F) l (Q .non))
def t_Machine_remove_edge (K : PySem.W.Frag) (W : WX) : TS := (tSeq (tAsg (tTup (tCons (tVar 1) (tCons (tVar 2) (tCons (tVar 3) tNil)))) (gName 4))
  (tSeq (tIfS (tB (tDNotIn (tVar 4) (tFld K (tVar 0) "_edges"))) (tRz (He.ga K "UnknownEdge") "edge" W (tCons (tVar 4) tNil)) tNext)
  (sDDelT (tFld K (tVar 0) "_edges") (tVar 4))))

theorem len_Machine_remove_edge (h : sp_Machine_remove_edge K vs H Q E) : vs.length = 4 := by
  obtain ⟨_, _, _, _, _, _, _, _, _, rfl, _⟩ := h
  rfl
theorem pure_Machine_remove_edge (M : MCls K) (h : sp_Machine_remove_edge K vs H Q E) : t_Machine_remove_edge K (fun cls d _ H => E cls d H) { nx := fun _ H' => Q .non H', rt := Q } (start ["self", "origin", "sign", "target", "edge"] vs) H := by
  obtain ⟨a, m, o, t, c, D0, F, l, N, rfl, A, k1, k2⟩ := h
  refine (?_ : RD K D0 (star (mach K a m) F) l (fun H => t_Machine_remove_edge K (fun cls d _ H => E cls d H) _ [some (.ref a), some (.int o), some (.str (S [c])), some (.int t), none] H)) N H A
  unfold t_Machine_remove_edge
  walk_at "go"
  refine d_newTD (ds := [.int o, .str (S [c]), .int t]) (show 3 ≤ sizeLine by decide) (by walk_at "inls") fun q dq => ?_
  have at_q : upd D0 q (.tup [.int o, .str (S [c]), .int t]) q = some (.tup ((ekey (o, c, t)).map kV)) := upd_same
  walk_at "go"
  refine openMach fun dx ed sd td nd => ?_
  refine d_fld (List.Mem.head _) M.c M.n3 (v := .ref ed) rfl ?_
  refine d_dinT (kvs := eKV m.es) (ks := ekey (o, c, t)) (List.Mem.tail _ (List.Mem.tail _ (List.Mem.head _))) at_q ?_
  rw [if_pos rfl, val_es]
  refine closeMach nd ?_
  walk_at "go"
  by_cases hm : (o, c, t) ∈ m.es
  · refine d_iteN (by simp [hm]) ?_
    walk_at "go"
    refine openMach fun dx ed sd td nd => ?_
    refine d_fld (List.Mem.head _) M.c M.n3 (v := .ref ed) rfl ?_
    walk_at "go"
    refine d_delT (kvs := eKV m.es) (ks := ekey (o, c, t)) (List.Mem.tail _ (List.Mem.tail _ (List.Mem.head _))) at_q (by rw [val_es]; exact decide_eq_true hm) ?_
    rw [drop_es, put_mE nd]
    refine closeMach nd ?_
    exact RD.moreD (same_upd dq) (RD.forget (k2 hm))
  · refine d_iteY (by simp [hm]) ?_
    walk_at "go"
    refine d_kRz fun x => ?_
    exact RD.moreD (same_upd dq) (k1 hm q x)
/-! ### edges() -/
open PySem.W (AllAlike Sortable dataLe) in
def eD (e : Int × Nat × Int) : PyData := .tuple [.int e.1, .str (S [e.2.1]), .int e.2.2]
def eSorted (es : List (Int × Nat × Int)) : List PyData := (es.map eD).mergeSort (PySem.W.dataLe false id)
def sp_Machine_edges (K : PySem.W.Frag) : Sp := fun vs H Q E => ∃ (a : Addr) (m : Mch) (D0 : Hp) (F : Res) (l : List (V × PyData)) (N : Addr → Prop), vs = [.ref a] ∧ At K D0 (star (mach K a m) F) l N H ∧
  ∀ v, RD K D0 (star (mach K a m) F) ((v, .tuple (eSorted m.es)) :: l) (Q v)
def t_Machine_edges (K : PySem.W.Frag) (W : WX) : TS := (tRet (tCB (gTuple K) (tCons (tCB gSortedT (tCons (tFld K (tVar 0) "_edges") tNil)) tNil)))

theorem len_Machine_edges (h : sp_Machine_edges K vs H Q E) : vs.length = 1 := by
  obtain ⟨_, _, _, _, _, _, rfl, _⟩ := h
  rfl
theorem pure_Machine_edges (M : MCls K) (h : sp_Machine_edges K vs H Q E) : t_Machine_edges K W { nx := fun _ H' => Q .non H', rt := Q } (start ["self"] vs) H := by
  obtain ⟨a, m, D0, F, l, N, rfl, A, kk⟩ := h
  refine (?_ : RD K D0 (star (mach K a m) F) l (fun H => t_Machine_edges K W _ [some (.ref a)] H)) N H A
  unfold t_Machine_edges
  walk_at "go"
  refine openMach fun dx ed sd td nd => ?_
  refine d_fld (List.Mem.head _) M.c M.n3 (v := .ref ed) rfl ?_
  walk_at "go"
  have e0 : ((eKV m.es).map fun kv => PyData.tuple (kv.1.map kD)) = m.es.map eD := by
    unfold eKV
    rw [List.map_map]
    rfl
  refine d_sortedT (kvs := eKV m.es) (List.Mem.tail _ (List.Mem.tail _ (List.Mem.head _))) (by rw [e0]; exact PySem.W.AllAlike.of fun _ _ => by simp [eD, PySem.W.alike, PySem.W.alikeAll]) (by rw [e0]; exact PySem.W.Sortable.tuples fun _ => ⟨_, _, rfl⟩) fun v => ?_
  rw [e0]
  refine closeMach nd ?_
  walk_at "go"
  refine d_tupleL (InL.mem (List.Mem.head _)) fun u => ?_
  refine RD.weak ?_ (kk u)
  walk_at "sub"
/-! ### Machine(signs, states) -/
theorem RD.rot3 {R1 R2 R3 : Res} {T : Hp → Prop} (k : RD K D0 (star R2 R3) l T) : RD K D0 (star R2 (star R1 R3)) l T := RD.rot (RD.drop k)
theorem At.nilO {N : Addr → Prop} {H : Hp} (A : At K D0 R l N H) : At K D0 (star (objs []) R) l N H :=
  ⟨A.nt, ⟨fun _ => False, N, fun b => ⟨.inr, fun z => z.elim False.elim id⟩, fun _ z _ => z, ⟨fun b => ⟨False.elim, fun ⟨_, z⟩ => by cases z⟩, fun p hp => by cases hp⟩, A.r⟩, A.d0, A.f⟩
def sp_Machine___init__ (K : PySem.W.Frag) : Sp := fun vs H Q E => ∃ (x dx : Addr) (v1 v2 : V) (d1 d2 : PyData) (D0 : Hp) (F : Res) (l : List (V × PyData)) (N : Addr → Prop), vs = [.ref x, v1, v2] ∧ x ≠ dx ∧
  At K D0 (star (objs [(x, .ins (He.ga K "Machine") dx []), (dx, .own x)]) F) l N H ∧ InL l v1 d1 ∧ d1.hasDict = false ∧ InL l v2 d2 ∧ d2.hasDict = false ∧
  (between d1 1 3 = false → ∀ e, RD K D0 (star (xdo e [("limit", .int 3)]) F) l (E (.ref (He.ga K "LimitExceeded")) (some e))) ∧
  (between d1 1 3 = true → between d2 1 6 = false → ∀ e, RD K D0 (star (xdo e [("limit", .int 6)]) F) l (E (.ref (He.ga K "LimitExceeded")) (some e))) ∧
  (∀ k n : Nat, d1 = .int k → d2 = .int n → 1 ≤ k → k ≤ 3 → 1 ≤ n → n ≤ 6 → RD K D0 (star (mach K x ⟨k, n, [], [], []⟩) F) l (Q .non))
def t_Machine___init__ (K : PySem.W.Frag) (W : WX) : TS := (tSeq (tIfS (tNot (tTru K (tG (sp_is_between K) W (tCons (tVar 1) (tCons (tC (.int 1)) (tCons (tC (.int 3)) tNil)))))) (tRz (He.ga K "LimitExceeded") "limit" W (tCons (tC (.int 3)) tNil)) tNext)
  (tSeq (tIfS (tNot (tTru K (tG (sp_is_between K) W (tCons (tVar 2) (tCons (tC (.int 1)) (tCons (tC (.int 6)) tNil)))))) (tRz (He.ga K "LimitExceeded") "limit" W (tCons (tC (.int 6)) tNil)) tNext)
  (tSeq (sFld K (tVar 0) (tVar 1) "signs")
  (tSeq (sFld K (tVar 0) (tVar 2) "states")
  (tSeq (sFld K (tVar 0) tDNewT "_edges")
  (tSeq (sFld K (tVar 0) tDNewK "_starts")
  (sFld K (tVar 0) tDNewK "_ends")))))))

theorem len_Machine___init__ (h : sp_Machine___init__ K vs H Q E) : vs.length = 3 := by
  obtain ⟨_, _, _, _, _, _, _, _, _, _, rfl, _⟩ := h
  rfl
theorem between_nat {d : PyData} {hi : Int} (h : between d 1 hi = true) : ∃ k : Nat, d = .int k ∧ 1 ≤ k ∧ (k : Int) ≤ hi := by
  cases d with
  | int i =>
    have z : 1 ≤ i ∧ i ≤ hi := by simpa [between] using h
    obtain ⟨k, rfl⟩ := Int.eq_ofNat_of_zero_le (show 0 ≤ i by omega)
    exact ⟨k, rfl, by omega, z.2⟩
  | none => cases h
  | bool b => cases h
  | str s => cases h
  | list xs => cases h
  | tuple xs => cases h
  | dict xs => cases h
theorem pf2 {u v : V} : putF "states" v [("signs", u)] = ([("signs", u), ("states", v)] : List (Str × V)) := by
  simp only [putF, if_neg (show ¬ (("signs" : Str) = "states") by decide +kernel)]
theorem pf3 {u v w : V} : putF "_edges" w [("signs", u), ("states", v)] = ([("signs", u), ("states", v), ("_edges", w)] : List (Str × V)) := by
  simp only [putF, if_neg (show ¬ (("signs" : Str) = "_edges") by decide +kernel), if_neg (show ¬ (("states" : Str) = "_edges") by decide +kernel)]
theorem pf4 {u v w x : V} : putF "_starts" x [("signs", u), ("states", v), ("_edges", w)] = ([("signs", u), ("states", v), ("_edges", w), ("_starts", x)] : List (Str × V)) := by
  simp only [putF, if_neg (show ¬ (("signs" : Str) = "_starts") by decide +kernel), if_neg (show ¬ (("states" : Str) = "_starts") by decide +kernel), if_neg (show ¬ (("_edges" : Str) = "_starts") by decide +kernel)]
theorem pf5 {u v w x y : V} : putF "_ends" y [("signs", u), ("states", v), ("_edges", w), ("_starts", x)] = ([("signs", u), ("states", v), ("_edges", w), ("_starts", x), ("_ends", y)] : List (Str × V)) := by
  simp only [putF, if_neg (show ¬ (("signs" : Str) = "_ends") by decide +kernel), if_neg (show ¬ (("states" : Str) = "_ends") by decide +kernel), if_neg (show ¬ (("_edges" : Str) = "_ends") by decide +kernel), if_neg (show ¬ (("_starts" : Str) = "_ends") by decide +kernel)]
theorem pure_Machine___init__ (M : MCls K) (h : sp_Machine___init__ K vs H Q E) : t_Machine___init__ K (fun cls d _ H => E cls d H) { nx := fun _ H' => Q .non H', rt := Q } (start ["self", "signs", "states"] vs) H := by
  obtain ⟨x, dx, v1, v2, d1, d2, D0, F, l, N, rfl, ne, A, h1, n1, h2, n2, k1, k2, k3⟩ := h
  refine (?_ : RD K D0 (star (objs [(x, .ins (He.ga K "Machine") dx []), (dx, .own x)]) F) l (fun H => t_Machine___init__ K (fun cls d _ H => E cls d H) _ [some (.ref x), some v1, some v2] H)) N H A
  unfold t_Machine___init__
  walk_at "go"
  refine d_between h1 n1 ?_
  walk_at "go"
  cases hb1 : between d1 1 3 with
  | false =>
    walk_at "go"
    refine d_kRz fun e => ?_
    exact RD.rot3 (k1 hb1 e)
  | true =>
    walk_at "go"
    refine d_between h2 n2 ?_
    walk_at "go"
    cases hb2 : between d2 1 6 with
    | false =>
      walk_at "go"
      refine d_kRz fun e => ?_
      exact RD.rot3 (k2 hb1 hb2 e)
    | true =>
      obtain ⟨k, rfl, g1, g2⟩ := between_nat hb1
      obtain ⟨n, rfl, g3, g4⟩ := between_nat hb2
      obtain rfl : v1 = .int k := (A.dt h1).dv
      obtain rfl : v2 = .int n := (A.dt h2).dv
      walk_at "go"
      refine d_putF (List.Mem.head _) M.c M.n1 (by decide) ?_
      rw [show putO [(x, .ins (He.ga K "Machine") dx []), (dx, .own x)] x (.ins (He.ga K "Machine") dx (putF "signs" (.int k) [])) = [(x, .ins (He.ga K "Machine") dx [("signs", .int k)]), (dx, .own x)] from by simp [putO, Ne.symm ne, putF]]
      walk_at "go"
      refine d_putF (List.Mem.head _) M.c M.n2 (by simp) ?_
      rw [show putO [(x, .ins (He.ga K "Machine") dx [("signs", .int k)]), (dx, .own x)] x (.ins (He.ga K "Machine") dx (putF "states" (.int n) [("signs", .int k)])) = [(x, .ins (He.ga K "Machine") dx [("signs", .int k), ("states", .int n)]), (dx, .own x)] from by simp only [putO, List.map_cons, List.map_nil, if_true, if_neg (Ne.symm ne), pf2]]
      walk_at "go"
      refine d_dnewT fun ed f1 => ?_
      have e1 := f1 _ (List.Mem.head _)
      have e2 := f1 _ (List.Mem.tail _ (List.Mem.head _))
      walk_at "go"
      refine d_putF (List.Mem.tail _ (List.Mem.head _)) M.c M.n3 (by simp) ?_
      rw [show putO [(ed, .dT []), (x, .ins (He.ga K "Machine") dx [("signs", .int k), ("states", .int n)]), (dx, .own x)] x (.ins (He.ga K "Machine") dx (putF "_edges" (.ref ed) [("signs", .int k), ("states", .int n)])) =
        [(ed, .dT []), (x, .ins (He.ga K "Machine") dx [("signs", .int k), ("states", .int n), ("_edges", .ref ed)]), (dx, .own x)] from by simp only [putO, List.map_cons, List.map_nil, if_true, if_neg (Ne.symm ne), if_neg e1, pf3]]
      walk_at "go"
      refine d_dnewK fun sd f2 => ?_
      have e3 := f2 _ (List.Mem.head _)
      have e4 := f2 _ (List.Mem.tail _ (List.Mem.head _))
      have e5 := f2 _ (List.Mem.tail _ (List.Mem.tail _ (List.Mem.head _)))
      walk_at "go"
      refine d_putF (List.Mem.tail _ (List.Mem.tail _ (List.Mem.head _))) M.c M.n4 (by simp) ?_
      rw [show putO [(sd, .dK []), (ed, .dT []), (x, .ins (He.ga K "Machine") dx [("signs", .int k), ("states", .int n), ("_edges", .ref ed)]), (dx, .own x)] x (.ins (He.ga K "Machine") dx (putF "_starts" (.ref sd) [("signs", .int k), ("states", .int n), ("_edges", .ref ed)])) =
        [(sd, .dK []), (ed, .dT []), (x, .ins (He.ga K "Machine") dx [("signs", .int k), ("states", .int n), ("_edges", .ref ed), ("_starts", .ref sd)]), (dx, .own x)] from by simp only [putO, List.map_cons, List.map_nil, if_true, if_neg (Ne.symm ne), if_neg e1, if_neg e4, pf4]]
      walk_at "go"
      refine d_dnewK fun td f3 => ?_
      have e6 := f3 _ (List.Mem.head _)
      have e7 := f3 _ (List.Mem.tail _ (List.Mem.head _))
      have e8 := f3 _ (List.Mem.tail _ (List.Mem.tail _ (List.Mem.head _)))
      have e9 := f3 _ (List.Mem.tail _ (List.Mem.tail _ (List.Mem.tail _ (List.Mem.head _))))
      walk_at "go"
      refine d_putF (List.Mem.tail _ (List.Mem.tail _ (List.Mem.tail _ (List.Mem.head _)))) M.c M.n5 (by simp) ?_
      rw [show putO [(td, .dK []), (sd, .dK []), (ed, .dT []), (x, .ins (He.ga K "Machine") dx [("signs", .int k), ("states", .int n), ("_edges", .ref ed), ("_starts", .ref sd)]), (dx, .own x)] x (.ins (He.ga K "Machine") dx (putF "_ends" (.ref td) [("signs", .int k), ("states", .int n), ("_edges", .ref ed), ("_starts", .ref sd)])) =
        [(td, .dK []), (sd, .dK []), (ed, .dT []), (x, .ins (He.ga K "Machine") dx (mFs ed sd td ⟨k, n, [], [], []⟩)), (dx, .own x)] from by simp only [putO, List.map_cons, List.map_nil, if_true, if_neg (Ne.symm ne), if_neg e1, if_neg e4, if_neg e8, pf5]; rfl]
      refine RD.objs (L' := mL K x dx ed sd td ⟨k, n, [], [], []⟩) (fun p => ?_) ?_
      · simp only [mL, eKV, iKV, List.map_nil, List.mem_cons, List.not_mem_nil, or_false]
        constructor
        · rintro (h | h | h | h | h)
          · exact .inr (.inr (.inr (.inr h)))
          · exact .inr (.inr (.inr (.inl h)))
          · exact .inr (.inr (.inl h))
          · exact .inl h
          · exact .inr (.inl h)
        · rintro (h | h | h | h | h)
          · exact .inr (.inr (.inr (.inl h)))
          · exact .inr (.inr (.inr (.inr h)))
          · exact .inr (.inr (.inl h))
          · exact .inr (.inl h)
          · exact .inl h
      refine closeMach ?_ (k3 k n rfl rfl g1 (by omega) g3 (by omega))
      simp only [List.nodup_cons, List.mem_cons, List.not_mem_nil, or_false, not_or, not_false_eq_true, List.nodup_nil, and_true]
      exact ⟨⟨ne, Ne.symm e1, Ne.symm e4, Ne.symm e8⟩, ⟨Ne.symm e2, Ne.symm e5, Ne.symm e9⟩, ⟨Ne.symm e3, Ne.symm e7⟩, Ne.symm e6⟩
/-- Machine(v1, v2) -/
def kGN (C : Addr) (sp : Sp) (E : XK) (vs : List V) (H1 : Hp) (Q : VK) : Prop := ∀ x dx, H1 x = none → H1 dx = none → dx ≠ x → sp (.ref x :: vs) (upd (upd H1 dx (.own x)) x (.ins C dx [])) (fun v H2 => v = .non ∧ Q (.ref x) H2) E
theorem d_tGN {C : Addr} {sp : Sp} {σ : L2.St} {t : TA} (k : RD K D0 R l (fun H => t σ H fun vs H1 => kGN C sp (WE W σ) vs H1 Q)) : RD K D0 R l (fun H => tGN C sp W t σ H Q) := k
theorem d_make {v1 v2 : V} {d1 d2 : PyData} (h1 : InL l v1 d1) (n1 : d1.hasDict = false) (h2 : InL l v2 d2) (n2 : d2.hasDict = false)
    (k1 : between d1 1 3 = false → ∀ e, RD K D0 (star (xdo e [("limit", .int 3)]) R) l (E (.ref (He.ga K "LimitExceeded")) (some e)))
    (k2 : between d1 1 3 = true → between d2 1 6 = false → ∀ e, RD K D0 (star (xdo e [("limit", .int 6)]) R) l (E (.ref (He.ga K "LimitExceeded")) (some e)))
    (k3 : ∀ (x : Addr) (k n : Nat), d1 = .int k → d2 = .int n → 1 ≤ k → k ≤ 3 → 1 ≤ n → n ≤ 6 → RD K D0 (star (mach K x ⟨k, n, [], [], []⟩) R) l (Q (.ref x))) :
    RD K D0 R l (fun H => kGN (He.ga K "Machine") (sp_Machine___init__ K) E [v1, v2] H Q) := fun N H A x dx hx hdx ne => by
  have A1 := A.nilO.newOb (o := .own x) (fun _ z => by cases z) hdx
  have hx2 : upd H dx (.own x) x = none := by
    rw [upd_ne (Ne.symm ne)]
    exact hx
  have A2 := A1.newOb (o := .ins (He.ga K "Machine") dx []) (fun _ z => by cases z) hx2
  refine ⟨x, dx, v1, v2, d1, d2, D0, R, l, _, rfl, Ne.symm ne, A2, h1, n1, h2, n2, k1, k2, fun k n e1 e2 a b c d N' H' A' => ⟨rfl, k3 x k n e1 e2 a b c d N' H' A'⟩⟩
end
end GL

/-! L08: limits of machines. -/
namespace L08
open PySem PySem.Spec L2 GL
open PyProof.Rows hiding St
open SX (S)
local macro_rules | `(tactic| walk_at "mem") => `(tactic| (first | exact List.Mem.head _ | exact List.Mem.tail _ (List.Mem.head _) | exact List.Mem.tail _ (List.Mem.tail _ (List.Mem.head _)) | ((repeat (first | exact List.Mem.head _ | apply List.Mem.tail)); done)))
local macro_rules | `(tactic| walk_at "inl") => `(tactic| (first | exact InL.int _ | exact InL.str _ | exact InL.bl _ | exact InL.non | (refine InL.mem ?zm; walk_at "mem") | assumption))
local macro_rules | `(tactic| walk_at "inls") => `(tactic| (repeat (first | exact InLs.nil | (refine InLs.cons ?zi ?_; case zi => walk_at "inl"))))
local macro_rules | `(tactic| walk_at "set") => `(tactic| (simp only [wipe, List.set_cons_succ, List.set_cons_zero]; rfl))
local macro_rules | `(tactic| walk_at "tails") => `(tactic| (first | exact sub_refl | exact sub_tail sub_refl | exact sub_tail (sub_tail sub_refl) | exact sub_nil | ((repeat (first | exact sub_refl | apply sub_tail)); done)))
local macro_rules | `(tactic| walk_at "sub") => `(tactic| (first | walk_at "tails" | ((repeat (refine sub_cons ?zi ?_; case zi => walk_at "inl")); walk_at "tails")))
local macro_rules | `(tactic| walk_at "g1") => `(tactic| (first
  | with_reducible refine d_seq ?_
  | with_reducible refine d_asg ?_
  | ((with_reducible refine d_name (σ' := ?zs) ?zh ?_); (case zh => walk_at "set"))
  | ((with_reducible refine d_var (v := ?zs) ?zh ?_); (case zh => rfl))
  | with_reducible refine d_C ?_
  | with_reducible refine d_op ?_
  | with_reducible refine d_cons ?_
  | with_reducible refine d_nil ?_
  | with_reducible refine d_cb ?_
  | with_reducible refine d_g ?_
  | with_reducible refine d_ifS ?_
  | with_reducible refine d_test ?_
  | with_reducible refine d_bl ?_
  | with_reducible refine d_addI ?_
  | with_reducible refine d_I0 ?_
  | with_reducible refine d_ret ?_
  | with_reducible refine d_retN ?_
  | with_reducible refine d_next ?_
  | with_reducible refine d_drop ?_
  | with_reducible refine d_and ?_
  | with_reducible refine d_or ?_
  | with_reducible refine d_not ?_
  | with_reducible refine d_andV ?_
  | with_reducible refine d_orV ?_
  | with_reducible refine d_notV ?_
  | with_reducible refine d_tru ?_
  | with_reducible refine d_truB ?_
  | with_reducible refine d_tif ?_
  | with_reducible refine d_iteT ?_
  | with_reducible refine d_iteF ?_
  | with_reducible refine d_iteNT ?_
  | with_reducible refine d_iteNF ?_
  | with_reducible refine d_eqI ?_
  | with_reducible refine d_neI ?_
  | with_reducible refine d_eqS ?_
  | with_reducible refine d_neS ?_
  | with_reducible refine d_eqB ?_
  | with_reducible refine d_neB ?_
  | with_reducible refine d_isN ?_
  | with_reducible refine d_notN ?_
  | with_reducible refine d_bm ?_
  | with_reducible refine d_tyS ?_
  | with_reducible refine d_tyO ?_
  | with_reducible refine d_find3 ?_
  | with_reducible refine d_tup ?_
  | with_reducible refine d_lst ?_
  | with_reducible refine d_for ?_
  | with_reducible refine d_iRng1 ?_
  | with_reducible refine d_gIt ?_
  | with_reducible refine d_lc ?_
  | with_reducible refine d_yes ?_
  | with_reducible refine d_tSl ?_
  | with_reducible refine d_noPart ?_
  | with_reducible refine d_part ?_
  | with_reducible refine d_int ?_
  | ((with_reducible refine d_wipe ?zh ?_); (case zh => rfl))
  | ((with_reducible refine d_aug (v := ?zs) ?zh ?_); (case zh => rfl))
  | with_reducible refine d_ipI ?_
  | ((with_reducible refine d_set (σ' := ?zs) ?zh ?_); (case zh => walk_at "set"))))
local macro_rules | `(tactic| walk_at "go") => `(tactic| (repeat walk_at "g1"))
local macro_rules | `(tactic| walk_at "g1") => `(tactic| (first
  | with_reducible refine d_chain ?_
  | with_reducible refine d_tB ?_
  | with_reducible refine d_tGM ?_
  | with_reducible refine d_tGN ?_
  | with_reducible refine d_rz ?_
  | with_reducible refine d_tXf ?_
  | with_reducible refine d_tFld ?_
  | with_reducible refine d_sFld ?_
  | with_reducible refine d_tMix ?_
  | with_reducible refine d_par ?_
  | with_reducible refine d_kPar ?_))
/-- what an error's class says of the others -/
structure XCls (K : PySem.W.Frag) : Prop where
  limit : PySem.W.exmOne K (.ref (He.ga K "LimitExceeded")) (.ref (He.ga K "LimitExceeded")) = some true
  exists_ : PySem.W.exmOne K (.ref (He.ga K "EdgeExists")) (.ref (He.ga K "EdgeExists")) = some true
  sign : PySem.W.exmOne K (.ref (He.ga K "NotALog")) (.ref (He.ga K "NotALog")) = some true
  state : PySem.W.exmOne K (.ref (He.ga K "UnknownState")) (.ref (He.ga K "UnknownState")) = some true
  el : PySem.W.exmOne K (.ref (He.ga K "EdgeExists")) (.ref (He.ga K "LimitExceeded")) = some false
  nl : PySem.W.exmOne K (.ref (He.ga K "NotALog")) (.ref (He.ga K "LimitExceeded")) = some false
  ne : PySem.W.exmOne K (.ref (He.ga K "NotALog")) (.ref (He.ga K "EdgeExists")) = some false
  ul : PySem.W.exmOne K (.ref (He.ga K "UnknownState")) (.ref (He.ga K "LimitExceeded")) = some false
  ue : PySem.W.exmOne K (.ref (He.ga K "UnknownState")) (.ref (He.ga K "EdgeExists")) = some false
  un : PySem.W.exmOne K (.ref (He.ga K "UnknownState")) (.ref (He.ga K "NotALog")) = some false
def madeD (d1 d2 : PyData) : PyData := if between d1 1 3 = true then (if between d2 1 6 = true then .tuple [d1, d2] else .int 6) else .int 3
def sp__law_made (K : PySem.W.Frag) : Sp := fun vs H Q _ => ∃ (v1 v2 : V) (d1 d2 : PyData) (D0 : Hp) (F : Res) (l : List (V × PyData)) (N : Addr → Prop), vs = [v1, v2] ∧ At K D0 F l N H ∧ InL l v1 d1 ∧ d1.hasDict = false ∧ InL l v2 d2 ∧ d2.hasDict = false ∧
  ∀ v, RD K D0 F ((v, madeD d1 d2) :: l) (Q v)
def t__law_made (K : PySem.W.Frag) (W : WX) : TS := (tSeq (tAsg (tC .non) (gName 2))
  (tSeq (tMix K (fun W1 => (tAsg (tGN (He.ga K "Machine") (sp_Machine___init__ K) W1 (tCons (tVar 0) (tCons (tVar 1) tNil))) (gName 2))) [(.ref (He.ga K "LimitExceeded"), some 3, (fun a cls d => (tRet (tXf a cls d (He.ga K "LimitExceeded") "limit" (tVar 3)))))] W)
  (tRet (tTup (tCons (tFld K (tVar 2) "signs") (tCons (tFld K (tVar 2) "states") tNil))))))

def sp__law_added (K : PySem.W.Frag) : Sp := fun vs H Q _ => ∃ (a : Addr) (m : Mch) (u : V) (o t : Int) (cs : List Nat) (D0 : Hp) (F : Res) (l : List (V × PyData)) (N : Addr → Prop), vs = [.ref a, u] ∧ At K D0 (star (mach K a m) F) l N H ∧
  InL l u (.tuple [.int o, .str (S cs), .int t]) ∧ cs.length ≤ 1000000 ∧ m.es.length ≤ 100 ∧
  ((between (.int o) 0 (m.n - 1) && between (.int t) 0 (m.n - 1)) = false → RD K D0 (star (mach K a m) F) l (Q (.str "state"))) ∧
  ((between (.int o) 0 (m.n - 1) && between (.int t) 0 (m.n - 1)) = true → (¬ okSign cs m.k → RD K D0 (star (mach K a m) F) l (Q (.str "sign"))) ∧
    ∀ c, cs = [c] → c ∈ ([97, 98, 99] : List Nat).take m.k →
      ((o, c, t) ∈ m.es → RD K D0 (star (mach K a m) F) l (Q (.str "exists"))) ∧
      ((o, c, t) ∉ m.es → 14 ≤ m.es.length → RD K D0 (star (mach K a m) F) l (Q (.int 14))) ∧
      ((o, c, t) ∉ m.es → m.es.length < 14 → RD K D0 (star (mach K a { m with es := m.es ++ [(o, c, t)] }) F) l (Q (.str "added"))))
def t__law_added (K : PySem.W.Frag) (W : WX) : TS := (tSeq (tAsg (tC (.str "added")) (gName 2))
  (tSeq (tMix K (fun W1 => (tDrop (tGM (He.ga K "Machine") "add_edge" (sp_Machine_add_edge K) W1 (tVar 0) (tCons (tOp (rIx K) (tVar 1) (tC (.int 0))) (tCons (tOp (rIx K) (tVar 1) (tC (.int 1))) (tCons (tOp (rIx K) (tVar 1) (tC (.int 2))) tNil)))))) [(.ref (He.ga K "LimitExceeded"), some 3, (fun a cls d => (tAsg (tXf a cls d (He.ga K "LimitExceeded") "limit" (tVar 3)) (gName 2)))), (.ref (He.ga K "EdgeExists"), none, (fun a cls d => (tAsg (tC (.str "exists")) (gName 2)))), (.ref (He.ga K "NotALog"), none, (fun a cls d => (tAsg (tC (.str "sign")) (gName 2)))), (.ref (He.ga K "UnknownState"), none, (fun a cls d => (tAsg (tC (.str "state")) (gName 2))))] W)
  (tRet (tVar 2))))

def t_law (K : PySem.W.Frag) (W : WX) : TS := (tSeq (tAsg (tG (sp__law_pen K) W (tCons (tVar 0) tNil)) (gName 1))
  (tSeq (tAsg (tLst (tCons (tC (.int 0)) (tCons (tC (.int 4)) (tCons (tC (.int 7)) (tCons (tUn gNeg (tC (.int 1))) (tCons (tC (.bl true)) (tCons (tC .non) (tCons (tC (.str "2")) (tCons (tTup tNil) (tCons (tOp gPow (tC (.int 10)) (tC (.int 20))) tNil)))))))))) (gName 2))
  (tSeq (tFor (gIt K (tOp (gAdd K) (tLst (tCons (tC (.int 1)) (tCons (tC (.int 2)) (tCons (tC (.int 3)) tNil)))) (tVar 2))) (gName 3) (tFor (gIt K (tOp (gAdd K) (tLst (tCons (tC (.int 1)) (tCons (tC (.int 4)) (tCons (tC (.int 6)) tNil)))) (tVar 2))) (gName 4) (tSeq (tAsg (tTup (tCons (tVar 3) (tCons (tVar 4) tNil))) (gName 5))
  (tSeq (tIfS (tOr (tNot (tTru K (tCB (rIsi K) (tCons (tVar 4) (tCons (tC (.ty "int")) tNil))))) (tOr (tTru K (tCB (rIsi K) (tCons (tVar 4) (tCons (tC (.ty "bool")) tNil)))) (tNot (tTest (tChain gLe gLe (tC (.int 1)) (tVar 4) (tC (.int 6))))))) (tAsg (tC (.int 6)) (gName 5)) tNext)
  (tSeq (tIfS (tOr (tNot (tTru K (tCB (rIsi K) (tCons (tVar 3) (tCons (tC (.ty "int")) tNil))))) (tOr (tTru K (tCB (rIsi K) (tCons (tVar 3) (tCons (tC (.ty "bool")) tNil)))) (tNot (tTest (tChain gLe gLe (tC (.int 1)) (tVar 3) (tC (.int 3))))))) (tAsg (tC (.int 3)) (gName 5)) tNext)
  (tIfS (tTest (tOp (gNe K) (tCB (rRepr K) (tCons (tG (sp__law_made K) W (tCons (tVar 3) (tCons (tVar 4) tNil))) tNil)) (tCB (rRepr K) (tCons (tVar 5) tNil)))) (tRet (tC (.bl false))) tNext))))))
  (tSeq (tAsg (tTup (tCons (tGN (He.ga K "Machine") (sp_Machine___init__ K) W (tCons (tC (.int 2)) (tCons (tC (.int 3)) tNil))) (tCons (tLst tNil) tNil))) (gTup K 2 (gCons (gName 6) (gCons (gName 7) gNil))))
  (tSeq (tAsg (tLc (iRng1 (tCons (tC (.int 18)) tNil)) (gName 9) tYes (tTup (tCons (tOp gFdiv (tVar 9) (tC (.int 6))) (tCons (tOp (rIx K) (tC (.str "ab")) (tOp gMod (tVar 9) (tC (.int 2)))) (tCons (tOp gMod (tOp gFdiv (tVar 9) (tC (.int 2))) (tC (.int 3))) tNil)))) [9]) (gName 8))
  (tSeq (tFor (iRng1 (tCons (tC (.int 2)) tNil)) (gName 10) (tSeq (tFor (iRng1 (tCons (tOp gSub' (tC (.int 14)) (tCB (gLen K) (tCons (tVar 7) tNil))) tNil)) (gName 11) (tSeq (tAsg (tLc (gIt K (tVar 8)) (gName 13) (tTest (tOp (gIn K true) (tVar 13) (tVar 7))) (tVar 13) [13]) (gName 12))
  (tSeq (tAsg (tOp (rIx K) (tVar 12) (tG (sp__law_draw K) W (tCons (tVar 1) (tCons (tCB (gLen K) (tCons (tVar 12) tNil)) tNil)))) (gName 13))
  (tSeq (tIfS (tOr (tTest (tOp (gNe K) (tG (sp__law_added K) W (tCons (tVar 6) (tCons (tVar 13) tNil))) (tC (.str "added")))) (tTest (tOp (gNe K) (tG (sp__law_added K) W (tCons (tVar 6) (tCons (tVar 13) tNil))) (tC (.str "exists"))))) (tRet (tC (.bl false))) tNext)
  (tDrop (tBM K "list" rAppend (tVar 7) (tCons (tVar 13) tNil)))))))
  (tSeq (tAsg (tLc (gIt K (tVar 8)) (gName 13) (tTest (tOp (gIn K true) (tVar 13) (tVar 7))) (tVar 13) [13]) (gName 12))
  (tSeq (tIfS (tOr (tTest (tOp (gNe K) (tG (sp__law_added K) W (tCons (tVar 6) (tCons (tOp (rIx K) (tVar 12) (tC (.int 0))) tNil))) (tC (.int 14)))) (tTest (tOp (gNe K) (tG (sp__law_added K) W (tCons (tVar 6) (tCons (tOp (rIx K) (tVar 7) (tC (.int 3))) tNil))) (tC (.str "exists"))))) (tRet (tC (.bl false))) tNext)
  (tSeq (tIfS (tOr (tTest (tOp (gNe K) (tG (sp__law_added K) W (tCons (tVar 6) (tCons (tTup (tCons (tC (.int 0)) (tCons (tC (.str "c")) (tCons (tC (.int 0)) tNil)))) tNil))) (tC (.str "sign")))) (tTest (tOp (gNe K) (tG (sp__law_added K) W (tCons (tVar 6) (tCons (tTup (tCons (tC (.int 0)) (tCons (tC (.str "c")) (tCons (tC (.int 3)) tNil)))) tNil))) (tC (.str "state"))))) (tRet (tC (.bl false))) tNext)
  (tFor (iRng1 (tCons (tOp (gAdd K) (tC (.int 1)) (tG (sp__law_draw K) W (tCons (tVar 1) (tCons (tC (.int 3)) tNil)))) tNil)) (gName 11) (tSeq (tAsg (tBM K "list" rPopAt (tVar 7) (tCons (tG (sp__law_draw K) W (tCons (tVar 1) (tCons (tCB (gLen K) (tCons (tVar 7) tNil)) tNil))) tNil)) (gName 14))
  (tDrop (tGM (He.ga K "Machine") "remove_edge" (sp_Machine_remove_edge K) W (tVar 6) (tCons (tOp (rIx K) (tVar 14) (tC (.int 0))) (tCons (tOp (rIx K) (tVar 14) (tC (.int 1))) (tCons (tOp (rIx K) (tVar 14) (tC (.int 2))) tNil))))))))))))
  (tRet (tOp (gEq K) (tGM (He.ga K "Machine") "edges" (sp_Machine_edges K) W (tVar 6) tNil) (tCB (gTuple K) (tCons (tCB (gSorted K) (tCons (tVar 7) tNil)) tNil))))))))))

def t_inner (K : PySem.W.Frag) (W : WX) : TS := (tFor (gIt K (tOp (gAdd K) (tLst (tCons (tC (.int 1)) (tCons (tC (.int 4)) (tCons (tC (.int 6)) tNil)))) (tVar 2))) (gName 4) (tSeq (tAsg (tTup (tCons (tVar 3) (tCons (tVar 4) tNil))) (gName 5))
  (tSeq (tIfS (tOr (tNot (tTru K (tCB (rIsi K) (tCons (tVar 4) (tCons (tC (.ty "int")) tNil))))) (tOr (tTru K (tCB (rIsi K) (tCons (tVar 4) (tCons (tC (.ty "bool")) tNil)))) (tNot (tTest (tChain gLe gLe (tC (.int 1)) (tVar 4) (tC (.int 6))))))) (tAsg (tC (.int 6)) (gName 5)) tNext)
  (tSeq (tIfS (tOr (tNot (tTru K (tCB (rIsi K) (tCons (tVar 3) (tCons (tC (.ty "int")) tNil))))) (tOr (tTru K (tCB (rIsi K) (tCons (tVar 3) (tCons (tC (.ty "bool")) tNil)))) (tNot (tTest (tChain gLe gLe (tC (.int 1)) (tVar 3) (tC (.int 3))))))) (tAsg (tC (.int 3)) (gName 5)) tNext)
  (tIfS (tTest (tOp (gNe K) (tCB (rRepr K) (tCons (tG (sp__law_made K) W (tCons (tVar 3) (tCons (tVar 4) tNil))) tNil)) (tCB (rRepr K) (tCons (tVar 5) tNil)))) (tRet (tC (.bl false))) tNext)))))

def t_pair (K : PySem.W.Frag) (W : WX) : TS := (tSeq (tAsg (tTup (tCons (tVar 3) (tCons (tVar 4) tNil))) (gName 5))
  (tSeq (tIfS (tOr (tNot (tTru K (tCB (rIsi K) (tCons (tVar 4) (tCons (tC (.ty "int")) tNil))))) (tOr (tTru K (tCB (rIsi K) (tCons (tVar 4) (tCons (tC (.ty "bool")) tNil)))) (tNot (tTest (tChain gLe gLe (tC (.int 1)) (tVar 4) (tC (.int 6))))))) (tAsg (tC (.int 6)) (gName 5)) tNext)
  (tSeq (tIfS (tOr (tNot (tTru K (tCB (rIsi K) (tCons (tVar 3) (tCons (tC (.ty "int")) tNil))))) (tOr (tTru K (tCB (rIsi K) (tCons (tVar 3) (tCons (tC (.ty "bool")) tNil)))) (tNot (tTest (tChain gLe gLe (tC (.int 1)) (tVar 3) (tC (.int 3))))))) (tAsg (tC (.int 3)) (gName 5)) tNext)
  (tIfS (tTest (tOp (gNe K) (tCB (rRepr K) (tCons (tG (sp__law_made K) W (tCons (tVar 3) (tCons (tVar 4) tNil))) tNil)) (tCB (rRepr K) (tCons (tVar 5) tNil)))) (tRet (tC (.bl false))) tNext))))

def t_fill (K : PySem.W.Frag) (W : WX) : TS := (tSeq (tAsg (tLc (gIt K (tVar 8)) (gName 13) (tTest (tOp (gIn K true) (tVar 13) (tVar 7))) (tVar 13) [13]) (gName 12))
  (tSeq (tAsg (tOp (rIx K) (tVar 12) (tG (sp__law_draw K) W (tCons (tVar 1) (tCons (tCB (gLen K) (tCons (tVar 12) tNil)) tNil)))) (gName 13))
  (tSeq (tIfS (tOr (tTest (tOp (gNe K) (tG (sp__law_added K) W (tCons (tVar 6) (tCons (tVar 13) tNil))) (tC (.str "added")))) (tTest (tOp (gNe K) (tG (sp__law_added K) W (tCons (tVar 6) (tCons (tVar 13) tNil))) (tC (.str "exists"))))) (tRet (tC (.bl false))) tNext)
  (tDrop (tBM K "list" rAppend (tVar 7) (tCons (tVar 13) tNil))))))

def t_after (K : PySem.W.Frag) (W : WX) : TS := (tSeq (tAsg (tLc (gIt K (tVar 8)) (gName 13) (tTest (tOp (gIn K true) (tVar 13) (tVar 7))) (tVar 13) [13]) (gName 12))
  (tSeq (tIfS (tOr (tTest (tOp (gNe K) (tG (sp__law_added K) W (tCons (tVar 6) (tCons (tOp (rIx K) (tVar 12) (tC (.int 0))) tNil))) (tC (.int 14)))) (tTest (tOp (gNe K) (tG (sp__law_added K) W (tCons (tVar 6) (tCons (tOp (rIx K) (tVar 7) (tC (.int 3))) tNil))) (tC (.str "exists"))))) (tRet (tC (.bl false))) tNext)
  (tSeq (tIfS (tOr (tTest (tOp (gNe K) (tG (sp__law_added K) W (tCons (tVar 6) (tCons (tTup (tCons (tC (.int 0)) (tCons (tC (.str "c")) (tCons (tC (.int 0)) tNil)))) tNil))) (tC (.str "sign")))) (tTest (tOp (gNe K) (tG (sp__law_added K) W (tCons (tVar 6) (tCons (tTup (tCons (tC (.int 0)) (tCons (tC (.str "c")) (tCons (tC (.int 3)) tNil)))) tNil))) (tC (.str "state"))))) (tRet (tC (.bl false))) tNext)
  (tFor (iRng1 (tCons (tOp (gAdd K) (tC (.int 1)) (tG (sp__law_draw K) W (tCons (tVar 1) (tCons (tC (.int 3)) tNil)))) tNil)) (gName 11) (tSeq (tAsg (tBM K "list" rPopAt (tVar 7) (tCons (tG (sp__law_draw K) W (tCons (tVar 1) (tCons (tCB (gLen K) (tCons (tVar 7) tNil)) tNil))) tNil)) (gName 14))
  (tDrop (tGM (He.ga K "Machine") "remove_edge" (sp_Machine_remove_edge K) W (tVar 6) (tCons (tOp (rIx K) (tVar 14) (tC (.int 0))) (tCons (tOp (rIx K) (tVar 14) (tC (.int 1))) (tCons (tOp (rIx K) (tVar 14) (tC (.int 2))) tNil))))))))))

def t_pops (K : PySem.W.Frag) (W : WX) : TS := (tSeq (tAsg (tBM K "list" rPopAt (tVar 7) (tCons (tG (sp__law_draw K) W (tCons (tVar 1) (tCons (tCB (gLen K) (tCons (tVar 7) tNil)) tNil))) tNil)) (gName 14))
  (tDrop (tGM (He.ga K "Machine") "remove_edge" (sp_Machine_remove_edge K) W (tVar 6) (tCons (tOp (rIx K) (tVar 14) (tC (.int 0))) (tCons (tOp (rIx K) (tVar 14) (tC (.int 1))) (tCons (tOp (rIx K) (tVar 14) (tC (.int 2))) tNil))))))

section
variable {K : PySem.W.Frag} {W : WX} {D0 : Hp} {R : Res} {l : List (V × PyData)} {Q : VK} {vs : List V} {H : Hp} {E : XK}
theorem len__law_made (h : sp__law_made K vs H Q E) : vs.length = 2 := by
  obtain ⟨_, _, _, _, _, _, _, _, rfl, _⟩ := h
  rfl
theorem RD.intL {i : Int} {T : Hp → Prop} (k : RD K D0 R ((.int i, .int i) :: l) T) : RD K D0 R l T := RD.weak (fun p hp => by
  rcases List.mem_cons.1 hp with rfl | hp
  · exact .int _
  · exact .mem hp) k
theorem pure__law_made (M : MCls K) (X : XCls K) (h : sp__law_made K vs H Q E) : t__law_made K W { nx := fun _ H' => Q .non H', rt := Q } (start ["k", "n", "found", "e"] vs) H := by
  obtain ⟨v1, v2, d1, d2, D0, F, l, N, rfl, A, h1, n1, h2, n2, kk⟩ := h
  refine (?_ : RD K D0 F l (fun H => t__law_made K W _ [some v1, some v2, none, none] H)) N H A
  unfold t__law_made
  walk_at "go"
  refine d_make h1 n1 h2 n2 (fun b1 e => ?_) (fun b1 b2 e => ?_) (fun x k n e1 e2 g1 g2 g3 g4 => ?_)
  · refine d_mixYes X.limit fun a => ?_
    walk_at "go"
    refine d_kXf ?_
    refine RD.drop ?_
    have e3 : madeD d1 d2 = .int 3 := by simp [madeD, b1]
    have z := kk (.int 3)
    rw [e3] at z
    exact RD.intL z
  · refine d_mixYes X.limit fun a => ?_
    walk_at "go"
    refine d_kXf ?_
    refine RD.drop ?_
    have e3 : madeD d1 d2 = .int 6 := by simp [madeD, b1, b2]
    have z := kk (.int 6)
    rw [e3] at z
    exact RD.intL z
  · subst e1 e2
    walk_at "go"
    refine openMach fun dx ed sd td nd => ?_
    refine d_fld (List.Mem.head _) M.c M.n1 (v := .int k) rfl ?_
    walk_at "go"
    refine d_fld (List.Mem.head _) M.c M.n2 (v := .int n) rfl ?_
    walk_at "go"
    refine RD.drop ?_
    refine d_newT (ds := [.int k, .int n]) (show 2 ≤ sizeLine by decide) (by walk_at "inls") fun u => ?_
    have e3 : madeD (.int k) (.int n) = .tuple [.int k, .int n] := by
      have z1 : (1 : Int) ≤ k ∧ (k : Int) ≤ 3 := by omega
      have z2 : (1 : Int) ≤ n ∧ (n : Int) ≤ 6 := by omega
      simp [madeD, between, z1, z2]
    have z := kk u
    rw [e3] at z
    exact z
theorem len__law_added (h : sp__law_added K vs H Q E) : vs.length = 2 := by
  obtain ⟨_, _, _, _, _, _, _, _, _, _, rfl, _⟩ := h
  rfl
theorem d_addEdge {a : Addr} {m : Mch} {o t : Int} {cs : List Nat} (hl : cs.length ≤ 1000000) (he : m.es.length ≤ 100)
    (k1 : between (.int o) 0 (m.n - 1) = false → ∀ x, RD K D0 (star (xdo x [("state", .int o)]) (star (mach K a m) R)) l (E (.ref (He.ga K "UnknownState")) (some x)))
    (k2 : between (.int o) 0 (m.n - 1) = true → between (.int t) 0 (m.n - 1) = false → ∀ x, RD K D0 (star (xdo x [("state", .int t)]) (star (mach K a m) R)) l (E (.ref (He.ga K "UnknownState")) (some x)))
    (k3 : between (.int o) 0 (m.n - 1) = true → between (.int t) 0 (m.n - 1) = true → ¬ okSign cs m.k → ∀ x, RD K D0 (star (xdo x [("value", .str (S cs))]) (star (mach K a m) R)) l (E (.ref (He.ga K "NotALog")) (some x)))
    (k4 : ∀ c, cs = [c] → c ∈ ([97, 98, 99] : List Nat).take m.k → between (.int o) 0 (m.n - 1) = true → between (.int t) 0 (m.n - 1) = true →
      ((o, c, t) ∈ m.es → ∀ q x, RD K D0 (star (xdo x [("edge", .ref q)]) (star (mach K a m) R)) ((.ref q, .tuple [.int o, .str (S [c]), .int t]) :: l) (E (.ref (He.ga K "EdgeExists")) (some x))) ∧
      ((o, c, t) ∉ m.es → 14 ≤ m.es.length → ∀ x, RD K D0 (star (xdo x [("limit", .int 14)]) (star (mach K a m) R)) l (E (.ref (He.ga K "LimitExceeded")) (some x))) ∧
      ((o, c, t) ∉ m.es → m.es.length < 14 → RD K D0 (star (mach K a { m with es := m.es ++ [(o, c, t)] }) R) l (Q .non))) :
    RD K D0 (star (mach K a m) R) l (fun H => sp_Machine_add_edge K [.ref a, .int o, .str (S cs), .int t] H Q E) := fun N H A => ⟨a, m, o, t, cs, D0, R, l, N, rfl, A, hl, he, k1, k2, k3, k4⟩
theorem pure__law_added (M : MCls K) (X : XCls K) (h : sp__law_added K vs H Q E) : t__law_added K W { nx := fun _ H' => Q .non H', rt := Q } (start ["tool", "edge", "found", "e"] vs) H := by
  obtain ⟨a, m, u, o, t, cs, D0, F, l, N, rfl, A, hu, hl, he, k1, k2⟩ := h
  refine (?_ : RD K D0 (star (mach K a m) F) l (fun H => t__law_added K W _ [some (.ref a), some u, none, none] H)) N H A
  unfold t__law_added
  walk_at "go"
  refine d_kGM (fun _ _ _ => rfl) ?_
  walk_at "go"
  refine d_ixT hu (d := .int o) rfl fun x1 h1 => ?_
  obtain rfl : x1 = .int o := h1
  walk_at "go"
  refine d_ixT (hu.tail) (d := .str (S cs)) rfl fun x2 h2 => ?_
  obtain rfl : x2 = .str (S cs) := h2
  walk_at "go"
  refine d_ixT (hu.tail.tail) (d := .int t) rfl fun x3 h3 => ?_
  obtain rfl : x3 = .int t := h3
  walk_at "go"
  refine RD.forget (RD.forget (RD.forget ?_))
  have st : ∀ {v : V} (x : Addr), (between (.int o) 0 (m.n - 1) && between (.int t) 0 (m.n - 1)) = false → RD K D0 (star (xdo x [("state", v)]) (star (mach K a m) F)) l (WE (wMix K W { nx := tRet (tVar 2) { nx := fun _ H' => Q .non H', rt := Q }, rt := Q }
      [(.ref (He.ga K "LimitExceeded"), some 3, fun a cls d => tAsg (tXf a cls d (He.ga K "LimitExceeded") "limit" (tVar 3)) (gName 2)), (.ref (He.ga K "EdgeExists"), none, fun a cls d => tAsg (tC (.str "exists")) (gName 2)),
       (.ref (He.ga K "NotALog"), none, fun a cls d => tAsg (tC (.str "sign")) (gName 2)), (.ref (He.ga K "UnknownState"), none, fun a cls d => tAsg (tC (.str "state")) (gName 2))]) [some (.ref a), some u, some (.str "added"), none] (.ref (He.ga K "UnknownState")) (some x)) := fun x hf => by
    refine d_mixNo X.ul ?_
    refine d_mixNo X.ue ?_
    refine d_mixNo X.un ?_
    refine d_mixYes X.state fun b => ?_
    dsimp only [endsOf, slotOf]
    walk_at "go"
    exact RD.drop (k1 hf)
  refine d_addEdge hl he (fun h1 x => st x (by rw [h1]; rfl)) (fun h1 h2 x => st x (by rw [h1, h2]; rfl)) (fun h1 h2 hs x => ?_) fun c e hc h1 h2 => ⟨fun hm q x => ?_, fun hm hg x => ?_, fun hm hg => ?_⟩
  · refine d_mixNo X.nl ?_
    refine d_mixNo X.ne ?_
    refine d_mixYes X.sign fun b => ?_
    dsimp only [endsOf, slotOf]
    walk_at "go"
    exact RD.drop ((k2 (by rw [h1, h2]; rfl)).1 hs)
  · refine RD.forget ?_
    refine d_mixNo X.el ?_
    refine d_mixYes X.exists_ fun b => ?_
    dsimp only [endsOf, slotOf]
    walk_at "go"
    exact RD.drop (((k2 (by rw [h1, h2]; rfl)).2 c e hc).1 hm)
  · refine d_mixYes X.limit fun b => ?_
    dsimp only [endsOf, slotOf]
    walk_at "go"
    refine d_kXf ?_
    walk_at "go"
    exact RD.drop (((k2 (by rw [h1, h2]; rfl)).2 c e hc).2.1 hm hg)
  · walk_at "go"
    exact ((k2 (by rw [h1, h2]; rfl)).2 c e hc).2.2 hm hg
theorem d_made {v1 v2 : V} {d1 d2 : PyData} (h1 : InL l v1 d1) (n1 : d1.hasDict = false) (h2 : InL l v2 d2) (n2 : d2.hasDict = false) (k : ∀ v, RD K D0 R ((v, madeD d1 d2) :: l) (Q v)) : RD K D0 R l (fun H => sp__law_made K [v1, v2] H Q E) :=
  fun N H A => ⟨v1, v2, d1, d2, D0, R, l, N, rfl, A, h1, n1, h2, n2, k⟩
theorem d_bad {σ : L2.St} {i : Nat} {lo hi : Int} {v : V} {d : PyData} {Qb : Bool → Hp → Prop} (hv : σ[i]? = some (some v)) (hd : InL l v d) (nd : d.hasDict = false) (k : RD K D0 R l (Qb (!between d lo hi))) :
    RD K D0 R l (fun H => tOr (tNot (tTru K (tCB (rIsi K) (tCons (tVar i) (tCons (tC (.ty "int")) tNil))))) (tOr (tTru K (tCB (rIsi K) (tCons (tVar i) (tCons (tC (.ty "bool")) tNil)))) (tNot (tTest (tChain gLe gLe (tC (.int lo)) (tVar i) (tC (.int hi)))))) σ H Qb) := fun N H A => by
  have dv := (A.dt hd).dv
  refine (?_ : RD K D0 R l _) N H A
  have odd : (∀ t, t = tyD d → PySem.W.kitOne K (.type t) (.type "int") = some false) → between d lo hi = false → RD K D0 R l (fun H => tOr (tNot (tTru K (tCB (rIsi K) (tCons (tVar i) (tCons (tC (.ty "int")) tNil))))) (tOr (tTru K (tCB (rIsi K) (tCons (tVar i) (tCons (tC (.ty "bool")) tNil)))) (tNot (tTest (tChain gLe gLe (tC (.int lo)) (tVar i) (tC (.int hi)))))) σ H Qb) := fun hk hb => by
    rw [hb] at k
    walk_at "go"
    refine d_var hv ?_
    walk_at "go"
    refine d_isi hd hk ?_
    walk_at "go"
    exact k
  cases d with
  | none => exact odd (fun t e => by subst e; rfl) rfl
  | str s => exact odd (fun t e => by subst e; rfl) rfl
  | list xs => exact odd (fun t e => by subst e; rfl) rfl
  | tuple xs => exact odd (fun t e => by subst e; rfl) rfl
  | dict xs => cases nd
  | bool b =>
    walk_at "go"
    refine d_var hv ?_
    walk_at "go"
    refine d_isi hd (b := true) (fun t e => by subst e; rfl) ?_
    walk_at "go"
    refine d_var hv ?_
    walk_at "go"
    refine d_isi hd (b := true) (fun t e => by subst e; rfl) ?_
    walk_at "go"
    exact k
  | int j =>
    obtain rfl : v = .int j := dv
    walk_at "go"
    refine d_var hv ?_
    walk_at "go"
    refine d_isi hd (b := true) (fun t e => by subst e; rfl) ?_
    walk_at "go"
    refine d_var hv ?_
    walk_at "go"
    refine d_isi hd (b := false) (fun t e => by subst e; rfl) ?_
    walk_at "go"
    refine d_var hv ?_
    walk_at "go"
    refine d_iteP (fun h1 => ?_) (fun h1 => ?_)
    · walk_at "go"
      have e : between (.int j) lo hi = decide (j ≤ hi) := by simp [between, h1]
      rw [e] at k
      exact k
    · walk_at "go"
      have e : between (.int j) lo hi = false := by simp [between, h1]
      rw [e] at k
      exact k
def oddL : List PyData := [.int 0, .int 4, .int 7, .int (-1), .bool true, .none, .str "2", .tuple [], .int (10 ^ Int.toNat 20)]
def k1L : List PyData := [.int 1, .int 2, .int 3] ++ oddL
def k2L : List PyData := [.int 1, .int 4, .int 6] ++ oddL
def fineB (d : PyData) : Bool := d.showable && (decide (d.depth ≤ 60) && (decide (d.shown.length ≤ 1000) && !d.hasDict))
theorem fine1 : k1L.all fineB = true := by decide +kernel
theorem fine2 : k2L.all fineB = true := by decide +kernel
theorem fine3 : (k1L.all fun a => k2L.all fun b => fineB (madeD a b)) = true := by decide +kernel
theorem hl' {l l2 : List (V × PyData)} {v : V} {d : PyData} (hl : ∀ q ∈ l, InL l2 q.1 q.2) (h : InL l v d) : InL l2 v d := by
  cases h with
  | non => exact .non
  | bl b => exact .bl b
  | int i => exact .int i
  | str x => exact .str x
  | mem h => exact hl _ h
theorem fine_of {d : PyData} (h : fineB d = true) : d.showable = true ∧ d.depth ≤ 60 ∧ d.shown.length ≤ sizeLine ∧ d.hasDict = false := by
  unfold fineB at h
  simp only [Bool.and_eq_true, decide_eq_true_eq, Bool.not_eq_true'] at h
  obtain ⟨h1, h2, h3, h4⟩ := h
  exact ⟨h1, h2, Nat.le_trans (Nat.le_trans h3 (by decide)) line_big, h4⟩
theorem pair_ok {D : Ends} {d1 d2 : PyData} {v1 v2 : V} {w0 w1 w2 : Option V} {w5 : Option V} {r : List (Option V)} (h1 : InL l v1 d1) (h2 : InL l v2 d2) (m1 : d1 ∈ k1L) (m2 : d2 ∈ k2L)
    (kk : ∀ (l' : List (V × PyData)) (w : Option V), (∀ q ∈ l, InL l' q.1 q.2) → RD K D0 R l' (fun H => D.nx (w0 :: w1 :: w2 :: some v1 :: some v2 :: w :: r) H)) :
    RD K D0 R l (fun H => t_pair K W D (w0 :: w1 :: w2 :: some v1 :: some v2 :: w5 :: r) H) := by
  have f1 := fine_of (List.all_eq_true.1 fine1 d1 m1)
  have f2 := fine_of (List.all_eq_true.1 fine2 d2 m2)
  have f3 := fine_of (List.all_eq_true.1 (List.all_eq_true.1 fine3 d1 m1) d2 m2)
  unfold t_pair
  walk_at "go"
  refine d_newT (ds := [d1, d2]) (show 2 ≤ sizeLine by decide) (.cons h1 (.cons h2 .nil)) fun u => ?_
  refine d_name (σ' := w0 :: w1 :: w2 :: some v1 :: some v2 :: some u :: r) rfl ?_
  have fin : ∀ {l2 : List (V × PyData)} (v : V), (∀ q ∈ l, InL l2 q.1 q.2) → InL l2 v (madeD d1 d2) → RD K D0 R l2 (fun H => tIfS (tTest (tOp (gNe K) (tCB (rRepr K) (tCons (tG (sp__law_made K) W (tCons (tVar 3) (tCons (tVar 4) tNil))) tNil)) (tCB (rRepr K) (tCons (tVar 5) tNil)))) (tRet (tC (.bl false))) tNext D
      (w0 :: w1 :: w2 :: some v1 :: some v2 :: some v :: r) H) := fun v hl hv => by
    walk_at "go"
    refine d_made (hl' hl h1) f1.2.2.2 (hl' hl h2) f2.2.2.2 fun w => ?_
    walk_at "go"
    refine d_repr (InL.mem (List.Mem.head _)) f3.1 f3.2.1 f3.2.2.1 f3.2.2.2 ?_
    walk_at "go"
    refine d_repr (hv.tail) f3.1 f3.2.1 f3.2.2.1 f3.2.2.2 ?_
    walk_at "go"
    refine d_iteN (by simp) ?_
    walk_at "go"
    exact kk _ _ fun q hq => (hl q hq).tail
  dsimp only
  refine d_seq ?_
  refine d_ifS ?_
  refine d_bad (i := 4) (v := v2) rfl (h2.tail) f2.2.2.2 ?_
  have second : ∀ {l2 : List (V × PyData)} (v : V) (dd : PyData), (∀ q ∈ l, InL l2 q.1 q.2) → InL l2 v dd → (between d1 1 3 = true → dd = madeD d1 d2) → RD K D0 R l2 (fun H => tSeq
      (tIfS (tOr (tNot (tTru K (tCB (rIsi K) (tCons (tVar 3) (tCons (tC (.ty "int")) tNil))))) (tOr (tTru K (tCB (rIsi K) (tCons (tVar 3) (tCons (tC (.ty "bool")) tNil)))) (tNot (tTest (tChain gLe gLe (tC (.int 1)) (tVar 3) (tC (.int 3)))))))
        (tAsg (tC (.int 3)) (gName 5)) tNext)
      (tIfS (tTest (tOp (gNe K) (tCB (rRepr K) (tCons (tG (sp__law_made K) W (tCons (tVar 3) (tCons (tVar 4) tNil))) tNil)) (tCB (rRepr K) (tCons (tVar 5) tNil)))) (tRet (tC (.bl false))) tNext) D
      (w0 :: w1 :: w2 :: some v1 :: some v2 :: some v :: r) H) := fun v dd hl hv hd => by
    refine d_seq ?_
    refine d_ifS ?_
    refine d_bad (i := 3) (v := v1) rfl (hl' hl h1) f1.2.2.2 ?_
    cases b1 : between d1 1 3 with
    | true =>
      refine d_iteNT ?_
      refine d_next ?_
      exact fin v hl (hd b1 ▸ hv)
    | false =>
      refine d_iteNF ?_
      refine d_asg ?_
      refine d_C ?_
      refine d_name (σ' := w0 :: w1 :: w2 :: some v1 :: some v2 :: some (.int 3) :: r) rfl ?_
      have e3 : madeD d1 d2 = .int 3 := by simp [madeD, b1]
      exact fin (.int 3) hl (by rw [e3]; exact .int _)
  cases b2 : between d2 1 6 with
  | true =>
    refine d_iteNT ?_
    refine d_next ?_
    exact second u (.tuple [d1, d2]) (fun q hq => .mem (List.mem_cons_of_mem _ hq)) (.mem (List.Mem.head _)) fun b1 => by simp [madeD, b1, b2]
  | false =>
    refine d_iteNF ?_
    refine d_asg ?_
    refine d_C ?_
    refine d_name (σ' := w0 :: w1 :: w2 :: some v1 :: some v2 :: some (.int 6) :: r) rfl ?_
    exact second (.int 6) (.int 6) (fun q hq => .mem (List.mem_cons_of_mem _ hq)) (.int _) fun b1 => by simp [madeD, b1, b2]
/-! ### the list beside the machine -/
def E18 : List (Int × Nat × Int) := (List.range 18).map fun i => (((i / 6 : Nat) : Int), (if i % 2 = 0 then 97 else 98), ((i / 2 % 3 : Nat) : Int))
theorem E18_nd : E18.Nodup := by decide +kernel
theorem E18_in : ∀ e ∈ E18, between (.int e.1) 0 2 = true ∧ between (.int e.2.2) 0 2 = true ∧ e.2.1 ∈ ([97, 98, 99] : List Nat).take 2 := by decide +kernel
theorem sub_len {α : Type} [DecidableEq α] : ∀ {xs ys : List α}, xs.Nodup → (∀ x ∈ xs, x ∈ ys) → xs.length ≤ ys.length
  | [], _, _, _ => Nat.zero_le _
  | x :: xs, ys, nd, h => by
    have hx := h x List.mem_cons_self
    have n2 := List.nodup_cons.1 nd
    have z := sub_len (ys := ys.erase x) n2.2 fun y hy => (List.mem_erase_of_ne fun e => n2.1 (by rw [← e]; exact hy)).2 (h y (List.mem_cons_of_mem _ hy))
    rw [List.length_erase_of_mem hx] at z
    have pos := List.length_pos_of_mem hx
    rw [List.length_cons]
    omega
theorem rest_pos {E : List (Int × Nat × Int)} (h : E.length ≤ 17) : 0 < (E18.filter fun e => decide (e ∉ E)).length := by
  rcases Nat.eq_zero_or_pos (E18.filter fun e => decide (e ∉ E)).length with z | z
  · have e0 := List.length_eq_zero_iff.1 z
    have sub : ∀ x ∈ E18, x ∈ E := fun x hx => by
      by_cases hE : x ∈ E
      · exact hE
      · have m : x ∈ E18.filter fun e => decide (e ∉ E) := List.mem_filter.2 ⟨hx, by simp [hE]⟩
        rw [e0] at m
        cases m
    have := sub_len E18_nd sub
    have l18 : E18.length = 18 := by decide +kernel
    omega
  · exact z
theorem filter_erase {α : Type} [DecidableEq α] : ∀ {xs : List α} {j : Nat} {x : α}, xs.Nodup → xs[j]? = some x → (xs.filter fun y => decide (y ≠ x)) = xs.eraseIdx j
  | [], _, _, _, h => by simp at h
  | y :: ys, 0, x, nd, h => by
    have e : y = x := by simpa using h
    subst e
    have n2 := List.nodup_cons.1 nd
    rw [List.filter_cons_of_neg (by simp)]
    show (ys.filter fun z => decide (z ≠ y)) = ys
    exact List.filter_eq_self.2 fun z hz => by
      have : z ≠ y := fun e => n2.1 (e ▸ hz)
      simp [this]
  | y :: ys, j + 1, x, nd, h => by
    have n2 := List.nodup_cons.1 nd
    have hx : ys[j]? = some x := by simpa using h
    have ne : y ≠ x := fun e => n2.1 (e ▸ List.mem_of_getElem? hx)
    rw [List.filter_cons_of_pos (by simp [ne]), filter_erase n2.2 hx]
    rfl
theorem eqv_eD (a b : Int × Nat × Int) : PyData.eqv (eD a) (eD b) = decide (a = b) := by
  obtain ⟨o, c, t⟩ := a
  obtain ⟨o', c', t'⟩ := b
  have hs : (S [c] = S [c']) ↔ c = c' := ⟨fun z => by have := SX.S_inj z; simpa using this, fun z => by rw [z]⟩
  simp only [eD, PyData.eqv, PyData.eqvAll, Bool.and_true]
  by_cases h1 : o = o' <;> by_cases h2 : c = c' <;> by_cases h3 : t = t' <;> simp [h1, h2, h3, hs]
theorem any_eD (es : List (Int × Nat × Int)) (a : Int × Nat × Int) : ((es.map eD).any fun e => PyData.eqv e (eD a)) = decide (a ∈ es) := by
  induction es with
  | nil => rfl
  | cons x es ih =>
    rw [List.map_cons, List.any_cons, ih, eqv_eD]
    by_cases h : x = a
    · simp [h]
    · have : ¬ a = x := fun z => h z.symm
      simp [h, this]
theorem eqvAll_eD : ∀ ds : List PyData, (∀ d ∈ ds, ∃ e, d = eD e) → PyData.eqvAll ds ds = true
  | [], _ => by simp [PyData.eqvAll]
  | d :: ds, h => by
    obtain ⟨e, rfl⟩ := h d List.mem_cons_self
    rw [PyData.eqvAll, eqv_eD, eqvAll_eD ds fun x hx => h x (List.mem_cons_of_mem _ hx)]
    simp
theorem depth_eD (e : Int × Nat × Int) : (eD e).depth ≤ 1 := by simp [eD, PyData.depth, PyData.depthAll]
theorem depthAll_eD : ∀ ds : List PyData, (∀ d ∈ ds, ∃ e, d = eD e) → PyData.depthAll ds ≤ 1
  | [], _ => by simp [PyData.depthAll]
  | d :: ds, h => by
    obtain ⟨e, rfl⟩ := h d List.mem_cons_self
    have := depth_eD e
    have := depthAll_eD ds fun x hx => h x (List.mem_cons_of_mem _ hx)
    simp only [PyData.depthAll]
    omega
theorem eSorted_eD (es : List (Int × Nat × Int)) : ∀ d ∈ eSorted es, ∃ e, d = eD e := fun d hd => by
  have := (List.mergeSort_perm _ _).mem_iff.1 hd
  obtain ⟨e, _, rfl⟩ := List.mem_map.1 this
  exact ⟨e, rfl⟩

/-! ### the law -/
def mS (E : List (Int × Nat × Int)) : Mch := ⟨2, 3, E, [], []⟩
@[reducible] def R3 (K : PySem.W.Frag) (e p a : Addr) (E E' : List (Int × Nat × Int)) (R : Res) : Res := star (own K e (E.map eD)) (star (pen K p) (star (mach K a (mS E')) R))
def restOf (E : List (Int × Nat × Int)) : List (Int × Nat × Int) := E18.filter fun x => decide (x ∉ E)
theorem restL {e : Addr} {E : List (Int × Nat × Int)} {u : V} {w0 w1 w2 w3 w4 w5 w6 w9 w10 w11 w12 w13 w14 : Option V} (hu : InL l u (.list (E18.map eD)))
    (k : ∀ v, RD K D0 (star (own K e (E.map eD)) R) ((v, .list ((restOf E).map eD)) :: l) (Q v)) :
    RD K D0 (star (own K e (E.map eD)) R) l (fun H => tLc (gIt K (tVar 8)) (gName 13) (tTest (tOp (gIn K true) (tVar 13) (tVar 7))) (tVar 13) [13] [w0, w1, w2, w3, w4, w5, w6, some (.ref e), some u, w9, w10, w11, w12, w13, w14] H Q) := by
  walk_at "go"
  refine d_lcList hu (fun i R' l' es => R' = star (own K e (E.map eD)) R ∧ l' = l ∧ es = (((E18.take i).filter fun x => decide (x ∉ E)).map eD)) ?_ ?_ ?_ ?_
  · rintro i R' l' es ⟨rfl, rfl, rfl⟩
    exact hu
  · exact ⟨rfl, rfl, rfl⟩
  · rintro i d x D2 R' l' es hd hv ⟨rfl, rfl, rfl⟩
    have hi : i < E18.length := by simpa using (List.getElem?_eq_some_iff.1 hd).1
    have h18 : E18.length = 18 := by decide +kernel
    obtain ⟨g, hg, rfl⟩ : ∃ g, E18[i]? = some g ∧ d = eD g := by
      rw [List.getElem?_map] at hd
      obtain ⟨g, h1, h2⟩ := Option.map_eq_some_iff.1 hd
      exact ⟨g, h1, h2.symm⟩
    have tk : E18.take (i + 1) = E18.take i ++ [g] := by
      rw [List.take_succ, hg]
      rfl
    walk_at "go"
    refine RD.rot ?_
    refine d_inO (neg := true) (InL.mem (List.Mem.head _)) (Nat.le_trans (depth_eD g) (by decide)) ?_
    refine RD.rot ?_
    rw [any_eD, if_pos rfl]
    walk_at "go"
    by_cases hm : g ∈ E
    · refine d_iteN (by simp [hm]) ?_
      refine d_noItem (l' := l') ?_ (by walk_at "sub")
      refine ⟨rfl, rfl, ?_⟩
      rw [tk, List.filter_append]
      simp [hm]
    · refine d_iteY (by simp [hm]) ?_
      walk_at "go"
      refine d_item (l' := l') (d := eD g) (InL.mem (List.Mem.head _)) ?_ ?_ (by walk_at "sub")
      · have z := List.length_filter_le (fun x => decide (x ∉ E)) (E18.take i)
        have z2 := List.length_take_le i E18
        rw [List.length_map]
        exact Nat.lt_of_lt_of_le (show _ < 1000 by omega) (Nat.le_trans (by decide) line_big)
      · refine ⟨rfl, rfl, ?_⟩
        rw [tk, List.filter_append, List.map_append]
        simp [hm]
  · rintro v R' l' es ⟨rfl, rfl, rfl⟩
    have z := k v
    rw [List.length_map, List.take_length]
    exact z

theorem atI_nat {α : Type} {xs : List α} {j : Nat} {x : α} (h : xs[j]? = some x) : atI xs (j : Int) = some x := by
  have z := (List.getElem?_eq_some_iff.1 h).1
  unfold atI ixN
  rw [if_pos (by omega), if_pos (by omega)]
  exact h
theorem d_add8 {a : Addr} {u : V} {m : Mch} {o t : Int} {cs : List Nat} {EX : XK} (hu : InL l u (.tuple [.int o, .str (S cs), .int t])) (hl : cs.length ≤ 1000000) (he : m.es.length ≤ 100)
    (k1 : (between (.int o) 0 (m.n - 1) && between (.int t) 0 (m.n - 1)) = false → RD K D0 (star (mach K a m) R) l (Q (.str "state")))
    (k2 : (between (.int o) 0 (m.n - 1) && between (.int t) 0 (m.n - 1)) = true → (¬ okSign cs m.k → RD K D0 (star (mach K a m) R) l (Q (.str "sign"))) ∧
      ∀ c, cs = [c] → c ∈ ([97, 98, 99] : List Nat).take m.k →
        ((o, c, t) ∈ m.es → RD K D0 (star (mach K a m) R) l (Q (.str "exists"))) ∧
        ((o, c, t) ∉ m.es → 14 ≤ m.es.length → RD K D0 (star (mach K a m) R) l (Q (.int 14))) ∧
        ((o, c, t) ∉ m.es → m.es.length < 14 → RD K D0 (star (mach K a { m with es := m.es ++ [(o, c, t)] }) R) l (Q (.str "added")))) :
    RD K D0 (star (mach K a m) R) l (fun H => sp__law_added K [.ref a, u] H Q EX) := fun N H A => ⟨a, m, u, o, t, cs, D0, R, l, N, rfl, A, hu, hl, he, k1, k2⟩
theorem w_edge {e p a : Addr} {E E' : List (Int × Nat × Int)} {g : Int × Nat × Int} {u : V} {EX : XK} (hg : g ∈ E18) (hu : InL l u (eD g)) (hE : E'.length ≤ 14)
    (k1 : g ∈ E' → RD K D0 (R3 K e p a E E' R) l (Q (.str "exists")))
    (k2 : g ∉ E' → 14 ≤ E'.length → RD K D0 (R3 K e p a E E' R) l (Q (.int 14)))
    (k3 : g ∉ E' → E'.length < 14 → RD K D0 (R3 K e p a E (E' ++ [g]) R) l (Q (.str "added"))) :
    RD K D0 (R3 K e p a E E' R) l (fun H => sp__law_added K [.ref a, u] H Q EX) := by
  obtain ⟨b1, b2, b3⟩ := E18_in g hg
  obtain ⟨o, c, t⟩ := g
  refine RD.third ?_
  refine d_add8 (m := mS E') (o := o) (t := t) (cs := [c]) hu (by show 1 ≤ 1000000; decide) (by show E'.length ≤ 100; omega) (fun h => ?_) fun _ => ⟨fun h => ?_, fun c' hc hm => ⟨fun h => ?_, fun h1 h2 => ?_, fun h1 h2 => ?_⟩⟩
  · exact absurd h (by
      show ¬ (between (.int o) 0 2 && between (.int t) 0 2) = false
      rw [b1, b2]
      decide)
  · exact absurd ⟨c, rfl, b3⟩ h
  · cases hc
    exact RD.back (k1 h)
  · cases hc
    exact RD.back (k2 h1 h2)
  · cases hc
    exact RD.back (k3 h1 h2)
theorem w_sign {e p a : Addr} {E E' : List (Int × Nat × Int)} {u : V} {EX : XK} (hu : InL l u (.tuple [.int 0, .str "c", .int 0])) (hE : E'.length ≤ 14)
    (k : RD K D0 (R3 K e p a E E' R) l (Q (.str "sign"))) : RD K D0 (R3 K e p a E E' R) l (fun H => sp__law_added K [.ref a, u] H Q EX) := by
  have no : ¬ okSign [99] 2 := by
    rintro ⟨c, h1, h2⟩
    cases h1
    revert h2
    decide
  rw [show ("c" : Str) = S [99] by decide +kernel] at hu
  refine RD.third ?_
  refine d_add8 (m := mS E') (o := 0) (t := 0) (cs := [99]) hu (by decide) (by show E'.length ≤ 100; omega) (fun h => ?_) fun _ => ⟨fun h => RD.back k, fun c' hc hm => ?_⟩
  · exact absurd h (by show ¬ (between (.int 0) 0 2 && between (.int 0) 0 2) = false; decide)
  · exact absurd ⟨c', hc, hm⟩ no
theorem w_state {e p a : Addr} {E E' : List (Int × Nat × Int)} {u : V} {EX : XK} (hu : InL l u (.tuple [.int 0, .str "c", .int 3])) (hE : E'.length ≤ 14)
    (k : RD K D0 (R3 K e p a E E' R) l (Q (.str "state"))) : RD K D0 (R3 K e p a E E' R) l (fun H => sp__law_added K [.ref a, u] H Q EX) := by
  rw [show ("c" : Str) = S [99] by decide +kernel] at hu
  refine RD.third ?_
  refine d_add8 (m := mS E') (o := 0) (t := 3) (cs := [99]) hu (by decide) (by show E'.length ≤ 100; omega) (fun h => RD.back k) fun h => ?_
  exact absurd h (by show ¬ (between (.int 0) 0 2 && between (.int 3) 0 2) = true; decide)
theorem rest_at {E : List (Int × Nat × Int)} {j : Nat} (h : j < (restOf E).length) : ∃ g, g ∈ E18 ∧ g ∉ E ∧ ((restOf E).map eD)[j]? = some (eD g) := by
  refine ⟨(restOf E)[j], ?_, ?_, ?_⟩
  · exact (List.mem_filter.1 (List.getElem_mem h)).1
  · have := (List.mem_filter.1 (List.getElem_mem h)).2
    simpa using this
  · rw [List.getElem?_map, List.getElem?_eq_getElem h]
    rfl
theorem rest_le (E : List (Int × Nat × Int)) : (restOf E).length ≤ 18 := Nat.le_trans (List.length_filter_le _ _) (by decide +kernel)
theorem fill_ok {D : Ends} {e p a : Addr} {E : List (Int × Nat × Int)} {u : V} {w0 w2 w3 w4 w5 w9 w10 w11 w12 w13 w14 : Option V} (hu : InL l u (.list (E18.map eD))) (hl : E.length < 14)
    (kk : ∀ (g : Int × Nat × Int) (l' : List (V × PyData)) (w12 w13 : Option V), g ∉ E → g ∈ E18 → (∀ q ∈ l, InL l' q.1 q.2) →
      RD K D0 (R3 K e p a (E ++ [g]) (E ++ [g]) R) l' (fun H => D.nx [w0, some (.ref p), w2, w3, w4, w5, some (.ref a), some (.ref e), some u, w9, w10, w11, w12, w13, w14] H)) :
    RD K D0 (R3 K e p a E E R) l (fun H => t_fill K W D [w0, some (.ref p), w2, w3, w4, w5, some (.ref a), some (.ref e), some u, w9, w10, w11, w12, w13, w14] H) := by
  unfold t_fill
  refine d_seq ?_
  refine d_asg ?_
  refine restL hu fun v => ?_
  have rp := rest_pos (E := E) (by omega)
  have rl := rest_le E
  walk_at "go"
  refine d_lenL (InL.mem (List.Mem.head _)) ?_
  refine d_draw2 (by rw [List.length_map]; exact Int.ofNat_lt.2 rp) (by rw [List.length_map]; omega) fun n n0 n1 => ?_
  obtain ⟨j, rfl⟩ := Int.eq_ofNat_of_zero_le n0
  rw [List.length_map] at n1
  obtain ⟨g, hg, hn, hj⟩ := rest_at (E := E) (j := j) (by omega)
  refine d_ixL (InL.mem (List.Mem.head _)) (atI_nat hj) fun w hw => ?_
  walk_at "go"
  refine w_edge hg (InL.mem (List.Mem.head _)) (by omega) (fun h => absurd h hn) (fun _ h => absurd h (by omega)) fun _ _ => ?_
  walk_at "go"
  refine d_iteN (by simp) ?_
  walk_at "go"
  refine w_edge hg (InL.mem (List.Mem.head _)) (by rw [List.length_append]; show E.length + 1 ≤ 14; omega) (fun _ => ?_) (fun h => absurd (List.mem_append_right _ (List.Mem.head _)) h) fun h => absurd (List.mem_append_right _ (List.Mem.head _)) h
  walk_at "go"
  refine d_iteN (by simp) ?_
  walk_at "go"
  refine d_append (InL.mem (List.Mem.head _)) ?_ ?_
  · rw [List.length_map]
    exact Nat.lt_of_lt_of_le (show E.length < 1000 by omega) (Nat.le_trans (by decide) line_big)
  walk_at "go"
  have z := kk g ((w, eD g) :: (v, .list ((restOf E).map eD)) :: l) (some v) (some w) hn hg fun q hq => .mem (List.mem_cons_of_mem _ (List.mem_cons_of_mem _ hq))
  unfold R3 at z
  rw [show (E ++ [g]).map eD = E.map eD ++ [eD g] by rw [List.map_append]; rfl] at z
  exact z

theorem d_ixO {a : Addr} {ds : List PyData} {i : Int} {d : PyData} (hi : atI ds i = some d) (k : ∀ v, Dv v d → RD K D0 (star (own K a ds) R) ((v, d) :: l) (Q v)) : RD K D0 (star (own K a ds) R) l (fun H => rIx K (.ref a) (.int i) H Q) := fun N H A => by
  obtain ⟨xs, hx, hd⟩ := A.ownAt
  obtain ⟨v, hv, dv⟩ := hd.atI hi
  exact .inl ⟨a, xs, i, v, rfl, rfl, SqL.of hx, hv, k v dv.dv N H (A.facts dv)⟩
theorem d_removeEdge {a : Addr} {m : Mch} {o t : Int} {c : Nat} {EX : XK} (hm : (o, c, t) ∈ m.es) (k : RD K D0 (star (mach K a { m with es := m.es.filter fun x => decide (x ≠ (o, c, t)) }) R) l (Q .non)) :
    RD K D0 (star (mach K a m) R) l (fun H => sp_Machine_remove_edge K [.ref a, .int o, .str (S [c]), .int t] H Q EX) := fun N H A => ⟨a, m, o, t, c, D0, R, l, N, rfl, A, fun h => absurd hm h, fun _ => k⟩
theorem d_edges {a : Addr} {m : Mch} {EX : XK} (k : ∀ v, RD K D0 (star (mach K a m) R) ((v, .tuple (eSorted m.es)) :: l) (Q v)) : RD K D0 (star (mach K a m) R) l (fun H => sp_Machine_edges K [.ref a] H Q EX) := fun N H A => ⟨a, m, D0, R, l, N, rfl, A, k⟩
theorem erase_map {α β : Type} (f : α → β) : ∀ (xs : List α) (j : Nat), (xs.map f).eraseIdx j = (xs.eraseIdx j).map f
  | [], _ => rfl
  | _ :: _, 0 => rfl
  | x :: xs, j + 1 => congrArg (f x :: ·) (erase_map f xs j)
theorem pops_ok {D : Ends} {e p a : Addr} {E : List (Int × Nat × Int)} {u : V} {w0 w2 w3 w4 w5 w9 w10 w11 w12 w13 w14 : Option V} (nd : E.Nodup) (h0 : 0 < E.length) (hl : E.length ≤ 14)
    (kk : ∀ (j : Nat) (l' : List (V × PyData)) (w14 : Option V), j < E.length → (∀ q ∈ l, InL l' q.1 q.2) →
      RD K D0 (R3 K e p a (E.eraseIdx j) (E.eraseIdx j) R) l' (fun H => D.nx [w0, some (.ref p), w2, w3, w4, w5, some (.ref a), some (.ref e), some u, w9, w10, w11, w12, w13, w14] H)) :
    RD K D0 (R3 K e p a E E R) l (fun H => t_pops K W D [w0, some (.ref p), w2, w3, w4, w5, some (.ref a), some (.ref e), some u, w9, w10, w11, w12, w13, w14] H) := by
  unfold t_pops
  walk_at "go"
  refine d_lenO ?_
  refine d_draw2 (by rw [List.length_map]; exact Int.ofNat_lt.2 h0) (by rw [List.length_map]; omega) fun n n0 n1 => ?_
  obtain ⟨j, rfl⟩ := Int.eq_ofNat_of_zero_le n0
  rw [List.length_map] at n1
  have hj : j < E.length := by omega
  obtain ⟨⟨o, c, t⟩, hgj⟩ : ∃ x, E[j]? = some x := ⟨_, List.getElem?_eq_getElem hj⟩
  walk_at "go"
  refine d_popO (i := j) (d := eD (o, c, t)) (by rw [List.getElem?_map, hgj]; rfl) (by rw [List.length_map]; omega) fun w hw => ?_
  walk_at "go"
  refine RD.third ?_
  refine d_kGM (fun _ _ _ => rfl) ?_
  walk_at "go"
  refine d_ixT (ds := [.int o, .str (S [c]), .int t]) (InL.mem (List.Mem.head _)) (d := .int o) rfl fun x1 h1 => ?_
  obtain rfl : x1 = .int o := h1
  walk_at "go"
  refine d_ixT (ds := [.int o, .str (S [c]), .int t]) (InL.mem (List.Mem.tail _ (List.Mem.head _))) (d := .str (S [c])) rfl fun x2 h2 => ?_
  obtain rfl : x2 = .str (S [c]) := h2
  walk_at "go"
  refine d_ixT (ds := [.int o, .str (S [c]), .int t]) (InL.mem (List.Mem.tail _ (List.Mem.tail _ (List.Mem.head _)))) (d := .int t) rfl fun x3 h3 => ?_
  obtain rfl : x3 = .int t := h3
  walk_at "go"
  refine d_removeEdge (m := mS E) (List.mem_of_getElem? hgj) ?_
  refine RD.back ?_
  walk_at "go"
  have z := kk j ((.int t, .int t) :: (.str (S [c]), .str (S [c])) :: (.int o, .int o) :: (w, eD (o, c, t)) :: l) (some w) hj fun q hq => .mem (List.mem_cons_of_mem _ (List.mem_cons_of_mem _ (List.mem_cons_of_mem _ (List.mem_cons_of_mem _ hq))))
  have fe : (E.filter fun y => decide (y ≠ (o, c, t))) = E.eraseIdx j := filter_erase nd hgj
  rw [erase_map, show ({ mS E with es := (mS E).es.filter fun x => decide (x ≠ (o, c, t)) } : Mch) = mS (E.eraseIdx j) by unfold mS; simp only [fe]]
  exact z
theorem after_ok {D : Ends} {e p a : Addr} {E : List (Int × Nat × Int)} {u : V} {w0 w2 w3 w4 w5 w9 w10 w11 w12 w13 w14 : Option V} (hu : InL l u (.list (E18.map eD))) (nd : E.Nodup) (sub : ∀ g ∈ E, g ∈ E18) (hl : E.length = 14)
    (kk : ∀ (E : List (Int × Nat × Int)) (l' : List (V × PyData)) (w11 w12 w13 w14 : Option V), E.Nodup → (∀ g ∈ E, g ∈ E18) → E.length ≤ 14 → InL l' u (.list (E18.map eD)) →
      RD K D0 (R3 K e p a E E R) l' (fun H => D.nx [w0, some (.ref p), w2, w3, w4, w5, some (.ref a), some (.ref e), some u, w9, w10, w11, w12, w13, w14] H)) :
    RD K D0 (R3 K e p a E E R) l (fun H => t_after K W D [w0, some (.ref p), w2, w3, w4, w5, some (.ref a), some (.ref e), some u, w9, w10, w11, w12, w13, w14] H) := by
  unfold t_after
  refine d_seq ?_
  refine d_asg ?_
  refine restL hu fun v => ?_
  have rp := rest_pos (E := E) (by omega)
  obtain ⟨g, hg, hn, hj⟩ := rest_at (E := E) (j := 0) rp
  walk_at "go"
  refine d_ixL (d := eD g) (InL.mem (List.Mem.head _)) (by show atI _ ((0 : Nat) : Int) = _; exact atI_nat hj) fun w hw => ?_
  walk_at "go"
  refine w_edge hg (InL.mem (List.Mem.head _)) (by omega) (fun h => absurd h hn) (fun _ _ => ?_) fun _ h => absurd h (by omega)
  walk_at "go"
  refine d_iteN (by simp) ?_
  walk_at "go"
  have h3 : 3 < E.length := by omega
  refine d_ixO (d := eD E[3]) (by show atI _ ((3 : Nat) : Int) = _; exact atI_nat (by rw [List.getElem?_map, List.getElem?_eq_getElem h3]; rfl)) fun w' hw' => ?_
  walk_at "go"
  refine w_edge (sub _ (List.getElem_mem h3)) (InL.mem (List.Mem.head _)) (by omega) (fun _ => ?_) (fun h => absurd (List.getElem_mem h3) h) fun h => absurd (List.getElem_mem h3) h
  walk_at "go"
  refine d_iteN (by simp) ?_
  walk_at "go"
  refine d_newT (ds := [.int 0, .str "c", .int 0]) (show 3 ≤ sizeLine by decide) (by walk_at "inls") fun u1 => ?_
  walk_at "go"
  refine w_sign (E' := E) (InL.mem (List.Mem.head _)) (by omega) ?_
  walk_at "go"
  refine d_iteN (by simp) ?_
  walk_at "go"
  refine d_newT (ds := [.int 0, .str "c", .int 3]) (show 3 ≤ sizeLine by decide) (by walk_at "inls") fun u2 => ?_
  walk_at "go"
  refine w_state (E' := E) (InL.mem (List.Mem.head _)) (by omega) ?_
  walk_at "go"
  refine d_iteN (by simp) ?_
  walk_at "go"
  refine d_draw2 (by decide) (by decide) fun n n0 n1 => ?_
  obtain ⟨j, rfl⟩ := Int.eq_ofNat_of_zero_le n0
  walk_at "go"
  refine d_rng1 (by omega) (by omega) ?_
  rw [show ((1 : Int) + ((j : Nat) : Int)).toNat = 1 + j by omega]
  refine d_forRange (fun i R' σ' l' => ∃ E, R' = R3 K e p a E E R ∧ E.Nodup ∧ (∀ g ∈ E, g ∈ E18) ∧ 14 ≤ E.length + i ∧ E.length ≤ 14 ∧ InL l' u (.list (E18.map eD)) ∧ ∃ w11 w12 w13 w14, σ' = [w0, some (.ref p), w2, w3, w4, w5, some (.ref a), some (.ref e), some u, w9, w10, w11, w12, w13, w14]) ?_ ?_ ?_
  · exact ⟨E, rfl, nd, sub, by omega, by omega, hu.tail.tail.tail.tail.tail, _, _, _, _, rfl⟩
  · rintro i R' σ' l' hi ⟨E, rfl, nd, sub, h1, h2, hu, w11, w12, w13, w14, rfl⟩
    refine d_name (σ' := [w0, some (.ref p), w2, w3, w4, w5, some (.ref a), some (.ref e), some u, w9, w10, some (.int (0 + i)), w12, w13, w14]) rfl ?_
    refine pops_ok nd (by omega) h2 fun q l2 w14 hq hs => ?_
    dsimp only
    refine d_end (l' := l2) ?_ (by walk_at "sub")
    refine ⟨_, rfl, nd.eraseIdx _, fun g hg => sub g (List.mem_of_mem_eraseIdx hg), ?_, ?_, hl' hs hu, _, _, _, _, rfl⟩
    · rw [List.length_eraseIdx_of_lt hq]; omega
    · rw [List.length_eraseIdx_of_lt hq]; omega
  · rintro R' σ' l' ⟨E, rfl, nd, sub, h1, h2, hu, w11, w12, w13, w14, rfl⟩
    exact kk E l' _ _ _ _ nd sub h2 hu

theorem eqv_tE (ds : List PyData) (h : ∀ d ∈ ds, ∃ e, d = eD e) : PyData.eqv (.tuple ds) (.tuple ds) = true := by
  rw [PyData.eqv]
  exact eqvAll_eD ds h
theorem depth_tE (ds : List PyData) (h : ∀ d ∈ ds, ∃ e, d = eD e) : (PyData.tuple ds).depth ≤ 60 := by
  have := depthAll_eD ds h
  simp only [PyData.depth]
  omega
theorem pure_law (M : MCls K) (h : spLaw K vs H Q E) : t_law K W { nx := fun _ H' => Q .non H', rt := Q } (start ["script", "pen", "odd", "k", "n", "due", "tool", "edges", "every", "at", "turn", "step", "rest", "edge", "gone"] vs) H := by
  obtain ⟨a, ns, rfl, hS, hl, kk⟩ := h
  refine law_start (Q := Q) (a := a) (i := 1) rfl hS hl fun p => ?_
  walk_at "go"
  refine d_un ?_
  walk_at "go"
  refine d_negI ?_
  walk_at "go"
  refine d_newT (ds := []) (show 0 ≤ sizeLine by decide) (by walk_at "inls") fun u0 => ?_
  walk_at "go"
  refine d_I (show CPow 10 20 from ⟨by decide, by decide, by decide⟩) ?_
  walk_at "go"
  refine d_newL (ds := oddL) (show 9 ≤ sizeLine by decide) (by unfold oddL; walk_at "inls") fun odd => ?_
  refine d_name (σ' := [some (.ref a), some (.ref p), some odd, none, none, none, none, none, none, none, none, none, none, none, none]) rfl ?_
  walk_at "go"
  refine d_newL (ds := [.int 1, .int 2, .int 3]) (show 3 ≤ sizeLine by decide) (by walk_at "inls") fun u1 => ?_
  walk_at "go"
  refine d_catL (ds := [.int 1, .int 2, .int 3]) (es := oddL) (InL.mem (List.Mem.head _)) (InL.mem (List.Mem.tail _ (List.Mem.head _))) (show 12 ≤ sizeLine by decide) fun ks => ?_
  refine d_forList (ds := k1L) (InL.mem (List.Mem.head _)) (fun _ R' σ' l' => R' = star (pen K p) emp ∧ InL l' ks (.list k1L) ∧ InL l' odd (.list oddL) ∧ ∃ w3 w4 w5, σ' = [some (.ref a), some (.ref p), some odd, w3, w4, w5, none, none, none, none, none, none, none, none, none]) ?_ ?_ ?_ ?_
  · rintro i R' σ' l' ⟨rfl, h1, h2, w3, w4, w5, rfl⟩
    exact h1
  · exact ⟨rfl, InL.mem (List.Mem.head _), InL.mem (List.Mem.tail _ (List.Mem.tail _ (List.Mem.head _))), _, _, _, rfl⟩
  · rintro i d x R' σ' l' hd hv ⟨rfl, hk, ho, w3, w4, w5, rfl⟩
    have m1 := List.mem_of_getElem? hd
    walk_at "go"
    refine d_newL (ds := [.int 1, .int 4, .int 6]) (show 3 ≤ sizeLine by decide) (by walk_at "inls") fun u2 => ?_
    walk_at "go"
    refine d_catL (ds := [.int 1, .int 4, .int 6]) (es := oddL) (InL.mem (List.Mem.head _)) ho.tail.tail (show 12 ≤ sizeLine by decide) fun js => ?_
    refine d_forList (ds := k2L) (InL.mem (List.Mem.head _)) (fun _ R' σ' l' => R' = star (pen K p) emp ∧ InL l' js (.list k2L) ∧ InL l' ks (.list k1L) ∧ InL l' odd (.list oddL) ∧ InL l' x d ∧ ∃ w4 w5, σ' = [some (.ref a), some (.ref p), some odd, some x, w4, w5, none, none, none, none, none, none, none, none, none]) ?_ ?_ ?_ ?_
    · rintro i R' σ' l' ⟨rfl, h1, h2, h3, h4, w4, w5, rfl⟩
      exact h1
    · exact ⟨rfl, InL.mem (List.Mem.head _), hk.tail.tail.tail, ho.tail.tail.tail, InL.mem (List.Mem.tail _ (List.Mem.tail _ (List.Mem.head _))), _, _, rfl⟩
    · rintro i2 d2 x2 R' σ' l' hd2 hv2 ⟨rfl, h1, h2, h3, h4, w4, w5, rfl⟩
      refine d_name (σ' := [some (.ref a), some (.ref p), some odd, some x, some x2, w5, none, none, none, none, none, none, none, none, none]) rfl ?_
      refine pair_ok (d1 := d) (d2 := d2) h4.tail (InL.mem (List.Mem.head _)) m1 (List.mem_of_getElem? hd2) fun l2 w hs => ?_
      dsimp only
      refine d_end (l' := l2) ?_ (by walk_at "sub")
      exact ⟨rfl, hl' (fun q hq => hs q (List.mem_cons_of_mem _ hq)) h1, hl' (fun q hq => hs q (List.mem_cons_of_mem _ hq)) h2, hl' (fun q hq => hs q (List.mem_cons_of_mem _ hq)) h3, hl' (fun q hq => hs q (List.mem_cons_of_mem _ hq)) h4, _, _, rfl⟩
    · rintro R' σ' l' ⟨rfl, h1, h2, h3, h4, w4, w5, rfl⟩
      dsimp only
      refine d_end (l' := l') ?_ (by walk_at "sub")
      exact ⟨rfl, h2, h3, _, _, _, rfl⟩
  · rintro R' σ' l' ⟨rfl, hk, ho, w3, w4, w5, rfl⟩
    walk_at "go"
    refine d_make (.int _) rfl (.int _) rfl (fun h => absurd h (by decide)) (fun _ h => absurd h (by decide)) fun x k n e1 e2 _ _ _ _ => ?_
    obtain rfl : k = 2 := by
      have z := PyData.int.inj e1
      omega
    obtain rfl : n = 3 := by
      have z := PyData.int.inj e2
      omega
    walk_at "go"
    refine d_newO (ds := []) (show 0 ≤ sizeLine by decide) .nil fun e => ?_
    walk_at "go"
    refine d_tupPar ?_
    refine d_gcons ?_
    refine d_name (σ' := [some (.ref a), some (.ref p), some odd, w3, w4, w5, some (.ref x), none, none, none, none, none, none, none, none]) rfl ?_
    refine d_gcons ?_
    refine d_name (σ' := [some (.ref a), some (.ref p), some odd, w3, w4, w5, some (.ref x), some (.ref e), none, none, none, none, none, none, none]) rfl ?_
    refine d_gnil ?_
    refine RD.third (RD.rot ?_)
    refine RD.weak (l' := []) (fun q hq => absurd hq List.not_mem_nil) ?_
    refine (?_ : RD K _ (R3 K e p x [] [] emp) _ _)
    walk_at "go"
    refine d_rng1 (j := 18) (by decide) (by decide) ?_
    refine d_lcRange (fun i R' l2 es => R' = R3 K e p x [] [] emp ∧ l2 = [] ∧ es = (E18.take i).map eD) ⟨rfl, rfl, rfl⟩ ?_ ?_
    · rintro i D2 R' l2 es hi ⟨rfl, rfl, rfl⟩
      have hi18 : i < 18 := hi
      have hg : E18[i]? = some (((i / 6 : Nat) : Int), (if i % 2 = 0 then 97 else 98), ((i / 2 % 3 : Nat) : Int)) := by
        unfold E18
        rw [List.getElem?_map, List.getElem?_range hi18]
        rfl
      have tk : E18.take (i + 1) = E18.take i ++ [(((i / 6 : Nat) : Int), (if i % 2 = 0 then 97 else 98), ((i / 2 % 3 : Nat) : Int))] := by
        rw [List.take_succ, hg]
        rfl
      have e6 : ((0 : Int) + (i : Nat)) / 6 = ((i / 6 : Nat) : Int) := by omega
      have e2 : ((0 : Int) + (i : Nat)) % 2 = ((i % 2 : Nat) : Int) := by omega
      have e3 : ((0 : Int) + (i : Nat)) / 2 % 3 = ((i / 2 % 3 : Nat) : Int) := by omega
      have ec : atI ([97, 98] : List Nat) ((i % 2 : Nat) : Int) = some (if i % 2 = 0 then 97 else 98) := by
        have z : i % 2 = 0 ∨ i % 2 = 1 := by omega
        rcases z with z | z <;> rw [z] <;> rfl
      walk_at "go"
      refine d_I (show CDiv _ _ from ⟨by decide, by decide⟩) ?_
      rw [e6]
      walk_at "go"
      refine d_I (show (0 : Int) < 2 by decide) ?_
      rw [e2, show ("ab" : Str) = S [97, 98] by decide +kernel]
      refine d_atS (by decide) ec ?_
      walk_at "go"
      refine d_I (show CDiv _ _ from ⟨by decide, by decide⟩) ?_
      walk_at "go"
      refine d_I (show (0 : Int) < 3 by decide) ?_
      rw [e3]
      walk_at "go"
      refine d_newT (ds := [.int ((i / 6 : Nat) : Int), .str (S [if i % 2 = 0 then 97 else 98]), .int ((i / 2 % 3 : Nat) : Int)]) (show 3 ≤ sizeLine by decide) (by walk_at "inls") fun w => ?_
      refine d_item (l' := []) (d := eD (((i / 6 : Nat) : Int), (if i % 2 = 0 then 97 else 98), ((i / 2 % 3 : Nat) : Int))) (InL.mem (List.Mem.head _)) ?_ ?_ (by walk_at "sub")
      · rw [List.length_map]
        exact Nat.lt_of_lt_of_le (show _ < 1000 by have := List.length_take_le i E18; omega) (Nat.le_trans (by decide) line_big)
      · refine ⟨rfl, rfl, ?_⟩
        rw [tk, List.map_append]
        rfl
    · rintro u R' l' es ⟨rfl, rfl, rfl⟩
      rw [show E18.take (Int.toNat 18) = E18 by decide +kernel]
      refine d_name (σ' := [some (.ref a), some (.ref p), some odd, w3, w4, w5, some (.ref x), some (.ref e), some u, none, none, none, none, none, none]) rfl ?_
      walk_at "go"
      refine d_rng1 (j := 2) (by decide) (by decide) ?_
      refine d_forRange (fun i R' σ' l' => ∃ E, R' = R3 K e p x E E emp ∧ E.Nodup ∧ (∀ g ∈ E, g ∈ E18) ∧ E.length ≤ 14 ∧ InL l' u (.list (E18.map eD)) ∧ ∃ w10 w11 w12 w13 w14, σ' = [some (.ref a), some (.ref p), some odd, w3, w4, w5, some (.ref x), some (.ref e), some u, none, w10, w11, w12, w13, w14]) ?_ ?_ ?_
      · exact ⟨[], rfl, List.nodup_nil, fun g hg => absurd hg List.not_mem_nil, by decide, InL.mem (List.Mem.head _), _, _, _, _, _, rfl⟩
      · rintro i R' σ' l' hi ⟨E, rfl, nd, sub, hE, hu, w10, w11, w12, w13, w14, rfl⟩
        refine d_name (σ' := [some (.ref a), some (.ref p), some odd, w3, w4, w5, some (.ref x), some (.ref e), some u, none, some (.int (0 + i)), w11, w12, w13, w14]) rfl ?_
        walk_at "go"
        refine d_lenO ?_
        walk_at "go"
        rw [List.length_map]
        refine d_rng1 (by omega) (by omega) ?_
        rw [show ((14 : Int) - (E.length : Nat)).toNat = 14 - E.length by omega]
        refine d_forRange (fun j R' σ' l' => ∃ E', R' = R3 K e p x E' E' emp ∧ E'.Nodup ∧ (∀ g ∈ E', g ∈ E18) ∧ E'.length = E.length + j ∧ InL l' u (.list (E18.map eD)) ∧ ∃ w11 w12 w13, σ' = [some (.ref a), some (.ref p), some odd, w3, w4, w5, some (.ref x), some (.ref e), some u, none, some (.int (0 + i)), w11, w12, w13, w14]) ?_ ?_ ?_
        · exact ⟨E, rfl, nd, sub, rfl, hu, _, _, _, rfl⟩
        · rintro j R' σ' l' hj ⟨E', rfl, nd, sub, hE', hu, w11, w12, w13, rfl⟩
          refine d_name (σ' := [some (.ref a), some (.ref p), some odd, w3, w4, w5, some (.ref x), some (.ref e), some u, none, some (.int (0 + i)), some (.int (0 + j)), w12, w13, w14]) rfl ?_
          refine fill_ok hu (by omega) fun g l2 w12 w13 hn hg hs => ?_
          dsimp only
          refine d_end (l' := l2) ?_ (by walk_at "sub")
          refine ⟨_, rfl, ?_, ?_, ?_, hl' hs hu, _, _, _, rfl⟩
          · exact List.nodup_append.2 ⟨nd, by simp, fun y hy z hz => by
              obtain rfl : z = g := by simpa using hz
              exact fun q => hn (q ▸ hy)⟩
          · intro y hy
            rcases List.mem_append.1 hy with h | h
            · exact sub y h
            · obtain rfl : y = g := by simpa using h
              exact hg
          · rw [List.length_append]
            show E'.length + 1 = _
            omega
        · rintro R' σ' l' ⟨E', rfl, nd, sub, hE', hu, w11, w12, w13, rfl⟩
          dsimp only
          refine after_ok hu nd sub (by omega) fun E l2 w11 w12 w13 w14 nd sub hE hu => ?_
          dsimp only
          refine d_end (l' := l2) ?_ (by walk_at "sub")
          exact ⟨E, rfl, nd, sub, hE, hu, _, _, _, _, _, rfl⟩
      · rintro R' σ' l' ⟨E, rfl, nd, sub, hE, hu, w10, w11, w12, w13, w14, rfl⟩
        walk_at "go"
        refine RD.third ?_
        refine d_kGM (fun _ _ _ => rfl) ?_
        walk_at "go"
        refine d_edges (m := mS E) fun v => ?_
        refine RD.back ?_
        walk_at "go"
        refine RD.freeze ?_
        have each : ∀ d ∈ E.map eD, ∃ g, d = eD g := fun d hd => by
          obtain ⟨g, _, rfl⟩ := List.mem_map.1 hd
          exact ⟨g, rfl⟩
        refine d_sorted (InL.mem (List.Mem.head _)) (PySem.W.AllAlike.of fun _ _ => by simp [eD, PySem.W.alike, PySem.W.alikeAll]) (PySem.W.Sortable.tuples fun _ => ⟨_, _, rfl⟩) (fun d hd => by
          obtain ⟨g, rfl⟩ := each d hd
          exact Nat.le_trans (depth_eD g) (by decide)) fun s => ?_
        walk_at "go"
        refine d_tupleL (InL.mem (List.Mem.head _)) fun t => ?_
        walk_at "go"
        refine d_eq (d := .tuple (eSorted E)) (e := .tuple (eSorted E)) (InL.mem (List.Mem.tail _ (List.Mem.tail _ (List.Mem.tail _ (List.Mem.head _))))) (InL.mem (List.Mem.head _)) (depth_tE _ (eSorted_eD E)) ?_
        rw [eqv_tE _ (eSorted_eD E)]
        walk_at "go"
        exact fun N H A => kk H
end
end L08

/-! D08: each def of the text keeps its promise; the head. -/
namespace D08
open PySem PySem.Spec L2 GL
open PyProof.Rows hiding St
open L08
def top (i : Nat) : Stmt := PySem.Challenge.pw_gaprules_k08_limits_of_machines.main.body.getD i (.Pass ⟨0, 0, 0, 0⟩)
abbrev s__law_pen : Stmt := (top 20)
abbrev N__law_pen : List Str := ["script"]
theorem sc__law_pen : FnScope N__law_pen ["script"] (defScope s__law_pen) := ⟨rfl, rfl, rfl, by decide +kernel, rfl, by decide +kernel, by decide +kernel⟩
abbrev s_is_between : Stmt := (top 13)
abbrev N_is_between : List Str := ["value", "low", "high"]
theorem sc_is_between : FnScope N_is_between ["value", "low", "high"] (defScope s_is_between) := ⟨rfl, rfl, rfl, by decide +kernel, rfl, by decide +kernel, by decide +kernel⟩
abbrev s_Machine___init__ : Stmt := (inClass (top 18) 0)
abbrev N_Machine___init__ : List Str := ["self", "signs", "states"]
theorem sc_Machine___init__ : FnScope N_Machine___init__ ["self", "signs", "states"] (defScope s_Machine___init__) := ⟨rfl, rfl, rfl, by decide +kernel, rfl, by decide +kernel, by decide +kernel⟩
abbrev s_Machine_edges : Stmt := (inClass (top 18) 7)
abbrev N_Machine_edges : List Str := ["self"]
theorem sc_Machine_edges : FnScope N_Machine_edges ["self"] (defScope s_Machine_edges) := ⟨rfl, rfl, rfl, by decide +kernel, rfl, by decide +kernel, by decide +kernel⟩
abbrev s_Machine_remove_edge : Stmt := (inClass (top 18) 2)
abbrev N_Machine_remove_edge : List Str := ["self", "origin", "sign", "target", "edge"]
theorem sc_Machine_remove_edge : FnScope N_Machine_remove_edge ["self", "origin", "sign", "target"] (defScope s_Machine_remove_edge) := ⟨rfl, rfl, rfl, by decide +kernel, rfl, by decide +kernel, by decide +kernel⟩
abbrev s__law_fresh : Stmt := (top 21)
abbrev N__law_fresh : List Str := ["pen", "at", "cell", "p", "state", "found", "turn"]
theorem sc__law_fresh : FnScope N__law_fresh ["pen"] (defScope s__law_fresh) := ⟨rfl, rfl, rfl, by decide +kernel, rfl, by decide +kernel, by decide +kernel⟩
abbrev s__law_draw : Stmt := (top 22)
abbrev N__law_draw : List Str := ["pen", "many", "digit"]
theorem sc__law_draw : FnScope N__law_draw ["pen", "many"] (defScope s__law_draw) := ⟨rfl, rfl, rfl, by decide +kernel, rfl, by decide +kernel, by decide +kernel⟩
abbrev s_Machine__require_state : Stmt := (inClass (top 18) 19)
abbrev N_Machine__require_state : List Str := ["self", "state"]
theorem sc_Machine__require_state : FnScope N_Machine__require_state ["self", "state"] (defScope s_Machine__require_state) := ⟨rfl, rfl, rfl, by decide +kernel, rfl, by decide +kernel, by decide +kernel⟩
abbrev s_is_log : Stmt := (top 9)
abbrev N_is_log : List Str := ["value", "signs", "letter"]
theorem sc_is_log : FnScope N_is_log ["value", "signs"] (defScope s_is_log) := ⟨rfl, rfl, rfl, by decide +kernel, rfl, by decide +kernel, by decide +kernel⟩
abbrev s_is_sign : Stmt := (top 11)
abbrev N_is_sign : List Str := ["value", "signs"]
theorem sc_is_sign : FnScope N_is_sign ["value", "signs"] (defScope s_is_sign) := ⟨rfl, rfl, rfl, by decide +kernel, rfl, by decide +kernel, by decide +kernel⟩
abbrev s_require_sign : Stmt := (top 10)
abbrev N_require_sign : List Str := ["value", "signs"]
theorem sc_require_sign : FnScope N_require_sign ["value", "signs"] (defScope s_require_sign) := ⟨rfl, rfl, rfl, by decide +kernel, rfl, by decide +kernel, by decide +kernel⟩
abbrev s_Machine_add_edge : Stmt := (inClass (top 18) 1)
abbrev N_Machine_add_edge : List Str := ["self", "origin", "sign", "target", "edge"]
theorem sc_Machine_add_edge : FnScope N_Machine_add_edge ["self", "origin", "sign", "target"] (defScope s_Machine_add_edge) := ⟨rfl, rfl, rfl, by decide +kernel, rfl, by decide +kernel, by decide +kernel⟩
abbrev s__law_added : Stmt := (top 24)
abbrev N__law_added : List Str := ["tool", "edge", "found", "e"]
theorem sc__law_added : FnScope N__law_added ["tool", "edge"] (defScope s__law_added) := ⟨rfl, rfl, rfl, by decide +kernel, rfl, by decide +kernel, by decide +kernel⟩
abbrev s__law_made : Stmt := (top 23)
abbrev N__law_made : List Str := ["k", "n", "found", "e"]
theorem sc__law_made : FnScope N__law_made ["k", "n"] (defScope s__law_made) := ⟨rfl, rfl, rfl, by decide +kernel, rfl, by decide +kernel, by decide +kernel⟩
abbrev s_law : Stmt := (top 25)
abbrev N_law : List Str := ["script", "pen", "odd", "k", "n", "due", "tool", "edges", "every", "at", "turn", "step", "rest", "edge", "gone"]
theorem sc_law : FnScope N_law ["script"] (defScope s_law) := ⟨rfl, rfl, rfl, by decide +kernel, rfl, by decide +kernel, by decide +kernel⟩
abbrev s_EdgeExists___init__ : Stmt := (inClass (top 5) 0)
theorem sc_EdgeExists___init__ : FnScope ["self", "edge"] ["self", "edge"] (defScope s_EdgeExists___init__) := ⟨rfl, rfl, rfl, by decide +kernel, rfl, by decide +kernel, by decide +kernel⟩
abbrev s_LimitExceeded___init__ : Stmt := (inClass (top 6) 0)
theorem sc_LimitExceeded___init__ : FnScope ["self", "limit"] ["self", "limit"] (defScope s_LimitExceeded___init__) := ⟨rfl, rfl, rfl, by decide +kernel, rfl, by decide +kernel, by decide +kernel⟩
abbrev s_NotALog___init__ : Stmt := (inClass (top 2) 0)
theorem sc_NotALog___init__ : FnScope ["self", "value"] ["self", "value"] (defScope s_NotALog___init__) := ⟨rfl, rfl, rfl, by decide +kernel, rfl, by decide +kernel, by decide +kernel⟩
abbrev s_UnknownEdge___init__ : Stmt := (inClass (top 4) 0)
theorem sc_UnknownEdge___init__ : FnScope ["self", "edge"] ["self", "edge"] (defScope s_UnknownEdge___init__) := ⟨rfl, rfl, rfl, by decide +kernel, rfl, by decide +kernel, by decide +kernel⟩
abbrev s_UnknownState___init__ : Stmt := (inClass (top 3) 0)
theorem sc_UnknownState___init__ : FnScope ["self", "state"] ["self", "state"] (defScope s_UnknownState___init__) := ⟨rfl, rfl, rfl, by decide +kernel, rfl, by decide +kernel, by decide +kernel⟩
section
variable {P : Program} {w : World} {K : PySem.W.Frag} {mg : Str → Option Value} {base : Heap}
theorem oki_EdgeExists {fd : FuncData} (F : FunD K "__init__" "EdgeExists.__init__" (defArgs s_EdgeExists___init__) (defBody s_EdgeExists___init__) (defScope s_EdgeExists___init__) [] [] (He.ma K (He.ga K "EdgeExists") "__init__") fd) (T : ExB "RuntimeError" "RuntimeError.__new__" bmRE K (He.ga K "EdgeExists") (He.ma K (He.ga K "EdgeExists") "__init__") "edge") : FnOk P w K mg base CX0 1 (He.ma K (He.ga K "EdgeExists") "__init__") fd ["self", "edge"] (spInit (He.ga K "EdgeExists") "edge") :=
  F.ok sc_EdgeExists___init__ (fun vs H Q E h => len_init h) (fun cdv A outer s H vs Q E hr h => ⟨tOstB K (He.ga K "EdgeExists") "edge" (tVar 0) (tVar 1), PSs.nox (pss_one (ps_ostB PySem.F.store_RuntimeError T (pv 0) (pv 1))), pure_initB h⟩)
theorem oki_LimitExceeded {fd : FuncData} (F : FunD K "__init__" "LimitExceeded.__init__" (defArgs s_LimitExceeded___init__) (defBody s_LimitExceeded___init__) (defScope s_LimitExceeded___init__) [] [] (He.ma K (He.ga K "LimitExceeded") "__init__") fd) (T : ExB "OverflowError" "OverflowError.__new__" bmOE K (He.ga K "LimitExceeded") (He.ma K (He.ga K "LimitExceeded") "__init__") "limit") : FnOk P w K mg base CX0 1 (He.ma K (He.ga K "LimitExceeded") "__init__") fd ["self", "limit"] (spInit (He.ga K "LimitExceeded") "limit") :=
  F.ok sc_LimitExceeded___init__ (fun vs H Q E h => len_init h) (fun cdv A outer s H vs Q E hr h => ⟨tOstB K (He.ga K "LimitExceeded") "limit" (tVar 0) (tVar 1), PSs.nox (pss_one (ps_ostB PySem.F.store_OverflowError T (pv 0) (pv 1))), pure_initB h⟩)
theorem oki_NotALog {fd : FuncData} (F : FunD K "__init__" "NotALog.__init__" (defArgs s_NotALog___init__) (defBody s_NotALog___init__) (defScope s_NotALog___init__) [] [] (He.ma K (He.ga K "NotALog") "__init__") fd) (T : ExB "ValueError" "ValueError.__new__" [.type "ValueError", .type "Exception", .type "BaseException", .type "object"] K (He.ga K "NotALog") (He.ma K (He.ga K "NotALog") "__init__") "value") : FnOk P w K mg base CX0 1 (He.ma K (He.ga K "NotALog") "__init__") fd ["self", "value"] (spInit (He.ga K "NotALog") "value") :=
  F.ok sc_NotALog___init__ (fun vs H Q E h => len_init h) (fun cdv A outer s H vs Q E hr h => ⟨tOstB K (He.ga K "NotALog") "value" (tVar 0) (tVar 1), PSs.nox (pss_one (ps_ostB PySem.F.store_ValueError T (pv 0) (pv 1))), pure_initB h⟩)
theorem oki_UnknownEdge {fd : FuncData} (F : FunD K "__init__" "UnknownEdge.__init__" (defArgs s_UnknownEdge___init__) (defBody s_UnknownEdge___init__) (defScope s_UnknownEdge___init__) [] [] (He.ma K (He.ga K "UnknownEdge") "__init__") fd) (T : ExB "LookupError" "LookupError.__new__" bmLE K (He.ga K "UnknownEdge") (He.ma K (He.ga K "UnknownEdge") "__init__") "edge") : FnOk P w K mg base CX0 1 (He.ma K (He.ga K "UnknownEdge") "__init__") fd ["self", "edge"] (spInit (He.ga K "UnknownEdge") "edge") :=
  F.ok sc_UnknownEdge___init__ (fun vs H Q E h => len_init h) (fun cdv A outer s H vs Q E hr h => ⟨tOstB K (He.ga K "UnknownEdge") "edge" (tVar 0) (tVar 1), PSs.nox (pss_one (ps_ostB PySem.F.store_LookupError T (pv 0) (pv 1))), pure_initB h⟩)
theorem oki_UnknownState {fd : FuncData} (F : FunD K "__init__" "UnknownState.__init__" (defArgs s_UnknownState___init__) (defBody s_UnknownState___init__) (defScope s_UnknownState___init__) [] [] (He.ma K (He.ga K "UnknownState") "__init__") fd) (T : ExB "LookupError" "LookupError.__new__" bmLE K (He.ga K "UnknownState") (He.ma K (He.ga K "UnknownState") "__init__") "state") : FnOk P w K mg base CX0 1 (He.ma K (He.ga K "UnknownState") "__init__") fd ["self", "state"] (spInit (He.ga K "UnknownState") "state") :=
  F.ok sc_UnknownState___init__ (fun vs H Q E h => len_init h) (fun cdv A outer s H vs Q E hr h => ⟨tOstB K (He.ga K "UnknownState") "state" (tVar 0) (tVar 1), PSs.nox (pss_one (ps_ostB PySem.F.store_LookupError T (pv 0) (pv 1))), pure_initB h⟩)
theorem ok__law_pen {f : Addr} {fd : FuncData} (F : FunD K "_law_pen" "_law_pen" (defArgs s__law_pen) (defBody s__law_pen) (defScope s__law_pen) [] [] f fd)
    (b_list : mg "list" = none) : Gn P w K mg base 1 f 1 (sp__law_pen K) :=
  gn_ok F sc__law_pen (fun _ _ _ _ _ _ us hl => match us, hl with | [_], _ => rfl) (fun vs H Q E h => len__law_pen h) (fun cdv A outer s H vs Q E hg hr h => ⟨t__law_pen K (fun cls d _ H => E cls d H), (pss_one (ps_ret (pe_lst (pa_cons (pe_callTy call_glist (by rfl) b_list (by decide +kernel) (pa_cons (pe_slice sl_g (pv 0) po_none (po_some pe_int)) pa_nil)) (pa_cons pe_int (pa_cons pe_int pa_nil)))))), pure__law_pen h⟩)
theorem ok_is_between {f : Addr} {fd : FuncData} (F : FunD K "is_between" "is_between" (defArgs s_is_between) (defBody s_is_between) (defScope s_is_between) [] [] f fd)
    (b_bool : mg "bool" = none)
    (b_int : mg "int" = none)
    (b_isinstance : mg "isinstance" = none) : Gn P w K mg base 1 f 3 (sp_is_between K) :=
  gn_ok F sc_is_between (fun _ _ _ _ _ _ us hl => match us, hl with | [_, _, _], _ => rfl) (fun vs H Q E h => len_is_between h) (fun cdv A outer s H vs Q E hg hr h => ⟨t_is_between K (fun cls d _ H => E cls d H), (pss_one (ps_ret (pe_and (pe_callB call_isi (by rfl) b_isinstance PyProof.Rows.boot_isinstance (pa_cons (pv 0) (pa_cons (pe_bltn (u := .type "int") (by rfl) b_int (by decide +kernel) rfl) pa_nil))) (pe_and (pe_not (pe_callB call_isi (by rfl) b_isinstance PyProof.Rows.boot_isinstance (pa_cons (pv 0) (pa_cons (pe_bltn (u := .type "bool") (by rfl) b_bool (by decide +kernel) rfl) pa_nil)))) (pe_one (pe_chain op_le op_le (pv 1) (pv 0) (pv 2))))))), pure_is_between h⟩)
theorem ok_Machine___init__ {f : Addr} {fd : FuncData} {fdi_LimitExceeded : FuncData} (F : FunD K "__init__" "Machine.__init__" (defArgs s_Machine___init__) (defBody s_Machine___init__) (defScope s_Machine___init__) [] [] f fd)
    (MC : MCls K)
    (B_LimitExceeded : Binds K fdi_LimitExceeded ["self", "limit"] [])
    (G_is_between : Gn P w K mg base 1 (He.ga K "is_between") 3 (sp_is_between K))
    (I_LimitExceeded : FnOk P w K mg base CX0 1 (He.ma K (He.ga K "LimitExceeded") "__init__") fdi_LimitExceeded ["self", "limit"] (spInit (He.ga K "LimitExceeded") "limit"))
    (T_LimitExceeded : ExB "OverflowError" "OverflowError.__new__" bmOE K (He.ga K "LimitExceeded") (He.ma K (He.ga K "LimitExceeded") "__init__") "limit")
    (k_is_between : PySem.W.keepIn K (.ref (He.ga K "is_between")) = true)
    (m_LimitExceeded : mg "LimitExceeded" = some (.ref (He.ga K "LimitExceeded")))
    (m_MOST_SIGNS : ∃ t, mg "MOST_SIGNS" = some (.int 3 t))
    (m_MOST_STATES : ∃ t, mg "MOST_STATES" = some (.int 6 t))
    (m_is_between : mg "is_between" = some (.ref (He.ga K "is_between"))) : Gn P w K mg base 3 f 3 (sp_Machine___init__ K) :=
  gn_ok F sc_Machine___init__ (fun _ _ _ _ _ _ us hl => match us, hl with | [_, _, _], _ => rfl) (fun vs H Q E h => len_Machine___init__ h) (fun cdv A outer s H vs Q E hg hr h => ⟨t_Machine___init__ K (fun cls d _ H => E cls d H), (pss_cons (ps_if (pt_not (pt_truth (g_call G_is_between hg (hr.mono (by decide)) (L2.takes_of rfl rfl rfl rfl) rfl m_is_between k_is_between (pa_cons (pv 1) (pa_cons pe_int (pa_cons (pe_glob rfl m_MOST_SIGNS.choose_spec ⟨_, rfl⟩) pa_nil)))) (by intro _; rfl))) (pss_one (g_raiseB PySem.F.excBase_OverflowError T_LimitExceeded I_LimitExceeded (hr.mono (by decide)) B_LimitExceeded rfl (L2.takes_of rfl rfl rfl rfl) rfl m_LimitExceeded (pa_cons (pe_glob rfl m_MOST_SIGNS.choose_spec ⟨_, rfl⟩) pa_nil))) pss_nil)
  (pss_cons (ps_if (pt_not (pt_truth (g_call G_is_between hg (hr.mono (by decide)) (L2.takes_of rfl rfl rfl rfl) rfl m_is_between k_is_between (pa_cons (pv 2) (pa_cons pe_int (pa_cons (pe_glob rfl m_MOST_STATES.choose_spec ⟨_, rfl⟩) pa_nil)))) (by intro _; rfl))) (pss_one (g_raiseB PySem.F.excBase_OverflowError T_LimitExceeded I_LimitExceeded (hr.mono (by decide)) B_LimitExceeded rfl (L2.takes_of rfl rfl rfl rfl) rfl m_LimitExceeded (pa_cons (pe_glob rfl m_MOST_STATES.choose_spec ⟨_, rfl⟩) pa_nil))) pss_nil)
  (pss_cons (ps_fld (pv 0) (pv 1) rfl)
  (pss_cons (ps_fld (pv 0) (pv 2) rfl)
  (pss_cons (ps_fld (pv 0) pe_dnewT rfl)
  (pss_cons (ps_fld (pv 0) pe_dnewK rfl)
  (pss_one (ps_fld (pv 0) pe_dnewK rfl)))))))), pure_Machine___init__ MC h⟩)
theorem ok_Machine_edges {f : Addr} {fd : FuncData} (F : FunD K "edges" "Machine.edges" (defArgs s_Machine_edges) (defBody s_Machine_edges) (defScope s_Machine_edges) [] [] f fd)
    (MC : MCls K)
    (b_sorted : mg "sorted" = none)
    (b_tuple : mg "tuple" = none) : Gn P w K mg base 1 f 1 (sp_Machine_edges K) :=
  gn_ok F sc_Machine_edges (fun _ _ _ _ _ _ us hl => match us, hl with | [_], _ => rfl) (fun vs H Q E h => len_Machine_edges h) (fun cdv A outer s H vs Q E hg hr h => ⟨t_Machine_edges K (fun cls d _ H => E cls d H), (pss_one (ps_ret (pe_callTy call_gtuple (by rfl) b_tuple (by decide +kernel) (pa_cons (pe_callB (call_gsortedT rfl hr.units) (by rfl) b_sorted (by decide +kernel) (pa_cons (pe_fld (pv 0) rfl) pa_nil)) pa_nil)))), pure_Machine_edges MC h⟩)
theorem ok_Machine_remove_edge {f : Addr} {fd : FuncData} {fdi_UnknownEdge : FuncData} (F : FunD K "remove_edge" "Machine.remove_edge" (defArgs s_Machine_remove_edge) (defBody s_Machine_remove_edge) (defScope s_Machine_remove_edge) [] [] f fd)
    (MC : MCls K)
    (B_UnknownEdge : Binds K fdi_UnknownEdge ["self", "edge"] [])
    (I_UnknownEdge : FnOk P w K mg base CX0 1 (He.ma K (He.ga K "UnknownEdge") "__init__") fdi_UnknownEdge ["self", "edge"] (spInit (He.ga K "UnknownEdge") "edge"))
    (T_UnknownEdge : ExB "LookupError" "LookupError.__new__" bmLE K (He.ga K "UnknownEdge") (He.ma K (He.ga K "UnknownEdge") "__init__") "edge")
    (m_UnknownEdge : mg "UnknownEdge" = some (.ref (He.ga K "UnknownEdge"))) : Gn P w K mg base 3 f 4 (sp_Machine_remove_edge K) :=
  gn_ok F sc_Machine_remove_edge (fun _ _ _ _ _ _ us hl => match us, hl with | [_, _, _, _], _ => rfl) (fun vs H Q E h => len_Machine_remove_edge h) (fun cdv A outer s H vs Q E hg hr h => ⟨t_Machine_remove_edge K (fun cls d _ H => E cls d H), (pss_cons (ps_set (i := 4) sc_Machine_remove_edge.nd rfl (by first | exact Or.inl rfl | exact Or.inr rfl) (pe_tup (pa_cons (pv 1) (pa_cons (pv 2) (pa_cons (pv 3) pa_nil)))))
  (pss_cons (ps_if (pt_cmp (pc_dnotin (Nat.lt_trans (Nat.add_lt_add_left (show 1 < 64 by decide) _) hr.units) (pv 4) (pe_fld (pv 0) rfl))) (pss_one (g_raiseB PySem.F.excBase_LookupError T_UnknownEdge I_UnknownEdge (hr.mono (by decide)) B_UnknownEdge rfl (L2.takes_of rfl rfl rfl rfl) rfl m_UnknownEdge (pa_cons (pv 4) pa_nil))) pss_nil)
  (pss_one (ps_ddelT (Nat.lt_trans (Nat.add_lt_add_left (show 1 < 64 by decide) _) hr.units) (pe_fld (pv 0) rfl) (pv 4))))), pure_Machine_remove_edge MC h⟩)
theorem ok__law_fresh {f : Addr} {fd : FuncData} (F : FunD K "_law_fresh" "_law_fresh" (defArgs s__law_fresh) (defBody s__law_fresh) (defScope s__law_fresh) [] [] f fd)
    (b_len : mg "len" = none)
    (b_range : mg "range" = none) : Gn P w K mg base 1 f 1 (sp__law_fresh K) :=
  gn_ok F sc__law_fresh (fun _ _ _ _ _ _ us hl => match us, hl with | [_], _ => rfl) (fun vs H Q E h => len__law_fresh h) (fun cdv A outer s H vs Q E hg hr h => ⟨t__law_fresh K (fun cls d _ H => E cls d H), (pss_cons (ps_set (i := 1) sc__law_fresh.nd rfl (by first | exact Or.inl rfl | exact Or.inr rfl) (pe_ix ix_seq (pv 0) pe_int (fun _ _ => rfl)))
  (pss_cons (ps_asg (pe_op op_gadd (pv 1) pe_int) (pg_sub (pv 0) pe_int set_list))
  (pss_cons (ps_set (i := 2) sc__law_fresh.nd rfl (by first | exact Or.inl rfl | exact Or.inr rfl) pe_int)
  (pss_cons (ps_if (pt_cmpR (op_gne hr.units) (pe_ix ix_seq (pv 0) pe_int (fun _ _ => rfl)) (pe_lst pa_nil) (nomark _)) (pss_one (ps_set (i := 2) sc__law_fresh.nd rfl (by first | exact Or.inl rfl | exact Or.inr rfl) (pe_ix ix_seq (pe_ix ix_seq (pv 0) pe_int (fun _ _ => rfl)) (pe_op op_mod (pv 1) (pe_callB call_len (by rfl) b_len PySem.boot_len (pa_cons (pe_ix ix_seq (pv 0) pe_int (fun _ _ => rfl)) pa_nil))) (fun _ _ => rfl)))) pss_nil)
  (pss_cons (ps_if (PW.pt (pw_and (pt_cmpR op_lt (pv 1) (pe_callB call_len (by rfl) b_len PySem.boot_len (pa_cons (pe_ix ix_seq (pv 0) pe_int (fun _ _ => rfl)) pa_nil)) (nomark _)) (pw_and1 (pt_cmpR op_ge (pv 2) (pe_op op_pow pe_int pe_int) (nomark _))))) (pss_one (ps_ret (pe_op op_sub (pv 2) (pe_op op_pow pe_int pe_int)))) pss_nil)
  (pss_cons (ps_set (i := 3) sc__law_fresh.nd rfl (by first | exact Or.inl rfl | exact Or.inr rfl) pe_int)
  (pss_cons (ps_set (i := 4) sc__law_fresh.nd rfl (by first | exact Or.inl rfl | exact Or.inr rfl) (pe_op op_mod (pe_op op_gadd (pe_op op_gadd (pe_op op_gmul (pv 2) pe_int) (pe_op op_gmul pe_int (pv 1))) pe_int) (pv 3)))
  (pss_cons (ps_set (i := 5) sc__law_fresh.nd rfl (by first | exact Or.inl rfl | exact Or.inr rfl) (pv 4))
  (pss_cons (ps_for (L2.passes_of rfl) rfl (pi_range1 rfl b_range (pa_cons pe_int pa_nil)) (pg_name (i := 6) sc__law_fresh.nd rfl (by first | exact Or.inl rfl | exact Or.inr rfl)) (pss_cons (ps_set (i := 4) sc__law_fresh.nd rfl (by first | exact Or.inl rfl | exact Or.inr rfl) (pe_op op_mod (pe_op op_gadd (pe_op op_gadd (pe_op op_gmul (pv 4) (pv 4)) (pe_op op_gmul (pe_op op_gmul pe_int (pe_op op_gadd (pv 6) pe_int)) (pe_op op_gadd (pv 1) pe_int))) (pv 2)) (pv 3)))
  (pss_one (ps_set (i := 5) sc__law_fresh.nd rfl (by first | exact Or.inl rfl | exact Or.inr rfl) (pe_op op_gadd (pe_op op_gmul (pv 5) (pv 3)) (pv 4))))))
  (pss_one (ps_ret (pv 5)))))))))))), pure__law_fresh h⟩)
theorem ok__law_draw {f : Addr} {fd : FuncData} (F : FunD K "_law_draw" "_law_draw" (defArgs s__law_draw) (defBody s__law_draw) (defScope s__law_draw) [] [] f fd)
    (G__law_fresh : Gn P w K mg base 1 (He.ga K "_law_fresh") 1 (sp__law_fresh K))
    (k__law_fresh : PySem.W.keepIn K (.ref (He.ga K "_law_fresh")) = true)
    (m__law_fresh : mg "_law_fresh" = some (.ref (He.ga K "_law_fresh"))) : Gn P w K mg base 2 f 2 (sp__law_draw K) :=
  gn_ok F sc__law_draw (fun _ _ _ _ _ _ us hl => match us, hl with | [_, _], _ => rfl) (fun vs H Q E h => len__law_draw h) (fun cdv A outer s H vs Q E hg hr h => ⟨t__law_draw K (fun cls d _ H => E cls d H), (pss_cons (ps_if (pt_cmpR op_lt (pe_ix ix_seq (pv 0) pe_int (fun _ _ => rfl)) (pv 1) (nomark _)) (pss_one (ps_asg (g_call G__law_fresh hg (hr.mono (by decide)) (L2.takes_of rfl rfl rfl rfl) rfl m__law_fresh k__law_fresh (pa_cons (pv 0) pa_nil)) (pg_sub (pv 0) pe_int set_list))) pss_nil)
  (pss_cons (ps_set (i := 2) sc__law_draw.nd rfl (by first | exact Or.inl rfl | exact Or.inr rfl) (pe_op op_mod (pe_ix ix_seq (pv 0) pe_int (fun _ _ => rfl)) (pv 1)))
  (pss_cons (ps_asg (pe_op op_fdiv (pe_ix ix_seq (pv 0) pe_int (fun _ _ => rfl)) (pv 1)) (pg_sub (pv 0) pe_int set_list))
  (pss_one (ps_ret (pv 2)))))), pure__law_draw h⟩)
theorem ok_Machine__require_state {f : Addr} {fd : FuncData} {fdi_UnknownState : FuncData} (F : FunD K "_require_state" "Machine._require_state" (defArgs s_Machine__require_state) (defBody s_Machine__require_state) (defScope s_Machine__require_state) [] [] f fd)
    (MC : MCls K)
    (B_UnknownState : Binds K fdi_UnknownState ["self", "state"] [])
    (G_is_between : Gn P w K mg base 1 (He.ga K "is_between") 3 (sp_is_between K))
    (I_UnknownState : FnOk P w K mg base CX0 1 (He.ma K (He.ga K "UnknownState") "__init__") fdi_UnknownState ["self", "state"] (spInit (He.ga K "UnknownState") "state"))
    (T_UnknownState : ExB "LookupError" "LookupError.__new__" bmLE K (He.ga K "UnknownState") (He.ma K (He.ga K "UnknownState") "__init__") "state")
    (k_is_between : PySem.W.keepIn K (.ref (He.ga K "is_between")) = true)
    (m_UnknownState : mg "UnknownState" = some (.ref (He.ga K "UnknownState")))
    (m_is_between : mg "is_between" = some (.ref (He.ga K "is_between"))) : Gn P w K mg base 3 f 2 (sp_Machine__require_state K) :=
  gn_ok F sc_Machine__require_state (fun _ _ _ _ _ _ us hl => match us, hl with | [_, _], _ => rfl) (fun vs H Q E h => len_Machine__require_state h) (fun cdv A outer s H vs Q E hg hr h => ⟨t_Machine__require_state K (fun cls d _ H => E cls d H), (pss_one (ps_if (pt_not (pt_truth (g_call G_is_between hg (hr.mono (by decide)) (L2.takes_of rfl rfl rfl rfl) rfl m_is_between k_is_between (pa_cons (pv 1) (pa_cons pe_int (pa_cons (pe_op op_sub (pe_fld (pv 0) rfl) pe_int) pa_nil)))) (by intro _; rfl))) (pss_one (g_raiseB PySem.F.excBase_LookupError T_UnknownState I_UnknownState (hr.mono (by decide)) B_UnknownState rfl (L2.takes_of rfl rfl rfl rfl) rfl m_UnknownState (pa_cons (pv 1) pa_nil))) pss_nil)), pure_Machine__require_state MC h⟩)
theorem ok_is_log {f : Addr} {fd : FuncData} (F : FunD K "is_log" "is_log" (defArgs s_is_log) (defBody s_is_log) (defScope s_is_log) [] [] f fd)
    (b_all : mg "all" = none)
    (b_isinstance : mg "isinstance" = none)
    (b_str : mg "str" = none)
    (m_SIGNS : ∃ t, mg "SIGNS" = some (.str "abc" t)) : Gn P w K mg base 1 f 2 (sp_is_log K) :=
  gn_ok F sc_is_log (fun _ _ _ _ _ _ us hl => match us, hl with | [_, _], _ => rfl) (fun vs H Q E h => len_is_log h) (fun cdv A outer s H vs Q E hg hr h => ⟨t_is_log K (fun cls d _ H => E cls d H), (pss_one (ps_ret (pe_and (pe_callB call_isi (by rfl) b_isinstance PyProof.Rows.boot_isinstance (pa_cons (pv 0) (pa_cons (pe_bltn (u := .type "str") (by rfl) b_str (by decide +kernel) rfl) pa_nil))) (pe_one (pe_callB (cr_all rfl) (by rfl) b_all (by decide +kernel) (pa_cons (pe_lc (own := [("letter", 2)]) (g := (gName 2)) rfl sc_is_log.nd (pi_g (pv 0)) (blkOk_by (own := [("letter", 2)]) (N := N_is_log) (sc := defScope s_is_log) (by decide +kernel)) (fun _ _ _ _ _ => (pg_name (i := 2) sc_is_log.nd rfl (by first | exact Or.inl rfl | exact Or.inr rfl))) (fun _ _ _ _ _ => pts_nil) (fun _ _ _ _ _ => (pe_cmpR (op_gin hr.units) (pv 2) (pe_slice sl_g (pe_glob rfl m_SIGNS.choose_spec ⟨_, rfl⟩) po_none (po_some (pv 1))) rfl))) pa_nil)))))), pure_is_log h⟩)
theorem ok_is_sign {f : Addr} {fd : FuncData} (F : FunD K "is_sign" "is_sign" (defArgs s_is_sign) (defBody s_is_sign) (defScope s_is_sign) [] [] f fd)
    (G_is_log : Gn P w K mg base 1 (He.ga K "is_log") 2 (sp_is_log K))
    (b_len : mg "len" = none)
    (k_is_log : PySem.W.keepIn K (.ref (He.ga K "is_log")) = true)
    (m_is_log : mg "is_log" = some (.ref (He.ga K "is_log"))) : Gn P w K mg base 2 f 2 (sp_is_sign K) :=
  gn_ok F sc_is_sign (fun _ _ _ _ _ _ us hl => match us, hl with | [_, _], _ => rfl) (fun vs H Q E h => len_is_sign h) (fun cdv A outer s H vs Q E hg hr h => ⟨t_is_sign K (fun cls d _ H => E cls d H), (pss_one (ps_ret (pe_and (g_call G_is_log hg (hr.mono (by decide)) (L2.takes_of rfl rfl rfl rfl) rfl m_is_log k_is_log (pa_cons (pv 0) (pa_cons (pv 1) pa_nil))) (pe_one (pe_cmpR (op_geq hr.units) (pe_callB call_len (by rfl) b_len PySem.boot_len (pa_cons (pv 0) pa_nil)) pe_int (nomark _)))))), pure_is_sign h⟩)
theorem ok_require_sign {f : Addr} {fd : FuncData} {fdi_NotALog : FuncData} (F : FunD K "require_sign" "require_sign" (defArgs s_require_sign) (defBody s_require_sign) (defScope s_require_sign) [] [] f fd)
    (B_NotALog : Binds K fdi_NotALog ["self", "value"] [])
    (G_is_sign : Gn P w K mg base 2 (He.ga K "is_sign") 2 (sp_is_sign K))
    (I_NotALog : FnOk P w K mg base CX0 1 (He.ma K (He.ga K "NotALog") "__init__") fdi_NotALog ["self", "value"] (spInit (He.ga K "NotALog") "value"))
    (T_NotALog : ExB "ValueError" "ValueError.__new__" [.type "ValueError", .type "Exception", .type "BaseException", .type "object"] K (He.ga K "NotALog") (He.ma K (He.ga K "NotALog") "__init__") "value")
    (k_is_sign : PySem.W.keepIn K (.ref (He.ga K "is_sign")) = true)
    (m_NotALog : mg "NotALog" = some (.ref (He.ga K "NotALog")))
    (m_is_sign : mg "is_sign" = some (.ref (He.ga K "is_sign"))) : Gn P w K mg base 3 f 2 (sp_require_sign K) :=
  gn_ok F sc_require_sign (fun _ _ _ _ _ _ us hl => match us, hl with | [_, _], _ => rfl) (fun vs H Q E h => len_require_sign h) (fun cdv A outer s H vs Q E hg hr h => ⟨t_require_sign K (fun cls d _ H => E cls d H), (pss_cons (ps_if (pt_not (pt_truth (g_call G_is_sign hg (hr.mono (by decide)) (L2.takes_of rfl rfl rfl rfl) rfl m_is_sign k_is_sign (pa_cons (pv 0) (pa_cons (pv 1) pa_nil))) (by intro _; rfl))) (pss_one (g_raiseB PySem.F.excBase_ValueError T_NotALog I_NotALog (hr.mono (by decide)) B_NotALog rfl (L2.takes_of rfl rfl rfl rfl) rfl m_NotALog (pa_cons (pv 0) pa_nil))) pss_nil)
  (pss_one (ps_ret (pv 0)))), pure_require_sign h⟩)
theorem ok_Machine_add_edge {f : Addr} {fd : FuncData} {fdi_EdgeExists : FuncData} {fdi_LimitExceeded : FuncData} (F : FunD K "add_edge" "Machine.add_edge" (defArgs s_Machine_add_edge) (defBody s_Machine_add_edge) (defScope s_Machine_add_edge) [] [] f fd)
    (MC : MCls K)
    (B_EdgeExists : Binds K fdi_EdgeExists ["self", "edge"] [])
    (B_LimitExceeded : Binds K fdi_LimitExceeded ["self", "limit"] [])
    (C_Machine : Cls K (He.ga K "Machine"))
    (G_Machine__require_state : Gn P w K mg base 3 (He.ma K (He.ga K "Machine") "_require_state") 2 (sp_Machine__require_state K))
    (G_require_sign : Gn P w K mg base 3 (He.ga K "require_sign") 2 (sp_require_sign K))
    (I_EdgeExists : FnOk P w K mg base CX0 1 (He.ma K (He.ga K "EdgeExists") "__init__") fdi_EdgeExists ["self", "edge"] (spInit (He.ga K "EdgeExists") "edge"))
    (I_LimitExceeded : FnOk P w K mg base CX0 1 (He.ma K (He.ga K "LimitExceeded") "__init__") fdi_LimitExceeded ["self", "limit"] (spInit (He.ga K "LimitExceeded") "limit"))
    (M_Machine__require_state : Meth K (He.ga K "Machine") "_require_state" (He.ma K (He.ga K "Machine") "_require_state"))
    (T_EdgeExists : ExB "RuntimeError" "RuntimeError.__new__" bmRE K (He.ga K "EdgeExists") (He.ma K (He.ga K "EdgeExists") "__init__") "edge")
    (T_LimitExceeded : ExB "OverflowError" "OverflowError.__new__" bmOE K (He.ga K "LimitExceeded") (He.ma K (He.ga K "LimitExceeded") "__init__") "limit")
    (b_len : mg "len" = none)
    (k_require_sign : PySem.W.keepIn K (.ref (He.ga K "require_sign")) = true)
    (m_EdgeExists : mg "EdgeExists" = some (.ref (He.ga K "EdgeExists")))
    (m_LimitExceeded : mg "LimitExceeded" = some (.ref (He.ga K "LimitExceeded")))
    (m_MOST_EDGES : ∃ t, mg "MOST_EDGES" = some (.int 14 t))
    (m_require_sign : mg "require_sign" = some (.ref (He.ga K "require_sign"))) : Gn P w K mg base 4 f 4 (sp_Machine_add_edge K) :=
  gn_ok F sc_Machine_add_edge (fun _ _ _ _ _ _ us hl => match us, hl with | [_, _, _, _], _ => rfl) (fun vs H Q E h => len_Machine_add_edge h) (fun cdv A outer s H vs Q E hg hr h => ⟨t_Machine_add_edge K (fun cls d _ H => E cls d H), (pss_cons (ps_expr (g_meth (pv 0) C_Machine M_Machine__require_state G_Machine__require_state hg (hr.mono (by decide)) (L2.takes_of rfl rfl rfl rfl) (pa_cons (pv 1) pa_nil)))
  (pss_cons (ps_expr (g_meth (pv 0) C_Machine M_Machine__require_state G_Machine__require_state hg (hr.mono (by decide)) (L2.takes_of rfl rfl rfl rfl) (pa_cons (pv 3) pa_nil)))
  (pss_cons (ps_expr (g_call G_require_sign hg (hr.mono (by decide)) (L2.takes_of rfl rfl rfl rfl) rfl m_require_sign k_require_sign (pa_cons (pv 2) (pa_cons (pe_fld (pv 0) rfl) pa_nil))))
  (pss_cons (ps_set (i := 4) sc_Machine_add_edge.nd rfl (by first | exact Or.inl rfl | exact Or.inr rfl) (pe_tup (pa_cons (pv 1) (pa_cons (pv 2) (pa_cons (pv 3) pa_nil)))))
  (pss_cons (ps_if (pt_cmp (pc_din (Nat.lt_trans (Nat.add_lt_add_left (show 1 < 64 by decide) _) hr.units) (pv 4) (pe_fld (pv 0) rfl))) (pss_one (g_raiseB PySem.F.excBase_RuntimeError T_EdgeExists I_EdgeExists (hr.mono (by decide)) B_EdgeExists rfl (L2.takes_of rfl rfl rfl rfl) rfl m_EdgeExists (pa_cons (pv 4) pa_nil))) pss_nil)
  (pss_cons (ps_if (pt_cmpR op_ge (pe_callB call_glenD (by rfl) b_len PySem.boot_len (pa_cons (pe_fld (pv 0) rfl) pa_nil)) (pe_glob rfl m_MOST_EDGES.choose_spec ⟨_, rfl⟩) (nomark _)) (pss_one (g_raiseB PySem.F.excBase_OverflowError T_LimitExceeded I_LimitExceeded (hr.mono (by decide)) B_LimitExceeded rfl (L2.takes_of rfl rfl rfl rfl) rfl m_LimitExceeded (pa_cons (pe_glob rfl m_MOST_EDGES.choose_spec ⟨_, rfl⟩) pa_nil))) pss_nil)
  (pss_one (ps_dput (Nat.lt_trans (Nat.add_lt_add_left (show 1 < 64 by decide) _) hr.units) (pe_fld (pv 0) rfl) (pv 4) pe_bl rfl)))))))), pure_Machine_add_edge MC h⟩)
theorem ok__law_added {f : Addr} {fd : FuncData} (F : FunD K "_law_added" "_law_added" (defArgs s__law_added) (defBody s__law_added) (defScope s__law_added) [] [] f fd)
    (MC : MCls K)
    (XC : XCls K)
    (C_Machine : Cls K (He.ga K "Machine"))
    (G_Machine_add_edge : Gn P w K mg base 4 (He.ma K (He.ga K "Machine") "add_edge") 4 (sp_Machine_add_edge K))
    (M_Machine_add_edge : Meth K (He.ga K "Machine") "add_edge" (He.ma K (He.ga K "Machine") "add_edge"))
    (T_LimitExceeded : ExB "OverflowError" "OverflowError.__new__" bmOE K (He.ga K "LimitExceeded") (He.ma K (He.ga K "LimitExceeded") "__init__") "limit")
    (m_EdgeExists : mg "EdgeExists" = some (.ref (He.ga K "EdgeExists")))
    (m_LimitExceeded : mg "LimitExceeded" = some (.ref (He.ga K "LimitExceeded")))
    (m_NotALog : mg "NotALog" = some (.ref (He.ga K "NotALog")))
    (m_UnknownState : mg "UnknownState" = some (.ref (He.ga K "UnknownState"))) : Gn P w K mg base 5 f 2 (sp__law_added K) :=
  gn_ok F sc__law_added (fun _ _ _ _ _ _ us hl => match us, hl with | [_, _], _ => rfl) (fun vs H Q E h => len__law_added h) (fun cdv A outer s H vs Q E hg hr h => ⟨t__law_added K (fun cls d _ H => E cls d H), (pss_cons (ps_set (i := 2) sc__law_added.nd rfl (by first | exact Or.inl rfl | exact Or.inr rfl) pe_str)
  (pss_cons (ps_mix (tb := (fun W1 => (tDrop (tGM (He.ga K "Machine") "add_edge" (sp_Machine_add_edge K) W1 (tVar 0) (tCons (tOp (rIx K) (tVar 1) (tC (.int 0))) (tCons (tOp (rIx K) (tVar 1) (tC (.int 1))) (tCons (tOp (rIx K) (tVar 1) (tC (.int 2))) tNil))))))) (l := [(.ref (He.ga K "LimitExceeded"), some 3, (fun a cls d => (tAsg (tXf a cls d (He.ga K "LimitExceeded") "limit" (tVar 3)) (gName 2)))), (.ref (He.ga K "EdgeExists"), none, (fun a cls d => (tAsg (tC (.str "exists")) (gName 2)))), (.ref (He.ga K "NotALog"), none, (fun a cls d => (tAsg (tC (.str "sign")) (gName 2)))), (.ref (He.ga K "UnknownState"), none, (fun a cls d => (tAsg (tC (.str "state")) (gName 2))))]) (Wout := (fun cls d _ H => E cls d H)) rfl rfl (L2.takes_of rfl rfl rfl rfl) (fun W1 pn xe tk1 pas1 => (pss_one (ps_expr (g_meth (pv 0) C_Machine M_Machine_add_edge G_Machine_add_edge hg (hr.mono (by decide)) tk1 (pa_cons (pe_ix ix_seq (pv 1) pe_int (fun _ _ => rfl)) (pa_cons (pe_ix ix_seq (pv 1) pe_int (fun _ _ => rfl)) (pa_cons (pe_ix ix_seq (pv 1) pe_int (fun _ _ => rfl)) pa_nil))))))) (.named (i := 3) sc__law_added.nd rfl rfl ⟨rfl, by decide, .inl m_LimitExceeded⟩ (fun a oe cls d pn hz hf => (pss_one (ps_set (i := 2) sc__law_added.nd rfl (by first | exact Or.inl rfl | exact Or.inr rfl) (pe_xf T_LimitExceeded.X T_LimitExceeded.no hz hf (pv 3))))) (.plain ⟨rfl, by decide, .inl m_EdgeExists⟩ (fun a oe cls d pn hz hf => (pss_one (ps_set (i := 2) sc__law_added.nd rfl (by first | exact Or.inl rfl | exact Or.inr rfl) pe_str))) (.plain ⟨rfl, by decide, .inl m_NotALog⟩ (fun a oe cls d pn hz hf => (pss_one (ps_set (i := 2) sc__law_added.nd rfl (by first | exact Or.inl rfl | exact Or.inr rfl) pe_str))) (.plain ⟨rfl, by decide, .inl m_UnknownState⟩ (fun a oe cls d pn hz hf => (pss_one (ps_set (i := 2) sc__law_added.nd rfl (by first | exact Or.inl rfl | exact Or.inr rfl) pe_str))) .nil)))))
  (pss_one (ps_ret (pv 2))))), pure__law_added MC XC h⟩)
theorem ok__law_made {f : Addr} {fd : FuncData} (F : FunD K "_law_made" "_law_made" (defArgs s__law_made) (defBody s__law_made) (defScope s__law_made) [] [] f fd)
    (MC : MCls K)
    (XC : XCls K)
    (G_Machine___init__ : Gn P w K mg base 3 (He.ma K (He.ga K "Machine") "__init__") 3 (sp_Machine___init__ K))
    (M_Machine : Mk K (He.ga K "Machine") (He.ma K (He.ga K "Machine") "__init__"))
    (T_LimitExceeded : ExB "OverflowError" "OverflowError.__new__" bmOE K (He.ga K "LimitExceeded") (He.ma K (He.ga K "LimitExceeded") "__init__") "limit")
    (m_LimitExceeded : mg "LimitExceeded" = some (.ref (He.ga K "LimitExceeded")))
    (m_Machine : mg "Machine" = some (.ref (He.ga K "Machine"))) : Gn P w K mg base 5 f 2 (sp__law_made K) :=
  gn_ok F sc__law_made (fun _ _ _ _ _ _ us hl => match us, hl with | [_, _], _ => rfl) (fun vs H Q E h => len__law_made h) (fun cdv A outer s H vs Q E hg hr h => ⟨t__law_made K (fun cls d _ H => E cls d H), (pss_cons (ps_set (i := 2) sc__law_made.nd rfl (by first | exact Or.inl rfl | exact Or.inr rfl) pe_non)
  (pss_cons (ps_mix (tb := (fun W1 => (tAsg (tGN (He.ga K "Machine") (sp_Machine___init__ K) W1 (tCons (tVar 0) (tCons (tVar 1) tNil))) (gName 2)))) (l := [(.ref (He.ga K "LimitExceeded"), some 3, (fun a cls d => (tRet (tXf a cls d (He.ga K "LimitExceeded") "limit" (tVar 3)))))]) (Wout := (fun cls d _ H => E cls d H)) rfl rfl (L2.takes_of rfl rfl rfl rfl) (fun W1 pn xe tk1 pas1 => (pss_one (ps_set (i := 2) sc__law_made.nd rfl (by first | exact Or.inl rfl | exact Or.inr rfl) (g_make M_Machine G_Machine___init__ hg (hr.mono (by decide)) tk1 rfl m_Machine (pa_cons (pv 0) (pa_cons (pv 1) pa_nil)))))) (.named (i := 3) sc__law_made.nd rfl rfl ⟨rfl, by decide, .inl m_LimitExceeded⟩ (fun a oe cls d pn hz hf => (pss_one (ps_ret (pe_xf T_LimitExceeded.X T_LimitExceeded.no hz hf (pv 3))))) .nil))
  (pss_one (ps_ret (pe_tup (pa_cons (pe_fld (pv 2) rfl) (pa_cons (pe_fld (pv 2) rfl) pa_nil))))))), pure__law_made MC XC h⟩)
theorem ok_law {f : Addr} {fd : FuncData} (F : FunD K "law" "law" (defArgs s_law) (defBody s_law) (defScope s_law) [] [] f fd)
    (MC : MCls K)
    (C_Machine : Cls K (He.ga K "Machine"))
    (G_Machine___init__ : Gn P w K mg base 3 (He.ma K (He.ga K "Machine") "__init__") 3 (sp_Machine___init__ K))
    (G_Machine_edges : Gn P w K mg base 1 (He.ma K (He.ga K "Machine") "edges") 1 (sp_Machine_edges K))
    (G_Machine_remove_edge : Gn P w K mg base 3 (He.ma K (He.ga K "Machine") "remove_edge") 4 (sp_Machine_remove_edge K))
    (G__law_added : Gn P w K mg base 5 (He.ga K "_law_added") 2 (sp__law_added K))
    (G__law_draw : Gn P w K mg base 2 (He.ga K "_law_draw") 2 (sp__law_draw K))
    (G__law_made : Gn P w K mg base 5 (He.ga K "_law_made") 2 (sp__law_made K))
    (G__law_pen : Gn P w K mg base 1 (He.ga K "_law_pen") 1 (sp__law_pen K))
    (M_Machine : Mk K (He.ga K "Machine") (He.ma K (He.ga K "Machine") "__init__"))
    (M_Machine_edges : Meth K (He.ga K "Machine") "edges" (He.ma K (He.ga K "Machine") "edges"))
    (M_Machine_remove_edge : Meth K (He.ga K "Machine") "remove_edge" (He.ma K (He.ga K "Machine") "remove_edge"))
    (b_bool : mg "bool" = none)
    (b_int : mg "int" = none)
    (b_isinstance : mg "isinstance" = none)
    (b_len : mg "len" = none)
    (b_range : mg "range" = none)
    (b_repr : mg "repr" = none)
    (b_sorted : mg "sorted" = none)
    (b_tuple : mg "tuple" = none)
    (k__law_added : PySem.W.keepIn K (.ref (He.ga K "_law_added")) = true)
    (k__law_draw : PySem.W.keepIn K (.ref (He.ga K "_law_draw")) = true)
    (k__law_made : PySem.W.keepIn K (.ref (He.ga K "_law_made")) = true)
    (k__law_pen : PySem.W.keepIn K (.ref (He.ga K "_law_pen")) = true)
    (m_Machine : mg "Machine" = some (.ref (He.ga K "Machine")))
    (m__law_added : mg "_law_added" = some (.ref (He.ga K "_law_added")))
    (m__law_draw : mg "_law_draw" = some (.ref (He.ga K "_law_draw")))
    (m__law_made : mg "_law_made" = some (.ref (He.ga K "_law_made")))
    (m__law_pen : mg "_law_pen" = some (.ref (He.ga K "_law_pen"))) : Gn P w K mg base 6 f 1 (spLaw K) :=
  gn_ok F sc_law (fun _ _ _ _ _ _ us hl => match us, hl with | [_], _ => rfl) (fun vs H Q E h => len_law h) (fun cdv A outer s H vs Q E hg hr h => ⟨t_law K (fun cls d _ H => E cls d H), (pss_cons (ps_set (i := 1) sc_law.nd rfl (by first | exact Or.inl rfl | exact Or.inr rfl) (g_call G__law_pen hg (hr.mono (by decide)) (L2.takes_of rfl rfl rfl rfl) rfl m__law_pen k__law_pen (pa_cons (pv 0) pa_nil)))
  (pss_cons (ps_set (i := 2) sc_law.nd rfl (by first | exact Or.inl rfl | exact Or.inr rfl) (pe_lst (pa_cons pe_int (pa_cons pe_int (pa_cons pe_int (pa_cons (pe_un un_neg pe_int) (pa_cons pe_bl (pa_cons pe_non (pa_cons pe_str (pa_cons (pe_tup pa_nil) (pa_cons (pe_op op_pow pe_int pe_int) pa_nil)))))))))))
  (pss_cons (ps_for (L2.passes_of rfl) rfl (pi_g (pe_op op_gadd (pe_lst (pa_cons pe_int (pa_cons pe_int (pa_cons pe_int pa_nil)))) (pv 2))) (pg_name (i := 3) sc_law.nd rfl (by first | exact Or.inl rfl | exact Or.inr rfl)) (pss_one (ps_for (L2.passes_of rfl) rfl (pi_g (pe_op op_gadd (pe_lst (pa_cons pe_int (pa_cons pe_int (pa_cons pe_int pa_nil)))) (pv 2))) (pg_name (i := 4) sc_law.nd rfl (by first | exact Or.inl rfl | exact Or.inr rfl)) (pss_cons (ps_set (i := 5) sc_law.nd rfl (by first | exact Or.inl rfl | exact Or.inr rfl) (pe_tup (pa_cons (pv 3) (pa_cons (pv 4) pa_nil))))
  (pss_cons (ps_if (PW.pt (pw_or (pt_not (pt_truth (pe_callB call_isi (by rfl) b_isinstance PyProof.Rows.boot_isinstance (pa_cons (pv 4) (pa_cons (pe_bltn (u := .type "int") (by rfl) b_int (by decide +kernel) rfl) pa_nil))) (by intro _; rfl))) (pw_or (pt_truth (pe_callB call_isi (by rfl) b_isinstance PyProof.Rows.boot_isinstance (pa_cons (pv 4) (pa_cons (pe_bltn (u := .type "bool") (by rfl) b_bool (by decide +kernel) rfl) pa_nil))) (by intro _; rfl)) (pw_or1 (pt_not (pt_chain op_le op_le pe_int (pv 4) pe_int)))))) (pss_one (ps_set (i := 5) sc_law.nd rfl (by first | exact Or.inl rfl | exact Or.inr rfl) pe_int)) pss_nil)
  (pss_cons (ps_if (PW.pt (pw_or (pt_not (pt_truth (pe_callB call_isi (by rfl) b_isinstance PyProof.Rows.boot_isinstance (pa_cons (pv 3) (pa_cons (pe_bltn (u := .type "int") (by rfl) b_int (by decide +kernel) rfl) pa_nil))) (by intro _; rfl))) (pw_or (pt_truth (pe_callB call_isi (by rfl) b_isinstance PyProof.Rows.boot_isinstance (pa_cons (pv 3) (pa_cons (pe_bltn (u := .type "bool") (by rfl) b_bool (by decide +kernel) rfl) pa_nil))) (by intro _; rfl)) (pw_or1 (pt_not (pt_chain op_le op_le pe_int (pv 3) pe_int)))))) (pss_one (ps_set (i := 5) sc_law.nd rfl (by first | exact Or.inl rfl | exact Or.inr rfl) pe_int)) pss_nil)
  (pss_one (ps_if (pt_cmpR (op_gne hr.units) (pe_callB (call_repr hg hr.units) (by rfl) b_repr (by decide +kernel) (pa_cons (g_call G__law_made hg (hr.mono (by decide)) (L2.takes_of rfl rfl rfl rfl) rfl m__law_made k__law_made (pa_cons (pv 3) (pa_cons (pv 4) pa_nil))) pa_nil)) (pe_callB (call_repr hg hr.units) (by rfl) b_repr (by decide +kernel) (pa_cons (pv 5) pa_nil)) (nomark _)) (pss_one (ps_ret pe_bl)) pss_nil))))))))
  (pss_cons (ps_asg (pe_tup (pa_cons (g_make M_Machine G_Machine___init__ hg (hr.mono (by decide)) (L2.takes_of rfl rfl rfl rfl) rfl m_Machine (pa_cons pe_int (pa_cons pe_int pa_nil))) (pa_cons (pe_lst pa_nil) pa_nil))) (pg_tup rfl (pgs_cons (pg_name (i := 6) sc_law.nd rfl (by first | exact Or.inl rfl | exact Or.inr rfl)) (pgs_cons (pg_name (i := 7) sc_law.nd rfl (by first | exact Or.inl rfl | exact Or.inr rfl)) pgs_nil))))
  (pss_cons (ps_setLc (i := 8) (own := [("at", 9)]) (g := (gName 9)) rfl sc_law.nd rfl rfl (sw_true rfl rfl rfl (by decide +kernel)) (pi_range1 rfl b_range (pa_cons pe_int pa_nil)) (blkOk_by (own := [("at", 9)]) (N := N_law) (sc := defScope s_law) (by decide +kernel)) (fun _ _ _ _ _ => (pg_name (i := 9) sc_law.nd rfl (by first | exact Or.inl rfl | exact Or.inr rfl))) (fun _ _ _ _ _ => pts_nil) (fun _ _ _ _ _ => (pe_tup (pa_cons (pe_op op_fdiv (pv 9) pe_int) (pa_cons (pe_ix ix_seq pe_str (pe_op op_mod (pv 9) pe_int) (fun _ _ => rfl)) (pa_cons (pe_op op_mod (pe_op op_fdiv (pv 9) pe_int) pe_int) pa_nil))))))
  (pss_cons (ps_for (L2.passes_of rfl) rfl (pi_range1 rfl b_range (pa_cons pe_int pa_nil)) (pg_name (i := 10) sc_law.nd rfl (by first | exact Or.inl rfl | exact Or.inr rfl)) (pss_cons (ps_for (L2.passes_of rfl) rfl (pi_range1 rfl b_range (pa_cons (pe_op op_sub pe_int (pe_callB call_len (by rfl) b_len PySem.boot_len (pa_cons (pv 7) pa_nil))) pa_nil)) (pg_name (i := 11) sc_law.nd rfl (by first | exact Or.inl rfl | exact Or.inr rfl)) (pss_cons (ps_setLc (i := 12) (own := [("edge", 13)]) (g := (gName 13)) rfl sc_law.nd rfl rfl (sw_true rfl rfl rfl (by decide +kernel)) (pi_g (pv 8)) (blkOk_by (own := [("edge", 13)]) (N := N_law) (sc := defScope s_law) (by decide +kernel)) (fun _ _ _ _ _ => (pg_name (i := 13) sc_law.nd rfl (by first | exact Or.inl rfl | exact Or.inr rfl))) (fun _ _ _ _ _ => (pts_one (pt_cmpR (op_gnotin hr.units) (pv 13) (pv 7) rfl))) (fun _ _ _ _ _ => (pv 13)))
  (pss_cons (ps_set (i := 13) sc_law.nd rfl (by first | exact Or.inl rfl | exact Or.inr rfl) (pe_ix ix_seq (pv 12) (g_call G__law_draw hg (hr.mono (by decide)) (L2.takes_of rfl rfl rfl rfl) rfl m__law_draw k__law_draw (pa_cons (pv 1) (pa_cons (pe_callB call_len (by rfl) b_len PySem.boot_len (pa_cons (pv 12) pa_nil)) pa_nil))) (fun _ _ => rfl)))
  (pss_cons (ps_if (PW.pt (pw_or (pt_cmpR (op_gne hr.units) (g_call G__law_added hg (hr.mono (by decide)) (L2.takes_of rfl rfl rfl rfl) rfl m__law_added k__law_added (pa_cons (pv 6) (pa_cons (pv 13) pa_nil))) pe_str (nomark _)) (pw_or1 (pt_cmpR (op_gne hr.units) (g_call G__law_added hg (hr.mono (by decide)) (L2.takes_of rfl rfl rfl rfl) rfl m__law_added k__law_added (pa_cons (pv 6) (pa_cons (pv 13) pa_nil))) pe_str (nomark _))))) (pss_one (ps_ret pe_bl)) pss_nil)
  (pss_one (ps_expr (pe_bm PySem.F.plainAttrs_list PySem.F.slot_list_append PySem.F.type_list_append mt_append (pv 7) (pa_cons (pv 13) pa_nil))))))))
  (pss_cons (ps_setLc (i := 12) (own := [("edge", 13)]) (g := (gName 13)) rfl sc_law.nd rfl rfl (sw_true rfl rfl rfl (by decide +kernel)) (pi_g (pv 8)) (blkOk_by (own := [("edge", 13)]) (N := N_law) (sc := defScope s_law) (by decide +kernel)) (fun _ _ _ _ _ => (pg_name (i := 13) sc_law.nd rfl (by first | exact Or.inl rfl | exact Or.inr rfl))) (fun _ _ _ _ _ => (pts_one (pt_cmpR (op_gnotin hr.units) (pv 13) (pv 7) rfl))) (fun _ _ _ _ _ => (pv 13)))
  (pss_cons (ps_if (PW.pt (pw_or (pt_cmpR (op_gne hr.units) (g_call G__law_added hg (hr.mono (by decide)) (L2.takes_of rfl rfl rfl rfl) rfl m__law_added k__law_added (pa_cons (pv 6) (pa_cons (pe_ix ix_seq (pv 12) pe_int (fun _ _ => rfl)) pa_nil))) pe_int (nomark _)) (pw_or1 (pt_cmpR (op_gne hr.units) (g_call G__law_added hg (hr.mono (by decide)) (L2.takes_of rfl rfl rfl rfl) rfl m__law_added k__law_added (pa_cons (pv 6) (pa_cons (pe_ix ix_seq (pv 7) pe_int (fun _ _ => rfl)) pa_nil))) pe_str (nomark _))))) (pss_one (ps_ret pe_bl)) pss_nil)
  (pss_cons (ps_if (PW.pt (pw_or (pt_cmpR (op_gne hr.units) (g_call G__law_added hg (hr.mono (by decide)) (L2.takes_of rfl rfl rfl rfl) rfl m__law_added k__law_added (pa_cons (pv 6) (pa_cons (pe_tup (pa_cons pe_int (pa_cons pe_str (pa_cons pe_int pa_nil)))) pa_nil))) pe_str (nomark _)) (pw_or1 (pt_cmpR (op_gne hr.units) (g_call G__law_added hg (hr.mono (by decide)) (L2.takes_of rfl rfl rfl rfl) rfl m__law_added k__law_added (pa_cons (pv 6) (pa_cons (pe_tup (pa_cons pe_int (pa_cons pe_str (pa_cons pe_int pa_nil)))) pa_nil))) pe_str (nomark _))))) (pss_one (ps_ret pe_bl)) pss_nil)
  (pss_one (ps_for (L2.passes_of rfl) rfl (pi_range1 rfl b_range (pa_cons (pe_op op_gadd pe_int (g_call G__law_draw hg (hr.mono (by decide)) (L2.takes_of rfl rfl rfl rfl) rfl m__law_draw k__law_draw (pa_cons (pv 1) (pa_cons pe_int pa_nil)))) pa_nil)) (pg_name (i := 11) sc_law.nd rfl (by first | exact Or.inl rfl | exact Or.inr rfl)) (pss_cons (ps_set (i := 14) sc_law.nd rfl (by first | exact Or.inl rfl | exact Or.inr rfl) (pe_bm PySem.F.plainAttrs_list PySem.F.slot_list_pop PySem.F.type_list_pop mt_popAt (pv 7) (pa_cons (g_call G__law_draw hg (hr.mono (by decide)) (L2.takes_of rfl rfl rfl rfl) rfl m__law_draw k__law_draw (pa_cons (pv 1) (pa_cons (pe_callB call_len (by rfl) b_len PySem.boot_len (pa_cons (pv 7) pa_nil)) pa_nil))) pa_nil)))
  (pss_one (ps_expr (g_meth (pv 6) C_Machine M_Machine_remove_edge G_Machine_remove_edge hg (hr.mono (by decide)) (L2.takes_of rfl rfl rfl rfl) (pa_cons (pe_ix ix_seq (pv 14) pe_int (fun _ _ => rfl)) (pa_cons (pe_ix ix_seq (pv 14) pe_int (fun _ _ => rfl)) (pa_cons (pe_ix ix_seq (pv 14) pe_int (fun _ _ => rfl)) pa_nil))))))))))))))
  (pss_one (ps_ret (pe_cmpR (op_geq hr.units) (g_meth0 (pv 6) C_Machine M_Machine_edges G_Machine_edges hg (hr.mono (by decide)) (L2.takes_of rfl rfl rfl rfl)) (pe_callTy call_gtuple (by rfl) b_tuple (by decide +kernel) (pa_cons (pe_callB (call_gsorted hr.units) (by rfl) b_sorted (by decide +kernel) (pa_cons (pv 7) pa_nil)) pa_nil)) (nomark _)))))))))), pure_law MC h⟩)
end
def d__law_pen : He.DefD := ⟨("_law_pen", none), "_law_pen", "_law_pen", defArgs s__law_pen, defBody s__law_pen, defScope s__law_pen, [], []⟩
def d_is_between : He.DefD := ⟨("is_between", none), "is_between", "is_between", defArgs s_is_between, defBody s_is_between, defScope s_is_between, [], []⟩
def d_Machine___init__ : He.DefD := ⟨("Machine", some "__init__"), "__init__", "Machine.__init__", defArgs s_Machine___init__, defBody s_Machine___init__, defScope s_Machine___init__, [], []⟩
def d_Machine_edges : He.DefD := ⟨("Machine", some "edges"), "edges", "Machine.edges", defArgs s_Machine_edges, defBody s_Machine_edges, defScope s_Machine_edges, [], []⟩
def d_Machine_remove_edge : He.DefD := ⟨("Machine", some "remove_edge"), "remove_edge", "Machine.remove_edge", defArgs s_Machine_remove_edge, defBody s_Machine_remove_edge, defScope s_Machine_remove_edge, [], []⟩
def d__law_fresh : He.DefD := ⟨("_law_fresh", none), "_law_fresh", "_law_fresh", defArgs s__law_fresh, defBody s__law_fresh, defScope s__law_fresh, [], []⟩
def d__law_draw : He.DefD := ⟨("_law_draw", none), "_law_draw", "_law_draw", defArgs s__law_draw, defBody s__law_draw, defScope s__law_draw, [], []⟩
def d_Machine__require_state : He.DefD := ⟨("Machine", some "_require_state"), "_require_state", "Machine._require_state", defArgs s_Machine__require_state, defBody s_Machine__require_state, defScope s_Machine__require_state, [], []⟩
def d_is_log : He.DefD := ⟨("is_log", none), "is_log", "is_log", defArgs s_is_log, defBody s_is_log, defScope s_is_log, [], []⟩
def d_is_sign : He.DefD := ⟨("is_sign", none), "is_sign", "is_sign", defArgs s_is_sign, defBody s_is_sign, defScope s_is_sign, [], []⟩
def d_require_sign : He.DefD := ⟨("require_sign", none), "require_sign", "require_sign", defArgs s_require_sign, defBody s_require_sign, defScope s_require_sign, [], []⟩
def d_Machine_add_edge : He.DefD := ⟨("Machine", some "add_edge"), "add_edge", "Machine.add_edge", defArgs s_Machine_add_edge, defBody s_Machine_add_edge, defScope s_Machine_add_edge, [], []⟩
def d__law_added : He.DefD := ⟨("_law_added", none), "_law_added", "_law_added", defArgs s__law_added, defBody s__law_added, defScope s__law_added, [], []⟩
def d__law_made : He.DefD := ⟨("_law_made", none), "_law_made", "_law_made", defArgs s__law_made, defBody s__law_made, defScope s__law_made, [], []⟩
def d_law : He.DefD := ⟨("law", none), "law", "law", defArgs s_law, defBody s_law, defScope s_law, [], []⟩
def d_EdgeExists___init__ : He.DefD := ⟨("EdgeExists", some "__init__"), "__init__", "EdgeExists.__init__", defArgs s_EdgeExists___init__, defBody s_EdgeExists___init__, defScope s_EdgeExists___init__, [], []⟩
def d_LimitExceeded___init__ : He.DefD := ⟨("LimitExceeded", some "__init__"), "__init__", "LimitExceeded.__init__", defArgs s_LimitExceeded___init__, defBody s_LimitExceeded___init__, defScope s_LimitExceeded___init__, [], []⟩
def d_NotALog___init__ : He.DefD := ⟨("NotALog", some "__init__"), "__init__", "NotALog.__init__", defArgs s_NotALog___init__, defBody s_NotALog___init__, defScope s_NotALog___init__, [], []⟩
def d_UnknownEdge___init__ : He.DefD := ⟨("UnknownEdge", some "__init__"), "__init__", "UnknownEdge.__init__", defArgs s_UnknownEdge___init__, defBody s_UnknownEdge___init__, defScope s_UnknownEdge___init__, [], []⟩
def d_UnknownState___init__ : He.DefD := ⟨("UnknownState", some "__init__"), "__init__", "UnknownState.__init__", defArgs s_UnknownState___init__, defBody s_UnknownState___init__, defScope s_UnknownState___init__, [], []⟩
def fn : List He.DefD := [d__law_pen, d_is_between, d_Machine___init__, d_Machine_edges, d_Machine_remove_edge, d__law_fresh, d__law_draw, d_Machine__require_state, d_is_log, d_is_sign, d_require_sign, d_Machine_add_edge, d__law_added, d__law_made, d_law, d_EdgeExists___init__, d_LimitExceeded___init__, d_NotALog___init__, d_UnknownEdge___init__, d_UnknownState___init__]
def ex (K : PySem.W.Frag) : Bool := exB "RuntimeError.__new__" bmRE "EdgeExists" "edge" K && exB "OverflowError.__new__" bmOE "LimitExceeded" "limit" K && exB "ValueError.__new__" [.type "ValueError", .type "Exception", .type "BaseException", .type "object"] "NotALog" "value" K && exB "LookupError.__new__" bmLE "UnknownEdge" "edge" K && exB "LookupError.__new__" bmLE "UnknownState" "state" K
def fa : List He.Fa := [.free "list", .free "bool", .free "int", .free "isinstance", .glo "LimitExceeded", .int "MOST_SIGNS" 3, .int "MOST_STATES" 6, .glo "is_between", .free "sorted", .free "tuple", .glo "UnknownEdge", .free "len", .free "range", .glo "_law_fresh", .glo "UnknownState", .free "all", .free "str", .str "SIGNS" "abc", .glo "is_log", .glo "NotALog", .glo "is_sign", .cls "Machine", .meth "Machine" "_require_state", .glo "EdgeExists", .int "MOST_EDGES" 14, .glo "require_sign", .meth "Machine" "add_edge", .mkr "Machine", .glo "Machine", .meth "Machine" "edges", .meth "Machine" "remove_edge", .free "repr", .glo "_law_added", .glo "_law_draw", .glo "_law_made", .glo "_law_pen", .glo "law", .noat "Machine" "signs", .noat "Machine" "states", .noat "Machine" "_edges", .noat "Machine" "_starts", .noat "Machine" "_ends", .exm "EdgeExists" "LimitExceeded" false, .exm "NotALog" "LimitExceeded" false, .exm "NotALog" "EdgeExists" false, .exm "UnknownState" "LimitExceeded" false, .exm "UnknownState" "EdgeExists" false, .exm "UnknownState" "NotALog" false]
abbrev R : PySem.W.OpenRow := PySem.W.OpenLaw.row PySem.Challenge.rw_gaprules_k08_limits_of_machines
abbrev hk : PySem.W.Hook := hookX 4 fa fn ex
def ob (s : PySem.W.SharedT) : He.AlD × Bool := obsX 4 fa fn ex (HandSHeadRun.getT s)
theorem ob_eq (s : PySem.W.SharedT) : ob s = hk.obs s.abs := obsX_eq (HandSHeadRun.getT_eq s)
def loose : List Str := ["_wall", "NotALog", "UnknownState", "UnknownEdge", "EdgeExists", "LimitExceeded", "SIGNS", "is_log", "require_sign", "is_sign", "is_between", "MOST_SIGNS", "MOST_STATES", "MOST_EDGES", "Machine", "_law_pen", "_law_fresh", "_law_draw", "_law_made", "_law_added"]
theorem run (w : World) : HandSHeadRun.RunEq R (PySem.W.view R.prog [25]) hk ob 3000 loose w := by
  intro os
  kernel_rfl
theorem facts {P : Program} {w : World} {K : PySem.W.Frag} {h : Heap} {mg : Str → Option Value} {f : Addr} (X : K.In h) (G : h.Ns mainGlobals mg) (hfa : mg ("law" : Str) = some (.ref f)) (c : He.SaysD fa fn K) (hx : ex K = true) :
    ∀ base : Heap, K.In base → base.Ns mainGlobals mg → Gn P w K mg base 6 f 1 (spLaw K) := by
  obtain ⟨fd__law_pen, F__law_pen⟩ := c.def_ 0 (d := d__law_pen) rfl
  obtain ⟨fd_is_between, F_is_between⟩ := c.def_ 1 (d := d_is_between) rfl
  obtain ⟨fd_Machine___init__, F_Machine___init__⟩ := c.def_ 2 (d := d_Machine___init__) rfl
  obtain ⟨fd_Machine_edges, F_Machine_edges⟩ := c.def_ 3 (d := d_Machine_edges) rfl
  obtain ⟨fd_Machine_remove_edge, F_Machine_remove_edge⟩ := c.def_ 4 (d := d_Machine_remove_edge) rfl
  obtain ⟨fd__law_fresh, F__law_fresh⟩ := c.def_ 5 (d := d__law_fresh) rfl
  obtain ⟨fd__law_draw, F__law_draw⟩ := c.def_ 6 (d := d__law_draw) rfl
  obtain ⟨fd_Machine__require_state, F_Machine__require_state⟩ := c.def_ 7 (d := d_Machine__require_state) rfl
  obtain ⟨fd_is_log, F_is_log⟩ := c.def_ 8 (d := d_is_log) rfl
  obtain ⟨fd_is_sign, F_is_sign⟩ := c.def_ 9 (d := d_is_sign) rfl
  obtain ⟨fd_require_sign, F_require_sign⟩ := c.def_ 10 (d := d_require_sign) rfl
  obtain ⟨fd_Machine_add_edge, F_Machine_add_edge⟩ := c.def_ 11 (d := d_Machine_add_edge) rfl
  obtain ⟨fd__law_added, F__law_added⟩ := c.def_ 12 (d := d__law_added) rfl
  obtain ⟨fd__law_made, F__law_made⟩ := c.def_ 13 (d := d__law_made) rfl
  obtain ⟨fd_law, F_law⟩ := c.def_ 14 (d := d_law) rfl
  obtain ⟨fdi_EdgeExists, Fi_EdgeExists⟩ := c.def_ 15 (d := d_EdgeExists___init__) rfl
  obtain ⟨fdi_LimitExceeded, Fi_LimitExceeded⟩ := c.def_ 16 (d := d_LimitExceeded___init__) rfl
  obtain ⟨fdi_NotALog, Fi_NotALog⟩ := c.def_ 17 (d := d_NotALog___init__) rfl
  obtain ⟨fdi_UnknownEdge, Fi_UnknownEdge⟩ := c.def_ 18 (d := d_UnknownEdge___init__) rfl
  obtain ⟨fdi_UnknownState, Fi_UnknownState⟩ := c.def_ 19 (d := d_UnknownState___init__) rfl
  unfold ex at hx
  simp only [Bool.and_eq_true] at hx
  have T_EdgeExists : ExB "RuntimeError" "RuntimeError.__new__" bmRE K (He.ga K "EdgeExists") (He.ma K (He.ga K "EdgeExists") "__init__") "edge" := exB_ok hx.1.1.1.1
  have T_LimitExceeded : ExB "OverflowError" "OverflowError.__new__" bmOE K (He.ga K "LimitExceeded") (He.ma K (He.ga K "LimitExceeded") "__init__") "limit" := exB_ok hx.1.1.1.2
  have T_NotALog : ExB "ValueError" "ValueError.__new__" [.type "ValueError", .type "Exception", .type "BaseException", .type "object"] K (He.ga K "NotALog") (He.ma K (He.ga K "NotALog") "__init__") "value" := exB_ok hx.1.1.2
  have T_UnknownEdge : ExB "LookupError" "LookupError.__new__" bmLE K (He.ga K "UnknownEdge") (He.ma K (He.ga K "UnknownEdge") "__init__") "edge" := exB_ok hx.1.2
  have T_UnknownState : ExB "LookupError" "LookupError.__new__" bmLE K (He.ga K "UnknownState") (He.ma K (He.ga K "UnknownState") "__init__") "state" := exB_ok hx.2
  have e := hfa.symm.trans (He.glo_ok X G (c.fact 36 (f := .glo "law") rfl))
  cases e
  intro base _ _
  have MC : MCls K := ⟨He.cls_ok (c.fact 21 (f := .cls "Machine") rfl), He.noat_ok (c.fact 37 (f := .noat "Machine" "signs") rfl), He.noat_ok (c.fact 38 (f := .noat "Machine" "states") rfl), He.noat_ok (c.fact 39 (f := .noat "Machine" "_edges") rfl), He.noat_ok (c.fact 40 (f := .noat "Machine" "_starts") rfl), He.noat_ok (c.fact 41 (f := .noat "Machine" "_ends") rfl)⟩
  have XC : XCls K := ⟨T_LimitExceeded.te, T_EdgeExists.te, T_NotALog.te, T_UnknownState.te, He.exm_ok (c.fact 42 (f := .exm "EdgeExists" "LimitExceeded" false) rfl), He.exm_ok (c.fact 43 (f := .exm "NotALog" "LimitExceeded" false) rfl), He.exm_ok (c.fact 44 (f := .exm "NotALog" "EdgeExists" false) rfl), He.exm_ok (c.fact 45 (f := .exm "UnknownState" "LimitExceeded" false) rfl), He.exm_ok (c.fact 46 (f := .exm "UnknownState" "EdgeExists" false) rfl), He.exm_ok (c.fact 47 (f := .exm "UnknownState" "NotALog" false) rfl)⟩
  have G__law_pen : Gn P w K mg base 1 (He.ga K "_law_pen") 1 (sp__law_pen K) := ok__law_pen F__law_pen (He.free_ok X G (c.fact 0 (f := .free "list") rfl))
  have G_is_between : Gn P w K mg base 1 (He.ga K "is_between") 3 (sp_is_between K) := ok_is_between F_is_between (He.free_ok X G (c.fact 1 (f := .free "bool") rfl)) (He.free_ok X G (c.fact 2 (f := .free "int") rfl)) (He.free_ok X G (c.fact 3 (f := .free "isinstance") rfl))
  have G_Machine___init__ : Gn P w K mg base 3 (He.ma K (He.ga K "Machine") "__init__") 3 (sp_Machine___init__ K) := ok_Machine___init__ F_Machine___init__ MC (Fi_LimitExceeded.bindsN fun _ _ _ _ _ _ us hl => match us, hl with | [_, _], _ => rfl) G_is_between (oki_LimitExceeded Fi_LimitExceeded T_LimitExceeded) T_LimitExceeded F_is_between.kp (He.glo_ok X G (c.fact 4 (f := .glo "LimitExceeded") rfl)) (He.int_ok X G (c.fact 5 (f := .int "MOST_SIGNS" 3) rfl)) (He.int_ok X G (c.fact 6 (f := .int "MOST_STATES" 6) rfl)) (He.glo_ok X G (c.fact 7 (f := .glo "is_between") rfl))
  have G_Machine_edges : Gn P w K mg base 1 (He.ma K (He.ga K "Machine") "edges") 1 (sp_Machine_edges K) := ok_Machine_edges F_Machine_edges MC (He.free_ok X G (c.fact 8 (f := .free "sorted") rfl)) (He.free_ok X G (c.fact 9 (f := .free "tuple") rfl))
  have G_Machine_remove_edge : Gn P w K mg base 3 (He.ma K (He.ga K "Machine") "remove_edge") 4 (sp_Machine_remove_edge K) := ok_Machine_remove_edge F_Machine_remove_edge MC (Fi_UnknownEdge.bindsN fun _ _ _ _ _ _ us hl => match us, hl with | [_, _], _ => rfl) (oki_UnknownEdge Fi_UnknownEdge T_UnknownEdge) T_UnknownEdge (He.glo_ok X G (c.fact 10 (f := .glo "UnknownEdge") rfl))
  have G__law_fresh : Gn P w K mg base 1 (He.ga K "_law_fresh") 1 (sp__law_fresh K) := ok__law_fresh F__law_fresh (He.free_ok X G (c.fact 11 (f := .free "len") rfl)) (He.free_ok X G (c.fact 12 (f := .free "range") rfl))
  have G__law_draw : Gn P w K mg base 2 (He.ga K "_law_draw") 2 (sp__law_draw K) := ok__law_draw F__law_draw G__law_fresh F__law_fresh.kp (He.glo_ok X G (c.fact 13 (f := .glo "_law_fresh") rfl))
  have G_Machine__require_state : Gn P w K mg base 3 (He.ma K (He.ga K "Machine") "_require_state") 2 (sp_Machine__require_state K) := ok_Machine__require_state F_Machine__require_state MC (Fi_UnknownState.bindsN fun _ _ _ _ _ _ us hl => match us, hl with | [_, _], _ => rfl) G_is_between (oki_UnknownState Fi_UnknownState T_UnknownState) T_UnknownState F_is_between.kp (He.glo_ok X G (c.fact 14 (f := .glo "UnknownState") rfl)) (He.glo_ok X G (c.fact 7 (f := .glo "is_between") rfl))
  have G_is_log : Gn P w K mg base 1 (He.ga K "is_log") 2 (sp_is_log K) := ok_is_log F_is_log (He.free_ok X G (c.fact 15 (f := .free "all") rfl)) (He.free_ok X G (c.fact 3 (f := .free "isinstance") rfl)) (He.free_ok X G (c.fact 16 (f := .free "str") rfl)) (He.str_ok X G (c.fact 17 (f := .str "SIGNS" "abc") rfl))
  have G_is_sign : Gn P w K mg base 2 (He.ga K "is_sign") 2 (sp_is_sign K) := ok_is_sign F_is_sign G_is_log (He.free_ok X G (c.fact 11 (f := .free "len") rfl)) F_is_log.kp (He.glo_ok X G (c.fact 18 (f := .glo "is_log") rfl))
  have G_require_sign : Gn P w K mg base 3 (He.ga K "require_sign") 2 (sp_require_sign K) := ok_require_sign F_require_sign (Fi_NotALog.bindsN fun _ _ _ _ _ _ us hl => match us, hl with | [_, _], _ => rfl) G_is_sign (oki_NotALog Fi_NotALog T_NotALog) T_NotALog F_is_sign.kp (He.glo_ok X G (c.fact 19 (f := .glo "NotALog") rfl)) (He.glo_ok X G (c.fact 20 (f := .glo "is_sign") rfl))
  have G_Machine_add_edge : Gn P w K mg base 4 (He.ma K (He.ga K "Machine") "add_edge") 4 (sp_Machine_add_edge K) := ok_Machine_add_edge F_Machine_add_edge MC (Fi_EdgeExists.bindsN fun _ _ _ _ _ _ us hl => match us, hl with | [_, _], _ => rfl) (Fi_LimitExceeded.bindsN fun _ _ _ _ _ _ us hl => match us, hl with | [_, _], _ => rfl) (He.cls_ok (c.fact 21 (f := .cls "Machine") rfl)) G_Machine__require_state G_require_sign (oki_EdgeExists Fi_EdgeExists T_EdgeExists) (oki_LimitExceeded Fi_LimitExceeded T_LimitExceeded) (He.meth_ok (c.fact 22 (f := .meth "Machine" "_require_state") rfl)) T_EdgeExists T_LimitExceeded (He.free_ok X G (c.fact 11 (f := .free "len") rfl)) F_require_sign.kp (He.glo_ok X G (c.fact 23 (f := .glo "EdgeExists") rfl)) (He.glo_ok X G (c.fact 4 (f := .glo "LimitExceeded") rfl)) (He.int_ok X G (c.fact 24 (f := .int "MOST_EDGES" 14) rfl)) (He.glo_ok X G (c.fact 25 (f := .glo "require_sign") rfl))
  have G__law_added : Gn P w K mg base 5 (He.ga K "_law_added") 2 (sp__law_added K) := ok__law_added F__law_added MC XC (He.cls_ok (c.fact 21 (f := .cls "Machine") rfl)) G_Machine_add_edge (He.meth_ok (c.fact 26 (f := .meth "Machine" "add_edge") rfl)) T_LimitExceeded (He.glo_ok X G (c.fact 23 (f := .glo "EdgeExists") rfl)) (He.glo_ok X G (c.fact 4 (f := .glo "LimitExceeded") rfl)) (He.glo_ok X G (c.fact 19 (f := .glo "NotALog") rfl)) (He.glo_ok X G (c.fact 14 (f := .glo "UnknownState") rfl))
  have G__law_made : Gn P w K mg base 5 (He.ga K "_law_made") 2 (sp__law_made K) := ok__law_made F__law_made MC XC G_Machine___init__ (He.mkr_ok (c.fact 27 (f := .mkr "Machine") rfl)) T_LimitExceeded (He.glo_ok X G (c.fact 4 (f := .glo "LimitExceeded") rfl)) (He.glo_ok X G (c.fact 28 (f := .glo "Machine") rfl))
  have G_law : Gn P w K mg base 6 (He.ga K "law") 1 (spLaw K) := ok_law F_law MC (He.cls_ok (c.fact 21 (f := .cls "Machine") rfl)) G_Machine___init__ G_Machine_edges G_Machine_remove_edge G__law_added G__law_draw G__law_made G__law_pen (He.mkr_ok (c.fact 27 (f := .mkr "Machine") rfl)) (He.meth_ok (c.fact 29 (f := .meth "Machine" "edges") rfl)) (He.meth_ok (c.fact 30 (f := .meth "Machine" "remove_edge") rfl)) (He.free_ok X G (c.fact 1 (f := .free "bool") rfl)) (He.free_ok X G (c.fact 2 (f := .free "int") rfl)) (He.free_ok X G (c.fact 3 (f := .free "isinstance") rfl)) (He.free_ok X G (c.fact 11 (f := .free "len") rfl)) (He.free_ok X G (c.fact 12 (f := .free "range") rfl)) (He.free_ok X G (c.fact 31 (f := .free "repr") rfl)) (He.free_ok X G (c.fact 8 (f := .free "sorted") rfl)) (He.free_ok X G (c.fact 9 (f := .free "tuple") rfl)) F__law_added.kp F__law_draw.kp F__law_made.kp F__law_pen.kp (He.glo_ok X G (c.fact 28 (f := .glo "Machine") rfl)) (He.glo_ok X G (c.fact 32 (f := .glo "_law_added") rfl)) (He.glo_ok X G (c.fact 33 (f := .glo "_law_draw") rfl)) (He.glo_ok X G (c.fact 34 (f := .glo "_law_made") rfl)) (He.glo_ok X G (c.fact 35 (f := .glo "_law_pen") rfl))
  exact G_law
end D08
open PySem PySem.W PySem.Calls PyProof.Rows
theorem PySem.Challenge.cw_gaprules_k08_limits_of_machines_holds : PySem.Challenge.rw_gaprules_k08_limits_of_machines.Holds := by
  w_on; o_law
  refine HandSHeadRun.head_any (r := OpenLaw.row PySem.Challenge.rw_gaprules_k08_limits_of_machines) (q := view (OpenLaw.row PySem.Challenge.rw_gaprules_k08_limits_of_machines).prog [25]) (H := D08.hk) (ob := D08.ob) (M := 3000) (loose := D08.loose) (d := HandSHeadRun.topDef (OpenLaw.row PySem.Challenge.rw_gaprules_k08_limits_of_machines).prog 25) (kwd := []) D08.ob_eq
    (by kernel_rfl) (fun s => by kernel_rfl) D08.run (by kernel_rfl) (by kernel_rfl) (by kernel_rfl) (by rfl) (by first | assumption | decide +kernel) (by decide +kernel) ⟨rfl, rfl, rfl, rfl, rfl, by decide +kernel⟩ ?hw ?hc
  case hw => w_witness2
  case hc =>
    refine GL.g_walk (l := PySem.Challenge.rw_gaprules_k08_limits_of_machines) (n := 63) (k := 6) rfl (by decide) (by kernel_rfl) ⟨rfl, by decide, by decide⟩ ?_
    intro w mg fa h Y G hmg0
    obtain ⟨K, KX, c, hx⟩ := Y
    have hmg : mg ("law" : PySem.Str) = some (.ref fa) := by
      have e : (HandSHeadRun.topDef (OpenLaw.row PySem.Challenge.rw_gaprules_k08_limits_of_machines).prog 25).name = ("law" : PySem.Str) := by kernel_rfl
      rw [← e]
      exact hmg0
    exact ⟨K, GL.spLaw K, KX, fun H a ns hl _ hS => ⟨a, ns, rfl, hS, hl, fun _ => rfl⟩, D08.facts (P := (PySem.Challenge.rw_gaprules_k08_limits_of_machines).prog) (w := w) KX G hmg c hx⟩

