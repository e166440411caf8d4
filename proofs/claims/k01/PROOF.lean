import PyProof.Rows.All
import Wide.All
import OpenK.AllK
import Wide.FinOn
import HandS.ForMost
import HandS.ForExc
import HandS.Head0
import HandS.Head1
import HandS.Head2
import HandS.HeadEnd
import HandS.HeadHook1
import HandS.HeadHook2
import HandS.ExcInit
import KE.Datum
import HandS.StrMore
import HandS.Codes
import KE.GoesNew
import KE.GoesMore
import HandS.IsInst
import HandS.Style
import HandS.ExcField
import HandS.Defaults
import PySem.Challenge.RW_gaprules_k01_logs_required
set_option Elab.async false
set_option linter.all false
set_option maxRecDepth 100000
set_option maxHeartbeats 4000000
/-! G1: a def's promise where no repr is under way (guards), positional calls; everything may let exceptions out. -/
namespace GL
open PySem PySem.Spec L2
open PyProof.Rows hiding St

/-- no container is being shown around here -/
abbrev NoG (A : Around) : Prop := A.guards = some []

/-- the def at f keeps sp at level k, called with positional values -/
structure Gn (P : Program) (w : World) (K : PySem.W.Frag) (mg : Str → Option Value) (base : Heap) (k : Nat) (f : Addr) (n : Nat) (sp : Sp) : Prop where
  len : ∀ vs H Q E, sp vs H Q E → vs.length = n
  run : ∀ (A : Around) (outer : List Env) (s : Shared) (H : Hp) (us : List Value) (vs : List V) (Q : VK) (E : XK), NoG A → Room k A →
    Env0 P w K mg base A outer s H → Vals vs us → sp vs H Q E → codeAny (model P w) A (.call (.ref f) ⟨us, []⟩) (CR (L2.CX P w) outer P w H s Q E) s

section
variable {P : Program} {w : World} {K : PySem.W.Frag} {mg : Str → Option Value} {base : Heap} {x qual : Str} {params : Arguments} {body : List Stmt} {scope : Scope} {dvs : List V} {kws : List (Str × V)} {f : Addr} {fd : FuncData}
theorem Gn.mono {j k n : Nat} {sp : Sp} (F : Gn P w K mg base j f n sp) (h : j ≤ k) : Gn P w K mg base k f n sp :=
  ⟨F.len, fun A outer s H us vs Q E hg hr => F.run A outer s H us vs Q E hg (hr.mono h)⟩

/-- the rule for a def -/
theorem gn_ok {N ps : List Str} {k : Nat} {sp : Sp} (F : FunD K x qual params body scope [] kws f fd) (S : FnScope N ps scope)
    (hb : ∀ (kV doc pm : Value) (an : Option Addr) (cdv ct : Value) (us : List Value), us.length = ps.length → bindArgs (PySem.W.fnOf x qual params body scope .none kV doc pm an cdv ct) ⟨us, []⟩ = pure (ps.zip us))
    (len : ∀ vs H Q E, sp vs H Q E → vs.length = ps.length)
    (hbody : ∀ (cdv : Value) (A : Around) (outer : List Env) (s : Shared) (H : Hp) (vs : List V) (Q : VK) (E : XK), NoG A → Room k (A.deeper (envOfC qual scope s.heap.objs.size f cdv)) → sp vs H Q E →
      ∃ t, PSs (cxOf (L2.CX P w) P w K mg base N qual scope f cdv A outer s H E) body t ∧ t { nx := fun _ H' => Q .non H', rt := Q } (start N vs) H) :
    Gn P w K mg base (k + 1) f ps.length sp := by
  constructor
  · exact len
  intro A outer s H us vs Q E hg hr e0 r hsp
  have hl := len vs H Q E hsp
  have hul : us.length = ps.length := hl ▸ r.length.symm
  have kIn : K.In s.heap := e0.mod.kin.keeps fun b o q => (e0.bs b o q).1
  have lim : s.heap.NoLimit := e0.mod.nolimit.keeps fun b o q => (e0.bs b o q).1
  have B := FunD.bindsN F hb s us kIn (by simpa using hul)
  rw [List.append_nil] at B
  obtain ⟨oc, od, dV, kV, doc, pm, an, cdv, ct, osl, rfl, lk, hcd, _⟩ := F.ex
  have par : ∀ y ∈ ps.zip us, scope.names.lookup y.1 = some .local ∨
      (scope.names.lookup y.1 = some .cell ∧ ((cellsFrom (s.heap.objs.size + 1) scope.names []).lookup y.1).isSome = true) := by
    rintro ⟨y, v⟩ hy
    have hm := (List.of_mem_zip hy).1
    refine (S.par y hm).imp id fun c => ⟨c, ?_⟩
    exact PySem.W.cellsFrom_some _ _ _ (Or.inl c)
  have rec_ := PySem.W.codeRec_of kIn hcd
  apply codeAny_call_function hr.depth (kIn _ _ lk) rfl S.co S.gen rfl rec_
  apply B
  apply wpAny_newFunctionEnv_cells S.kind par
  intro env he s1 x
  subst he
  refine ⟨lim.keeps x.toInCall.keep, codeAny_func ?_⟩
  obtain ⟨t, ht, hq⟩ := hbody cdv A outer s H vs Q E hg (hr.deeper _) hsp
  have I := inv_start (CX := L2.CX P w) (E := E) S hr.hd e0 hl r x
  have R := ht.run [] s1 (start N vs) H _ I hq
  refine wpAny_mono R ?_ (fun _ _ z => z)
  intro fl s' hs
  cases fl with
  | next => obtain ⟨σ', H', J, q⟩ := hs; exact ⟨V.non, H', J.os, J.bare, J.base, J.hok, rfl, q⟩
  | ret u => obtain ⟨v, σ', H', J, rv, q⟩ := hs; exact ⟨v, H', J.os, J.bare, J.base, J.hok, rv, q⟩
  | brk => obtain ⟨_, _, _, q⟩ := hs; exact q.elim
  | cont => obtain ⟨_, _, _, q⟩ := hs; exact q.elim
end

section
variable {X : Cx} {k n : Nat} {f C : Addr} {sp : Sp} {W : WX} {x m : Str} {p pos apos : Pos} {e o : Expr} {es : List Expr} {ta : TE} {t : TA}
/-- the callee runs, at the slots σ -/
theorem g_run {pins : List (Addr × Obj)} {σ : St} {H : Hp} {s : Shared} {Q : VK} {us : List Value} {vs : List V} (F : Gn X.prog X.w X.K X.mg X.base k f n sp) (hg : NoG X.A) (hr : Room k X.A) (tk : Takes X W)
    (I : Inv X pins σ H s) (r : Vals vs us) (h : sp vs H Q (WE W σ)) : wpAny (model X.prog X.w) X.A (call (.ref f) us) (EP X pins σ Q) X.xe s := by
  apply wpAny_call
  apply codeAny_mono (F.run X.A X.stack s H us vs Q (WE W σ) hg hr I.env0 r h)
  intro r s' hq
  cases r with
  | error e => exact passAt tk σ pins H s e s' I hq
  | ok fl => cases fl with
    | ret u => exact I.after hq
    | next => exact hq.elim
    | brk => exact hq.elim
    | cont => exact hq.elim
/-- f(..) -/
def tG (sp : Sp) (W : WX) (t : TA) : TE := fun σ H Q => t σ H fun vs H1 => sp vs H1 Q (WE W σ)
theorem g_call (F : Gn X.prog X.w X.K X.mg X.base k f n sp) (hg : NoG X.A) (hr : Room k X.A) (tk : Takes X W) (gl : Gl X x) (hm : X.mg x = some (.ref f)) (kp : PySem.W.keepIn X.K (.ref f) = true)
    (ha : PA X (e :: es) t) (hdb : (x == ("__debug__" : Str)) = false := by decide) (he : starEach (e :: es) X.env = (false, eval e X.env) :: starEach es X.env := by rfl) (hpl : (backTo pos (starEach es X.env)).any (·.1) = false := by rfl) :
    PE X (.Call (.Name x p) (e :: es) [] pos) (tG sp W t) := by
  constructor
  intro pins s σ H Q I h
  apply wpAny_Call_Name_kw
  apply ld_glob I gl hm _ hdb
  apply PySem.W.callWith_K (h₀ := X.base) I.ok.mod.kin kp _ he hpl
  apply thn (ha.run pos pins s σ H _ I h)
  rintro us s1 ⟨vs, H1, I1, r, q⟩
  exact ⟨I1.kIn, g_run F hg hr tk I1 r q⟩
/-- f() -/
theorem g_call0 (F : Gn X.prog X.w X.K X.mg X.base k f n sp) (hg : NoG X.A) (hr : Room k X.A) (tk : Takes X W) (gl : Gl X x) (hm : X.mg x = some (.ref f)) (kp : PySem.W.keepIn X.K (.ref f) = true)
    (hdb : (x == ("__debug__" : Str)) = false := by decide) : PE X (.Call (.Name x p) [] [] pos) (tG sp W tNil) := by
  constructor
  intro pins s σ H Q I h
  apply wpAny_Call_Name_kw
  apply ld_glob I gl hm _ hdb
  exact PySem.W.callWith_K0 I.kIn kp (g_run (us := []) F hg hr tk I .nil h)
/-- o.m(..), o an instance of the class at C -/
def tGM (C : Addr) (m : Str) (sp : Sp) (W : WX) (ta : TE) (t : TA) : TE := fun σ H Q => ta σ H fun x H1 => ∃ a dx fs, x = .ref a ∧ H1 a = some (.ins C dx fs) ∧ fs.lookup m = none ∧
  t σ H1 fun vs H2 => sp (x :: vs) H2 Q (WE W σ)
theorem g_meth {pl : Sem Bool} (he : PE X o ta) (c : Cls X.K C) (hm : Meth X.K C m f) (F : Gn X.prog X.w X.K X.mg X.base k f n sp) (hg : NoG X.A) (hr : Room k X.A) (tk : Takes X W) (ha : PA X (e :: es) t)
    (hst : starEach (e :: es) X.env = (false, eval e X.env) :: starEach es X.env := by rfl) (hpl : (backTo pos (starEach es X.env)).any (·.1) = false := by rfl)
    (ht : eval (.Call (.Attribute o m apos) (e :: es) [] pos) X.env = (do
      let u ← eval o X.env; standAt apos.atName
      let (g, first) ← holding [u] (getMethod u m pl)
      callWith pos g first (backTo pos (starEach (e :: es) X.env)) (backToKw pos (keywordEach [] X.env))) := by rfl) :
    PE X (.Call (.Attribute o m apos) (e :: es) [] pos) (tGM C m sp W ta t) := by
  constructor
  intro pins s σ H Q I h
  refine PySem.W.methodCall_KW (pl := pl) (thn (he.run pins s σ H _ I h) ?_) ht
  rintro u s1 ⟨x, H1, I1, rx, a, dx, fs, rfl, ea, l, q⟩
  cases rx
  apply getmeth_ok I1 ea c hm l
  apply PySem.W.callWith_K (first := [.ref a]) (h₀ := X.base) I.ok.mod.kin hm.kp _ hst hpl
  apply thn (ha.run pos pins s1 σ H1 _ I1 q)
  rintro us s2 ⟨vs, H2, I2, r, q2⟩
  exact ⟨I2.kIn, g_run (us := .ref a :: us) (vs := .ref a :: vs) F hg hr tk I2 (.cons rfl r) q2⟩
/-- o.m() -/
theorem g_meth0 {pl : Sem Bool} (he : PE X o ta) (c : Cls X.K C) (hm : Meth X.K C m f) (F : Gn X.prog X.w X.K X.mg X.base k f n sp) (hg : NoG X.A) (hr : Room k X.A) (tk : Takes X W)
    (ht : eval (.Call (.Attribute o m apos) [] [] pos) X.env = (do
      let u ← eval o X.env; standAt apos.atName
      let (g, first) ← holding [u] (getMethod u m pl)
      callWith pos g first (backTo pos (starEach [] X.env)) (backToKw pos (keywordEach [] X.env))) := by rfl) :
    PE X (.Call (.Attribute o m apos) [] [] pos) (tGM C m sp W ta tNil) := by
  constructor
  intro pins s σ H Q I h
  refine PySem.W.methodCall_KW (pl := pl) (thn (he.run pins s σ H _ I h) ?_) ht
  rintro u s1 ⟨x, H1, I1, rx, a, dx, fs, rfl, ea, l, q⟩
  cases rx
  apply getmeth_ok I1 ea c hm l
  exact PySem.W.callWith_K0 (first := [.ref a]) I1.kIn hm.kp (g_run (us := [.ref a]) (vs := [.ref a]) F hg hr tk I1 (.cons rfl .nil) q)
theorem NoG.make {A : Around} (h : NoG A) (C : Addr) (us : List Value) : NoG (A.under (.builtin "type.__call__" ⟨.ref C :: us, []⟩)) := by
  show pushGuards (Code.guards (.builtin "type.__call__" ⟨.ref C :: us, []⟩)) A.guards = some []
  rw [h]
  have e : Code.guards (.builtin "type.__call__" ⟨.ref C :: us, []⟩) = [] := by
    unfold Code.guards
    rw [if_neg]
    have z : guardIds.contains "type.__call__" = false := by decide +kernel
    intro q
    have q' : guardIds.contains "type.__call__" = true := q
    rw [z] at q'
    cases q'
  rw [e]
  rfl
/-- C(..): a new instance, then __init__ -/
def tGN (C : Addr) (sp : Sp) (W : WX) (t : TA) : TE := fun σ H Q => t σ H fun vs H1 => ∀ x dx, H1 x = none → H1 dx = none → dx ≠ x →
  sp (.ref x :: vs) (upd (upd H1 dx (.own x)) x (.ins C dx [])) (fun v H2 => v = .non ∧ Q (.ref x) H2) (WE W σ)
theorem g_runMake {pins : List (Addr × Obj)} {σ : St} {H : Hp} {s : Shared} {Q : VK} {us : List Value} {vs : List V} (M : Mk X.K C f) (F : Gn X.prog X.w X.K X.mg X.base k f n sp) (hg : NoG X.A) (hr : Room (k + 1) X.A) (tk : Takes X W)
    (I : Inv X pins σ H s) (r : Vals vs us)
    (h : ∀ x dx, H x = none → H dx = none → dx ≠ x → sp (.ref x :: vs) (upd (upd H dx (.own x)) x (.ins C dx [])) (fun v H2 => v = .non ∧ Q (.ref x) H2) (WE W σ)) :
    wpAny (model X.prog X.w) X.A (call (.ref C) us) (EP X pins σ Q) X.xe s := by
  have hq := h (s.heap.objs.size + 1) s.heap.objs.size (I.hok.fresh (Nat.le_succ _)) (I.hok.fresh (Nat.le_refl _)) (Nat.ne_of_lt (Nat.lt_succ_self _))
  have I2 := Inv.made (C := C) I
  have R := F.run (X.A.under (.builtin "type.__call__" ⟨.ref C :: us, []⟩)) X.stack _ _ (.ref (s.heap.objs.size + 1) :: us) (.ref (s.heap.objs.size + 1) :: vs) _ _ (hg.make C us) (hr.make C us []) (I2.env0.make C us []) (.cons rfl r) hq
  apply wpAny_call
  apply make_map (f := f) I.kIn M.makes M.init (beq_iff_eq.mp M.fn)
  apply codeAny_mono R
  intro r s' hq'
  cases r with
  | error e => exact passAt tk σ pins _ _ e s' I2 hq'
  | ok fl => cases fl with
    | ret u =>
      obtain ⟨v, H', I3, rv, ev, q3⟩ := I2.after hq'
      subst ev
      exact ⟨rv, V.ref (s.heap.objs.size + 1), H', I3, rfl, q3⟩
    | next => exact hq'.elim
    | brk => exact hq'.elim
    | cont => exact hq'.elim
theorem g_make (M : Mk X.K C f) (F : Gn X.prog X.w X.K X.mg X.base k f n sp) (hg : NoG X.A) (hr : Room (k + 1) X.A) (tk : Takes X W) (gl : Gl X x) (hm : X.mg x = some (.ref C))
    (ha : PA X (e :: es) t) (hdb : (x == ("__debug__" : Str)) = false := by decide) (he : starEach (e :: es) X.env = (false, eval e X.env) :: starEach es X.env := by rfl) (hpl : (backTo pos (starEach es X.env)).any (·.1) = false := by rfl) :
    PE X (.Call (.Name x p) (e :: es) [] pos) (tGN C sp W t) := by
  constructor
  intro pins s σ H Q I h
  apply wpAny_Call_Name_kw
  apply ld_glob I gl hm _ hdb
  apply PySem.W.callWith_K (h₀ := X.base) I.ok.mod.kin M.kp _ he hpl
  apply thn (ha.run pos pins s σ H _ I h)
  rintro us s1 ⟨vs, H1, I1, r, q⟩
  exact ⟨I1.kIn, g_runMake M F hg hr tk I1 r q⟩
theorem PE.or {t1 t2 : TE} (h1 : PE X e t1) (h2 : PE X e t2) : PE X e (fun σ H Q => t1 σ H Q ∨ t2 σ H Q) :=
  ⟨fun pins s σ H Q I h => h.elim (h1.run pins s σ H Q I) (h2.run pins s σ H Q I)⟩
end

section
variable {X : Cx}
/-- repr of data -/
def rRepr (K : PySem.W.Frag) : List V → Hp → VK → Prop := fun vs H Q => ∃ v d, vs = [v] ∧ Dp K H v d ∧ d.showable = true ∧ d.hasDict = false ∧ d.depth ≤ 60 ∧ d.shown.length ≤ sizeLine ∧ Q (.str d.shown) H
theorem call_repr (hg : NoG X.A) (hu : X.A.units + 64 < cLine) : CallR X (.builtin "repr") (rRepr X.K) := by
  intro pins s σ H xs us Q I r h
  obtain ⟨v, d, rfl, hd, sh, nd, dp, sz, q⟩ := h
  obtain ⟨u, rfl, ru⟩ := vals1 r
  obtain ⟨as, rd⟩ := Dp.reads I d v u hd ru
  have fin : ∀ (h' : Heap) (t : Tok) (tk : Nat), (∀ b o, s.heap.get? b = some o → h'.get? b = some o) → EP X pins σ Q (.str d.shown t) { s with heap := h', toks := tk } :=
    fun h' t tk k => ⟨.str d.shown, H, I.kept (t' := tk) k, ⟨t, rfl⟩, q⟩
  cases hd with
  | non => cases ru; exact P.repr_of_none (fin _ _ _ fun _ _ z => z)
  | bl b => cases ru; exact P.repr_of_bool (by have z := fin s.heap s.toks (s.toks + 1) (fun _ _ z => z); cases b <;> exact z)
  | int i => obtain ⟨t, rfl⟩ := ru; exact P.repr_of_int (of_decide_eq_true sh) (fin _ _ _ fun _ _ z => z)
  | str x => obtain ⟨t, rfl⟩ := ru; exact P.repr_of_str (fin _ _ _ fun _ _ z => z) sz
  | lst h1 h2 => cases ru; exact repr_of_reads' rd sh (PyData.noDict_hsm nd) hg (by omega) (fun _ _ z => z) (fun h' u tk k => fin h' u tk k) sz
  | tup h1 h2 => cases ru; exact repr_of_reads' rd sh (PyData.noDict_hsm nd) hg (by omega) (fun _ _ z => z) (fun h' u tk k => fin h' u tk k) sz
end

/-! ### the law's own call -/
theorem g_law {P : Program} {w : World} {K : PySem.W.Frag} {mg mb : Str → Option Value} {k : Nat} {fa a : Addr} {sp : Sp} {s₁ : Shared} {vs : List Value} {ns : List Int}
    (KX : K.In s₁.heap) (hns : s₁.heap.Ns mainGlobals mg) (hb : s₁.heap.Ns builtinsNs mb) (hbb : ∀ x : Str, x ≠ "__name__" → mb x = bootBuiltins x) (hlim : s₁.heap.NoLimit) (hg : s₁.gens = #[])
    (ha : s₁.heap.get? a = some { cls := .type "list", data := .seq vs.toArray }) (hi : IntsAre vs ns) (hl : ns.length ≤ sizeLine) (hr : Room k callerA)
    (F : ∀ base : Heap, K.In base → base.Ns mainGlobals mg → Gn P w K mg base k fa 1 sp)
    (hsp : ∀ H : Hp, Only H → SqL K H a (ns.map V.int) → sp [.ref a] H (fun v _ => v = .bl true) fun _ _ _ => False) :
    codeAny (model P w) callerA (.call (.ref fa) ⟨[.ref a], []⟩) (fun r s' => r = .ok (.ret (.bool true)) ∧ OldK s₁.heap s'.heap ∧ s'.os = s₁.os ∧ AllBare s'.gens) s₁ := by
  have rv := vals_ints hi
  have lenV := hi.length
  suffices core : ∀ H : Hp, Only H → SqL K H a (ns.map V.int) → HOk P w H s₁.heap → (∀ b, H b ≠ none → b = a ∧ K.lookup b = none) →
      codeAny (model P w) callerA (.call (.ref fa) ⟨[.ref a], []⟩) (fun r s' => r = .ok (.ret (.bool true)) ∧ OldK s₁.heap s'.heap ∧ s'.os = s₁.os ∧ AllBare s'.gens) s₁ by
    cases hk : K.lookup a with
    | some o =>
      have e := KX a o hk
      rw [ha] at e
      cases e
      have sq : SqL K (fun _ => none) a (ns.map V.int) := by
        right
        refine ⟨_, vs.toArray, _, hk, rfl, rfl, rfl, ?_, ?_⟩
        · rw [List.size_toArray, lenV]; exact hl
        · simpa using rv
      refine core (fun _ => none) (fun _ => .inl rfl) sq ?_ ?_
      · intro b u z
        simp at z
      · intro b z
        exact absurd rfl z
    | none =>
      let o0 : Obj := { cls := .type "list", data := .seq vs.toArray }
      let H0 : Hp := fun b => if b = a then some (.frz o0 (.lst (ns.map V.int))) else none
      have at_a : H0 a = some (.frz o0 (.lst (ns.map V.int))) := if_pos rfl
      have off_a : ∀ b, b ≠ a → H0 b = none := fun b n => if_neg n
      refine core H0 (fun b => ?_) (.inl (.inr ⟨o0, at_a⟩)) (fun b u z => ?_) (fun b z => ?_)
      · by_cases n : b = a
        · subst n; exact .inr ⟨_, _, at_a⟩
        · exact .inl (off_a b n)
      · by_cases n : b = a
        · subst n
          rw [at_a] at z
          cases z
          refine ⟨ha, ?_, vs, _, rv, ha⟩
          rw [List.length_map]; exact hl
        · rw [off_a b n] at z; cases z
      · by_cases n : b = a
        · subst n; exact ⟨rfl, hk⟩
        · exact absurd (off_a b n) z
  intro H hO hS hok hA
  -- all that stood, but the script, is the ground
  have keepB : ∀ {b : Addr} {o : Obj}, s₁.heap.get? b = some o → H b = none → (hidT s₁.heap H).get? b = some o := fun e n => hidT_get e n
  have notA : ∀ {b : Addr} {o : Obj} {es : Array DictEntry} {ep : Nat}, s₁.heap.get? b = some o → o.data = .dict es ep → H b = none := by
    intro b o es ep e d
    cases q : H b with
    | none => rfl
    | some u =>
      obtain ⟨rfl, _⟩ := hA b (by rw [q]; simp)
      rw [ha] at e
      cases e
      cases d
  have nsB : ∀ {b : Addr} {m : Str → Option Value}, s₁.heap.Ns b m → (hidT s₁.heap H).Ns b m := by
    rintro b m ⟨o, es, ep, e, d, r⟩
    exact ⟨o, es, ep, keepB e (notA e d), d, r⟩
  have KB : K.In (hidT s₁.heap H) := by
    intro b o e
    refine keepB (KX b o e) ?_
    cases q : H b with
    | none => rfl
    | some u =>
      have z := (hA b (by rw [q]; simp)).2
      rw [e] at z; cases z
  obtain ⟨mc, lim1, lim2⟩ := hlim
  have M : Mod K mg (hidT s₁.heap H) := ⟨KB, nsB hns, ⟨mb, nsB hb, hbb⟩, mc, nsB lim1, lim2⟩
  have e0 : Env0 P w K mg (hidT s₁.heap H) callerA [] s₁ H :=
    ⟨rfl, M, fun b o e => of_hidT e, Nat.le_of_eq (hidT_size _ _), trivial, (fun b hb => absurd hb (by simp [frs])), hok, .of_eq hg⟩
  have R := (F _ KB (nsB hns)).run callerA [] s₁ H [.ref a] [.ref a] _ _ rfl hr e0 (.cons rfl .nil) (hsp H hO hS)
  apply codeAny_mono R
  intro r s' h
  cases r with
  | error e =>
    obtain ⟨_, _, _, _, _, _, _, _, _, _, _, _, z⟩ := h
    exact z.elim
  | ok fl => cases fl with
    | next => exact h.elim
    | brk => exact h.elim
    | cont => exact h.elim
    | ret u =>
      obtain ⟨v, H', os, bare, un, hok', r', rfl⟩ := h
      cases r'
      refine ⟨rfl, OldK.of_keep fun b o e => ?_, os, bare⟩
      cases q : H b with
      | none => exact un.keep b o e q (by simp [frs]) (by simp)
      | some u =>
        rcases hO b with z | ⟨ob, xs, z⟩
        · rw [q] at z; cases z
        · obtain ⟨e1, _⟩ := hok b _ z
          obtain ⟨e2, _⟩ := hok' b _ (un.frzs b ob _ z)
          rw [e] at e1
          cases e1
          exact e2
theorem g_walk {l : PySem.W.OpenLaw} {n k : Nat} {q : Program} {loose : List Str} {XP : (Str → Option Value) → Heap → Prop} {YP : World → Heap → Prop} {d : DefRec}
    (hn : l.most = some n) (hn2 : n ≤ sizeLine) (hdf : d.params.defaults = []) (hr : Room k callerA)
    (F : ∀ (w : World) (mg : Str → Option Value) (fa : Addr) (h : Heap), YP w h → h.Ns mainGlobals mg → mg d.name = some (.ref fa) →
      ∃ (K : PySem.W.Frag) (sp : Sp), K.In h ∧
        (∀ (H : Hp) (a : Addr) (ns : List Int), ns.length ≤ n → Only H → SqL K H a (ns.map V.int) → sp [.ref a] H (fun v _ => v = .bl true) fun _ _ _ => False) ∧
        ∀ base : Heap, K.In base → base.Ns mainGlobals mg → Gn l.prog w K mg base k fa 1 sp) :
    PySem.W.WalkO q loose XP YP l.row.toRowW d [] (fun f vs => PySem.call f vs) := by
  apply Att.attach_call hn hdf
  intro w s₀ s₁ mg mb fa o pm cd doc a vs ns G Y ho hd hcd hmg hobj hints hlen hg
  obtain ⟨K, sp, KX, hsp, hF⟩ := F w mg fa _ Y G.T.g hmg
  apply g_law KX G.T.g G.T.b G.T.builtins G.T.nolimit hg hobj hints (Nat.le_trans hlen hn2) hr hF
  intro H hO hS
  exact hsp H a ns hlen hO hS
end GL

/-! G2: data at values, resources, and the judgement RD: a reading holds of every heap with these data and resources. -/
namespace GL
open PySem PySem.Spec L2

mutual
/-- the value stands for this data -/
inductive Dt (K : PySem.W.Frag) (H : Hp) : V → PyData → Prop
  | non : Dt K H .non .none
  | bl (b : Bool) : Dt K H (.bl b) (.bool b)
  | int (i : Int) : Dt K H (.int i) (.int i)
  | str (x : Str) : Dt K H (.str x) (.str x)
  | lst {a : Addr} {xs : List V} {ds : List PyData} : H a = some (.lst xs) → DtAll K H xs ds → Dt K H (.ref a) (.list ds)
  | tup {a : Addr} {xs : List V} {ds : List PyData} : SqT K H a xs → DtAll K H xs ds → Dt K H (.ref a) (.tuple ds)
inductive DtAll (K : PySem.W.Frag) (H : Hp) : List V → List PyData → Prop
  | nil : DtAll K H [] []
  | cons {v : V} {d : PyData} {vs : List V} {ds : List PyData} : Dt K H v d → DtAll K H vs ds → DtAll K H (v :: vs) (d :: ds)
end
section
variable {K : PySem.W.Frag} {H H' : Hp}
theorem same_sqT {a : Addr} {xs : List V} (e : Same H H') (h : SqT K H a xs) : SqT K H' a xs := by
  rcases h with (h | ⟨o, h⟩) | h
  · left; left; exact e _ _ h
  · left; right; exact ⟨o, e _ _ h⟩
  · right; exact h
mutual
theorem Dt.mono (e : Same H H') {v : V} {d : PyData} : Dt K H v d → Dt K H' v d
  | .non => .non
  | .bl b => .bl b
  | .int i => .int i
  | .str x => .str x
  | .lst h r => .lst (e _ _ h) (DtAll.mono e r)
  | .tup h r => .tup (same_sqT e h) (DtAll.mono e r)
theorem DtAll.mono (e : Same H H') {vs : List V} {ds : List PyData} : DtAll K H vs ds → DtAll K H' vs ds
  | .nil => .nil
  | .cons a b => .cons (Dt.mono e a) (DtAll.mono e b)
end
mutual
theorem Dt.dp {v : V} {d : PyData} : Dt K H v d → Dp K H v d
  | .non => .non
  | .bl b => .bl b
  | .int i => .int i
  | .str x => .str x
  | .lst h r => .lst (.inl (.inl h)) (DtAll.dp r)
  | .tup h r => .tup h (DtAll.dp r)
theorem DtAll.dp {vs : List V} {ds : List PyData} : DtAll K H vs ds → DpAll K H vs ds
  | .nil => .nil
  | .cons a b => .cons (Dt.dp a) (DtAll.dp b)
end
theorem DtAll.len : ∀ {vs : List V} {ds : List PyData}, DtAll K H vs ds → vs.length = ds.length
  | _, _, .nil => rfl
  | _, _, .cons _ b => congrArg Nat.succ (DtAll.len b)
theorem DtAll.get : ∀ {vs : List V} {ds : List PyData}, DtAll K H vs ds → ∀ {i : Nat} {v : V}, vs[i]? = some v → ∃ d, ds[i]? = some d ∧ Dt K H v d
  | _, _, .nil, i, v, h => by simp at h
  | _, _, .cons a b, 0, v, h => by simp at h; subst h; exact ⟨_, rfl, a⟩
  | _, _, .cons a b, i + 1, v, h => by
    obtain ⟨d, e, x⟩ := DtAll.get b (i := i) (v := v) (by simpa using h)
    exact ⟨d, by simpa using e, x⟩
theorem DtAll.at : ∀ {vs : List V} {ds : List PyData}, DtAll K H vs ds → ∀ {i : Nat} {d : PyData}, ds[i]? = some d → ∃ v, vs[i]? = some v ∧ Dt K H v d
  | _, _, .nil, i, v, h => by simp at h
  | _, _, .cons a b, 0, v, h => by simp at h; subst h; exact ⟨_, rfl, a⟩
  | _, _, .cons a b, i + 1, v, h => by
    obtain ⟨d, e, x⟩ := DtAll.at b (i := i) (d := v) (by simpa using h)
    exact ⟨d, by simpa using e, x⟩
theorem DtAll.append : ∀ {vs ws : List V} {ds es : List PyData}, DtAll K H vs ds → DtAll K H ws es → DtAll K H (vs ++ ws) (ds ++ es)
  | _, _, _, _, .nil, h => h
  | _, _, _, _, .cons a b, h => .cons a (DtAll.append b h)
theorem DtAll.drop : ∀ {vs : List V} {ds : List PyData} (n : Nat), DtAll K H vs ds → DtAll K H (vs.drop n) (ds.drop n)
  | _, _, 0, h => h
  | _, _, n + 1, .nil => .nil
  | _, _, n + 1, .cons a b => DtAll.drop n b
theorem DtAll.take : ∀ {vs : List V} {ds : List PyData} (n : Nat), DtAll K H vs ds → DtAll K H (vs.take n) (ds.take n)
  | _, _, 0, h => .nil
  | _, _, n + 1, .nil => .nil
  | _, _, n + 1, .cons a b => .cons a (DtAll.take n b)
theorem DtAll.set : ∀ {vs : List V} {ds : List PyData} {v : V} {d : PyData} (n : Nat), DtAll K H vs ds → Dt K H v d → DtAll K H (vs.set n v) (ds.set n d)
  | _, _, _, _, _, .nil, h => .nil
  | _, _, _, _, 0, .cons a b, h => .cons h b
  | _, _, _, _, n + 1, .cons a b, h => .cons a (DtAll.set n b h)
theorem DtAll.erase : ∀ {vs : List V} {ds : List PyData} (n : Nat), DtAll K H vs ds → DtAll K H (vs.eraseIdx n) (ds.eraseIdx n)
  | _, _, _, .nil => .nil
  | _, _, 0, .cons a b => b
  | _, _, n + 1, .cons a b => .cons a (DtAll.erase n b)
theorem DtAll.ints {ns : List Int} {xs : List V} (h : DtAll K H xs (ns.map .int)) : xs = ns.map V.int := by
  induction ns generalizing xs with
  | nil => cases h; rfl
  | cons n ns ih =>
    cases h with
    | cons a b => cases a; rw [ih b]; rfl
theorem DtAll.ofInts (ns : List Int) : DtAll K H (ns.map V.int) (ns.map .int) := by
  induction ns with
  | nil => exact .nil
  | cons n ns ih => exact .cons (.int n) ih
theorem DtAll.strs {ns : List Str} {xs : List V} (h : DtAll K H xs (ns.map .str)) : xs = ns.map V.str := by
  induction ns generalizing xs with
  | nil => cases h; rfl
  | cons n ns ih =>
    cases h with
    | cons a b => cases a; rw [ih b]; rfl
theorem DtAll.ofStrs (ns : List Str) : DtAll K H (ns.map V.str) (ns.map .str) := by
  induction ns with
  | nil => exact .nil
  | cons n ns ih => exact .cons (.str n) ih
theorem DtAll.bls {ns : List Bool} {xs : List V} (h : DtAll K H xs (ns.map .bool)) : xs = ns.map V.bl := by
  induction ns generalizing xs with
  | nil => cases h; rfl
  | cons n ns ih =>
    cases h with
    | cons a b => cases a; rw [ih b]; rfl
end

/-! ### resources -/
/-- the heap without the addresses that may change -/
noncomputable def off (H : Hp) (N : Addr → Prop) : Hp := fun b => open Classical in if N b then none else H b
theorem off_same {H : Hp} {N : Addr → Prop} : Same (off H N) H := fun b o h => by
  unfold off at h
  split at h
  · cases h
  · exact h
theorem off_ne {H : Hp} {N : Addr → Prop} {b : Addr} (h : ¬ N b) : off H N b = H b := if_neg h
/-- what owns the addresses N: D what stands still, H all -/
structure Res where
  h : (Addr → Prop) → Hp → Hp → Prop
  st : ∀ {N : Addr → Prop} {D D' H H' : Hp}, h N D H → Same D D' → (∀ b, N b → H' b = H b) → h N D' H'
def emp : Res := ⟨fun N _ _ => ∀ b, ¬ N b, fun h _ _ => h⟩
def star (R S : Res) : Res where
  h := fun N D H => ∃ N1 N2, (∀ b, N b ↔ N1 b ∨ N2 b) ∧ (∀ b, N1 b → N2 b → False) ∧ R.h N1 D H ∧ S.h N2 D H
  st := by
    rintro N D D' H H' ⟨N1, N2, e, dj, h1, h2⟩ d k
    exact ⟨N1, N2, e, dj, R.st h1 d fun b hb => k b ((e b).2 (.inl hb)), S.st h2 d fun b hb => k b ((e b).2 (.inr hb))⟩
theorem star_comm {R S : Res} {N : Addr → Prop} {D H : Hp} (h : (star R S).h N D H) : (star S R).h N D H := by
  obtain ⟨N1, N2, e, dj, h1, h2⟩ := h
  exact ⟨N2, N1, fun b => (e b).trans or_comm, fun b x y => dj b y x, h2, h1⟩
theorem star_assoc {R S T : Res} {N : Addr → Prop} {D H : Hp} (h : (star (star R S) T).h N D H) : (star R (star S T)).h N D H := by
  obtain ⟨N1, N2, e, dj, ⟨M1, M2, e', dj', h1, h2⟩, h3⟩ := h
  refine ⟨M1, fun b => M2 b ∨ N2 b, fun b => ?_, fun b x y => ?_, h1, M2, N2, fun b => Iff.rfl, fun b x y => ?_, h2, h3⟩
  · rw [e b, e' b, or_assoc]
  · rcases y with y | y
    · exact dj' b x y
    · exact dj b ((e' b).2 (.inl x)) y
  · exact dj b ((e' b).2 (.inr x)) y
theorem star_mono {R R' S : Res} {N : Addr → Prop} {D H : Hp} (k : ∀ {N}, R.h N D H → R'.h N D H) (h : (star R S).h N D H) : (star R' S).h N D H := by
  obtain ⟨N1, N2, e, dj, h1, h2⟩ := h
  exact ⟨N1, N2, e, dj, k h1, h2⟩
theorem star_swap {R S T : Res} {N : Addr → Prop} {D H : Hp} (h : (star R (star S T)).h N D H) : (star S (star R T)).h N D H := by
  have h1 := star_comm h
  have h2 := star_assoc h1
  exact star_mono (R := S) (fun z => z) (by
    obtain ⟨N1, N2, e, dj, a, b⟩ := h2
    exact ⟨N1, N2, e, dj, a, star_comm b⟩)
/-- a list that may change -/
def own (K : PySem.W.Frag) (a : Addr) (ds : List PyData) : Res where
  h := fun N D H => (∀ b, N b ↔ b = a) ∧ ∃ xs, H a = some (.lst xs) ∧ DtAll K D xs ds
  st := fun ⟨e, xs, h, r⟩ d k => ⟨e, xs, (k a ((e a).2 rfl)).trans h, r.mono d⟩

/-- what may be owned: no tuple (tuples stand) -/
def NotTup (o : HO) : Prop := ∀ xs, o ≠ .tup xs
structure At (K : PySem.W.Frag) (D0 : Hp) (R : Res) (l : List (V × PyData)) (N : Addr → Prop) (H : Hp) : Prop where
  nt : ∀ b, N b → ∃ o, H b = some o ∧ NotTup o
  r : R.h N (off H N) H
  d0 : Same D0 (off H N)
  f : ∀ p ∈ l, Dt K (off H N) p.1 p.2
theorem At.nn {K : PySem.W.Frag} {D0 : Hp} {R : Res} {l : List (V × PyData)} {N : Addr → Prop} {H : Hp} (A : At K D0 R l N H) (b : Addr) (h : N b) : H b ≠ none := by
  obtain ⟨o, e, _⟩ := A.nt b h
  rw [e]
  exact fun z => by cases z
/-- T holds of every such heap -/
def RD (K : PySem.W.Frag) (D0 : Hp) (R : Res) (l : List (V × PyData)) (T : Hp → Prop) : Prop := ∀ N H, At K D0 R l N H → T H

/-- the value has this data among these facts -/
inductive InL (l : List (V × PyData)) : V → PyData → Prop
  | non : InL l .non .none
  | bl (b : Bool) : InL l (.bl b) (.bool b)
  | int (i : Int) : InL l (.int i) (.int i)
  | str (x : Str) : InL l (.str x) (.str x)
  | mem {v : V} {d : PyData} (h : (v, d) ∈ l) : InL l v d
inductive InLs (l : List (V × PyData)) : List V → List PyData → Prop
  | nil : InLs l [] []
  | cons {v : V} {d : PyData} {vs : List V} {ds : List PyData} (h : InL l v d) (t : InLs l vs ds) : InLs l (v :: vs) (d :: ds)
section
variable {K : PySem.W.Frag} {D0 H : Hp} {R S : Res} {l l' : List (V × PyData)} {N : Addr → Prop} {T T' : Hp → Prop}
theorem At.dt (A : At K D0 R l N H) {v : V} {d : PyData} (h : InL l v d) : Dt K (off H N) v d := by
  cases h with
  | non => exact .non
  | bl b => exact .bl b
  | int i => exact .int i
  | str x => exact .str x
  | mem h => exact A.f _ h
theorem At.dts (A : At K D0 R l N H) {vs : List V} {ds : List PyData} (h : InLs l vs ds) : DtAll K (off H N) vs ds := by
  induction h with
  | nil => exact .nil
  | cons h _ ih => exact .cons (A.dt h) ih
theorem At.dH (A : At K D0 R l N H) {v : V} {d : PyData} (h : InL l v d) : Dt K H v d := (A.dt h).mono off_same
theorem At.weak (A : At K D0 R l N H) (h : ∀ p ∈ l', InL l p.1 p.2) : At K D0 R l' N H := ⟨A.nt, A.r, A.d0, fun p hp => A.dt (h p hp)⟩
theorem RD.weak (h : ∀ p ∈ l', InL l p.1 p.2) (k : RD K D0 R l' T) : RD K D0 R l T := fun N H A => k N H (A.weak h)
theorem RD.res (h : ∀ {N D H}, R.h N D H → S.h N D H) (k : RD K D0 S l T) : RD K D0 R l T := fun N H A => k N H ⟨A.nt, h A.r, A.d0, A.f⟩
theorem RD.imp (h : ∀ H, T H → T' H) (k : RD K D0 R l T) : RD K D0 R l T' := fun N H A => h H (k N H A)
theorem At.facts (A : At K D0 R l N H) {v : V} {d : PyData} (h : Dt K (off H N) v d) : At K D0 R ((v, d) :: l) N H :=
  ⟨A.nt, A.r, A.d0, fun p hp => by rcases List.mem_cons.mp hp with rfl | hp; exact h; exact A.f p hp⟩
/-- a new object -/
theorem At.new (A : At K D0 R l N H) {p : Addr} (o : HO) (hp : H p = none) : At K D0 R l N (upd H p o) ∧ off (upd H p o) N p = some o := by
  have np : ¬ N p := fun h => A.nn p h hp
  have ne : ∀ b, N b → b ≠ p := fun b hb z => np (z ▸ hb)
  have sm : Same (off H N) (off (upd H p o) N) := fun b u h => by
    by_cases hb : N b
    · unfold off at h; rw [if_pos hb] at h; cases h
    · rw [off_ne hb] at h ⊢
      rw [upd_ne (ne_of_none h hp)]
      exact h
  refine ⟨⟨fun b hb => ?_, R.st A.r sm fun b hb => upd_ne (ne b hb), A.d0.trans sm, fun q hq => (A.f q hq).mono sm⟩, ?_⟩
  · rw [upd_ne (ne b hb)]; exact A.nt b hb
  · rw [off_ne np, upd_same]
theorem RD.new {o : HO} {d : PyData} {T : V → Hp → Prop} (hd : ∀ (D : Hp) (p : Addr), (∀ q ∈ l, Dt K D q.1 q.2) → D p = some o → Dt K D (.ref p) d) (k : ∀ v, RD K D0 R ((v, d) :: l) (T v)) :
    RD K D0 R l (fun H => ∀ p, H p = none → T (.ref p) (upd H p o)) := fun N H A p hp => by
  obtain ⟨A', e⟩ := A.new o hp
  exact k (.ref p) N _ (A'.facts (hd _ p A'.f e))
/-- a new object that may change -/
theorem At.newOwn (A : At K D0 R l N H) {p : Addr} {xs : List V} {ds : List PyData} (hp : H p = none) (hx : DtAll K (off H N) xs ds) : At K D0 (star (own K p ds) R) l (fun b => b = p ∨ N b) (upd H p (.lst xs)) := by
  have np : ¬ N p := fun h => A.nn p h hp
  have ne : ∀ b, N b → b ≠ p := fun b hb z => np (z ▸ hb)
  have sm : Same (off H N) (off (upd H p (.lst xs)) (fun b => b = p ∨ N b)) := fun b u h => by
    by_cases hb : N b
    · unfold off at h; rw [if_pos hb] at h; cases h
    · rw [off_ne hb] at h
      have nb := ne_of_none h hp
      rw [off_ne (fun z => z.elim nb hb), upd_ne nb]
      exact h
  refine ⟨fun b hb => ?_, ⟨fun b => b = p, N, fun b => Iff.rfl, fun b x y => ne b y x, ⟨fun b => Iff.rfl, xs, upd_same, hx.mono sm⟩, R.st A.r sm fun b hb => upd_ne (ne b hb)⟩, A.d0.trans sm, fun q hq => (A.f q hq).mono sm⟩
  rcases hb with rfl | hb
  · exact ⟨_, upd_same, fun _ z => by cases z⟩
  · rw [upd_ne (ne b hb)]; exact A.nt b hb
theorem RD.newOwn {xs : List V} {ds : List PyData} {T : V → Hp → Prop} (hx : InLs l xs ds) (k : ∀ a, RD K D0 (star (own K a ds) R) l (T (.ref a))) :
    RD K D0 R l (fun H => ∀ p, H p = none → T (.ref p) (upd H p (.lst xs))) := fun N H A p hp => k p _ _ (A.newOwn hp (A.dts hx))
/-- the list at a is written -/
theorem At.setOwn {a : Addr} {ds es : List PyData} {ys : List V} (A : At K D0 (star (own K a ds) R) l N H) (hy : DtAll K (off H N) ys es) : At K D0 (star (own K a es) R) l N (upd H a (.lst ys)) := by
  obtain ⟨N1, N2, e, dj, ⟨e1, xs, hx, dx⟩, h2⟩ := A.r
  have na : N a := (e a).2 (.inl ((e1 a).2 rfl))
  have sm : Same (off H N) (off (upd H a (.lst ys)) N) := fun b u h => by
    by_cases hb : N b
    · unfold off at h; rw [if_pos hb] at h; cases h
    · rw [off_ne hb] at h ⊢
      rw [upd_ne (fun z => hb (by rw [z]; exact na))]
      exact h
  refine ⟨fun b hb => ?_, ⟨N1, N2, e, dj, ⟨e1, ys, upd_same, hy.mono sm⟩, R.st h2 sm fun b hb => upd_ne fun z => dj b ((e1 b).2 z) hb⟩, A.d0.trans sm, fun q hq => (A.f q hq).mono sm⟩
  by_cases z : b = a
  · rw [z]; exact ⟨_, upd_same, fun _ z => by cases z⟩
  · rw [upd_ne z]; exact A.nt b hb
/-- the list is no more changed -/
theorem At.freeze {a : Addr} {ds : List PyData} (A : At K D0 (star (own K a ds) R) l N H) : ∃ N', At K D0 R ((.ref a, .list ds) :: l) N' H := by
  obtain ⟨N1, N2, e, dj, ⟨e1, xs, hx, dx⟩, h2⟩ := A.r
  have na : ¬ N2 a := fun z => dj a ((e1 a).2 rfl) z
  have sm : Same (off H N) (off H N2) := fun b u h => by
    by_cases hb : N b
    · unfold off at h; rw [if_pos hb] at h; cases h
    · rw [off_ne hb] at h
      rw [off_ne (fun z => hb ((e b).2 (.inr z)))]
      exact h
  refine ⟨N2, fun b hb => A.nt b ((e b).2 (.inr hb)), R.st h2 sm fun _ _ => rfl, A.d0.trans sm, fun q hq => ?_⟩
  rcases List.mem_cons.mp hq with rfl | hq
  · exact .lst (by rw [off_ne na]; exact hx) (dx.mono sm)
  · exact (A.f q hq).mono sm
theorem RD.freeze {a : Addr} {ds : List PyData} (k : RD K D0 R ((.ref a, .list ds) :: l) T) : RD K D0 (star (own K a ds) R) l T := fun N H A => by
  obtain ⟨N', A'⟩ := A.freeze
  exact k N' H A'
theorem At.ownAt {a : Addr} {ds : List PyData} (A : At K D0 (star (own K a ds) R) l N H) : ∃ xs, H a = some (.lst xs) ∧ DtAll K (off H N) xs ds := by
  obtain ⟨N1, N2, e, dj, ⟨e1, xs, hx, dx⟩, h2⟩ := A.r
  exact ⟨xs, hx, dx⟩
theorem RD.rot {R1 R2 R3 : Res} (k : RD K D0 (star R2 (star R1 R3)) l T) : RD K D0 (star R1 (star R2 R3)) l T := RD.res star_swap k
end
end GL

/-! G3: readings that serve several kinds of values, and what RD needs for each reading. -/
namespace GL
open PySem PySem.Spec L2
mutual
theorem Dt.plain {K : PySem.W.Frag} {H : Hp} {v : V} {d : PyData} : Dt K H v d → d.plain = true
  | .non => by simp only [PyData.plain]
  | .bl b => by simp only [PyData.plain]
  | .int i => by simp only [PyData.plain]
  | .str x => by simp only [PyData.plain]
  | .lst h r => by simp only [PyData.plain]; exact DtAll.plain r
  | .tup h r => by simp only [PyData.plain]; exact DtAll.plain r
theorem DtAll.plain {K : PySem.W.Frag} {H : Hp} {vs : List V} {ds : List PyData} : DtAll K H vs ds → PyData.plainAll ds = true
  | .nil => by simp only [PyData.plainAll]
  | .cons a b => by simp only [PyData.plainAll, Dt.plain a, DtAll.plain b, Bool.and_self]
end
section
variable {X : Cx}
def gAdd (K : PySem.W.Frag) : R2 := fun x y H Q => rI0 (fun i j => .int (i + j)) x y H Q ∨ (∃ i j, x = .str i ∧ y = .str j ∧ i.length + j.length ≤ sizeLine ∧ Q (.str (i ++ j)) H) ∨ rCat x y H Q ∨ rCatT K x y H Q
theorem op_gadd : OpR X (binaryOp .Add) (gAdd X.K) := op_add.or (op_add_str.or (op_cat.or op_catT))
def gMul : R2 := fun x y H Q => rI CMul (fun i j => .int (i * j)) x y H Q ∨ rRep x y H Q
theorem op_gmul : OpR X (binaryOp .Mult) gMul := op_mul.or op_rep
/-- ==, !=, in, not in over data -/
def gEq (K : PySem.W.Frag) : R2 := fun x y H Q => ∃ d e, Dt K H x d ∧ Dt K H y e ∧ d.depth ≤ 60 ∧ Q (.bl (PyData.eqv d e)) H
def gNe (K : PySem.W.Frag) : R2 := fun x y H Q => ∃ d e, Dt K H x d ∧ Dt K H y e ∧ d.depth ≤ 60 ∧ Q (.bl (!PyData.eqv d e)) H
theorem op_geq (hu : X.A.units + 64 < cLine) : OpR X (compareOp .Eq) (gEq X.K) := by
  intro pins s σ H x y v u Q I rx ry h
  obtain ⟨d, e, hd, he, dp, q⟩ := h
  obtain ⟨as, r1⟩ := Dp.reads I d x v hd.dp rx
  obtain ⟨bs, r2⟩ := Dp.reads I e y u he.dp ry
  exact PySem.SeqAt.eq_plain r1 r2 hd.plain he.plain (by omega) ⟨.bl _, H, I, rfl, q⟩
theorem op_gne (hu : X.A.units + 64 < cLine) : OpR X (compareOp .NotEq) (gNe X.K) := by
  intro pins s σ H x y v u Q I rx ry h
  obtain ⟨d, e, hd, he, dp, q⟩ := h
  obtain ⟨as, r1⟩ := Dp.reads I d x v hd.dp rx
  obtain ⟨bs, r2⟩ := Dp.reads I e y u he.dp ry
  exact PySem.SeqAt.ne_plain r1 r2 hd.plain he.plain (by omega) ⟨.bl _, H, I, rfl, q⟩
def rInP (K : PySem.W.Frag) (neg : Bool) : R2 := fun x y H Q => ∃ d ds, Dt K H x d ∧ (Dt K H y (.list ds) ∨ Dt K H y (.tuple ds)) ∧ d.depth ≤ 60 ∧ Q (.bl (if neg then !ds.any fun e => PyData.eqv e d else ds.any fun e => PyData.eqv e d)) H
def rInSg (neg : Bool) : R2 := fun x y H Q => ∃ (c : Nat) (z : Str), x = .str ⟨#[c]⟩ ∧ y = .str z ∧ Q (.bl (if neg then !decide (c ∈ z.cps.toList) else decide (c ∈ z.cps.toList))) H
def gIn (K : PySem.W.Frag) (neg : Bool) : R2 := fun x y H Q => rInP K neg x y H Q ∨ rInSg neg x y H Q
theorem op_inP (hu : X.A.units + 64 < cLine) : OpR X (compareOp .In) (rInP X.K false) := by
  intro pins s σ H x y v u Q I rx ry h
  obtain ⟨d, ds, hd, he, dp, q⟩ := h
  obtain ⟨as, r1⟩ := Dp.reads I d x v hd.dp rx
  rcases he with he | he
  · obtain ⟨bs, r2⟩ := Dp.reads I _ y u he.dp ry
    exact PySem.SeqAt.in_list_data r2 r1 he.plain hd.plain (by omega) ⟨.bl _, H, I, rfl, q⟩
  · obtain ⟨bs, r2⟩ := Dp.reads I _ y u he.dp ry
    exact PySem.SeqAt.in_tuple_data r2 r1 he.plain hd.plain (by omega) ⟨.bl _, H, I, rfl, q⟩
theorem op_notInP (hu : X.A.units + 64 < cLine) : OpR X (compareOp .NotIn) (rInP X.K true) := by
  intro pins s σ H x y v u Q I rx ry h
  obtain ⟨d, ds, hd, he, dp, q⟩ := h
  obtain ⟨as, r1⟩ := Dp.reads I d x v hd.dp rx
  rcases he with he | he
  · obtain ⟨bs, r2⟩ := Dp.reads I _ y u he.dp ry
    exact PySem.SeqAt.notIn_list_data r2 r1 he.plain hd.plain (by omega) ⟨.bl _, H, I, rfl, q⟩
  · obtain ⟨bs, r2⟩ := Dp.reads I _ y u he.dp ry
    exact PySem.SeqAt.notIn_tuple_data r2 r1 he.plain hd.plain (by omega) ⟨.bl _, H, I, rfl, q⟩
theorem op_gin (hu : X.A.units + 64 < cLine) : OpR X (compareOp .In) (gIn X.K false) := (op_inP hu).or op_in_sign
theorem op_gnotin (hu : X.A.units + 64 < cLine) : OpR X (compareOp .NotIn) (gIn X.K true) := (op_notInP hu).or op_notIn_sign
def gIsN : R2 := fun x y H Q => y = .non ∧ Q (.bl (decide (x = .non))) H
def gNotN : R2 := fun x y H Q => y = .non ∧ Q (.bl (!decide (x = .non))) H
def gLen (K : PySem.W.Frag) : List V → Hp → VK → Prop := fun xs H Q => ∃ x n, xs = [x] ∧ LenV K x H n ∧ Q (.int (n : Nat)) H
def gFind3 : V → List V → Hp → VK → Prop := fun x xs H Q => ∃ (a b : Str) (i : Int), x = .str a ∧ xs = [.str b, .int i] ∧ Q (.int (Txt.find3 a b i)) H
def gJoin (K : PySem.W.Frag) : V → List V → Hp → VK → Prop := fun x xs H Q => ∃ a p, ∃ ys : List Str, x = .str a ∧ xs = [.ref p] ∧ (SqL K H p (ys.map V.str) ∨ SqT K H p (ys.map V.str)) ∧
    (ys.map (·.length)).sum + ys.length * a.length ≤ 16777216 ∧ Q (.str (Txt.join a ys)) H
def gList (K : PySem.W.Frag) : List V → Hp → VK → Prop := fun xs H Q => ∃ p ys, xs = [.ref p] ∧ (SqL K H p ys ∨ SqT K H p ys) ∧ ∀ l, H l = none → Q (.ref l) (upd H l (.lst ys))
def gTuple (K : PySem.W.Frag) : List V → Hp → VK → Prop := fun xs H Q => ∃ p ys, xs = [.ref p] ∧ ((SqL K H p ys ∧ ∀ l, H l = none → Q (.ref l) (upd H l (.tup ys))) ∨ (SqT K H p ys ∧ Q (.ref p) H))
/-- what stands behind a part of a reading -/
def kBl (x : V) (H : Hp) (Qb : Bool → Hp → Prop) : Prop := ∃ b, x = .bl b ∧ Qb b H
def kTup (xs : List V) (H1 : Hp) (Q : VK) : Prop := xs.length ≤ sizeLine ∧ ∀ p, H1 p = none → Q (.ref p) (upd H1 p (.tup xs))
def kLst (xs : List V) (H1 : Hp) (Q : VK) : Prop := xs.length ≤ sizeLine ∧ ∀ p, H1 p = none → Q (.ref p) (upd H1 p (.lst xs))
def kPart (x : V) (H1 : Hp) (Q : Option Int → Hp → Prop) : Prop := ∃ i, x = .int i ∧ Q (some i) H1
end
section
variable {K : PySem.W.Frag} {D0 : Hp} {R : Res} {l : List (V × PyData)} {σ : St} {D : Ends} {Q : VK}

/-! ### statements -/
theorem d_seq {t u : TS} (k : RD K D0 R l (fun H => t { D with nx := u D } σ H)) : RD K D0 R l (fun H => tSeq t u D σ H) := k
theorem d_next (k : RD K D0 R l (fun H => D.nx σ H)) : RD K D0 R l (fun H => tNext D σ H) := k
theorem d_asg {te : TE} {g : TG} (k : RD K D0 R l (fun H => te σ H fun x H1 => g x σ H1 D.nx)) : RD K D0 R l (fun H => tAsg te g D σ H) := k
theorem d_name {i : Nat} {v : V} {σ' : St} {Qn : St → Hp → Prop} (e : σ.set i (some v) = σ') (k : RD K D0 R l (Qn σ')) : RD K D0 R l (fun H => gName i v σ H Qn) := by subst e; exact k
theorem d_ret {te : TE} (k : RD K D0 R l (fun H => te σ H D.rt)) : RD K D0 R l (fun H => tRet te D σ H) := k
theorem d_retN (k : RD K D0 R l (D.rt .non)) : RD K D0 R l (fun H => tRetN D σ H) := k
theorem d_drop {te : TE} (k : RD K D0 R l (fun H => te σ H fun _ H1 => D.nx σ H1)) : RD K D0 R l (fun H => tDrop te D σ H) := k
theorem d_ifS {c : TT} {t u : TS} (k : RD K D0 R l (fun H => c σ H fun b H1 => if b = true then t D σ H1 else u D σ H1)) : RD K D0 R l (fun H => tIfS c t u D σ H) := k
theorem d_break (k : RD K D0 R l (fun H => D.bk σ H)) : RD K D0 R l (fun H => tBreak D σ H) := k
theorem d_cont (k : RD K D0 R l (fun H => D.ct σ H)) : RD K D0 R l (fun H => tCont D σ H) := k

/-! ### tests -/
theorem d_ite {b : Bool} {T1 T2 : Hp → Prop} (h1 : b = true → RD K D0 R l T1) (h2 : b = false → RD K D0 R l T2) : RD K D0 R l (fun H => if b = true then T1 H else T2 H) := by
  intro N H A
  cases b with
  | true => exact iteT (h1 rfl N H A)
  | false => exact iteF (h2 rfl N H A)
theorem d_iteP {p : Prop} [Decidable p] {T1 T2 : Hp → Prop} (h1 : p → RD K D0 R l T1) (h2 : ¬ p → RD K D0 R l T2) : RD K D0 R l (fun H => if decide p = true then T1 H else T2 H) :=
  d_ite (fun e => h1 (of_decide_eq_true e)) (fun e => h2 (of_decide_eq_false e))
theorem d_iteT {T1 T2 : Hp → Prop} (h : RD K D0 R l T1) : RD K D0 R l (fun H => if true = true then T1 H else T2 H) := fun N H A => iteT (h N H A)
theorem d_iteF {T1 T2 : Hp → Prop} (h : RD K D0 R l T2) : RD K D0 R l (fun H => if false = true then T1 H else T2 H) := fun N H A => iteF (h N H A)
theorem d_iteNT {T1 T2 : Hp → Prop} (h : RD K D0 R l T2) : RD K D0 R l (fun H => if (!true) = true then T1 H else T2 H) := fun N H A => iteF (h N H A)
theorem d_iteNF {T1 T2 : Hp → Prop} (h : RD K D0 R l T1) : RD K D0 R l (fun H => if (!false) = true then T1 H else T2 H) := fun N H A => iteT (h N H A)
theorem d_iteY {b : Bool} {T1 T2 : Hp → Prop} (e : b = true) (h : RD K D0 R l T1) : RD K D0 R l (fun H => if b = true then T1 H else T2 H) := by subst e; exact d_iteT h
theorem d_iteN {b : Bool} {T1 T2 : Hp → Prop} (e : b = false) (h : RD K D0 R l T2) : RD K D0 R l (fun H => if b = true then T1 H else T2 H) := by subst e; exact d_iteF h
theorem d_test {t : TE} {Qb : Bool → Hp → Prop} (k : RD K D0 R l (fun H => t σ H fun x H' => kBl x H' Qb)) : RD K D0 R l (fun H => tTest t σ H Qb) := k
theorem d_tB {t : TE} {Qb : Bool → Hp → Prop} (k : RD K D0 R l (fun H => t σ H fun x H' => kBl x H' Qb)) : RD K D0 R l (fun H => tB t σ H Qb) := k
theorem d_bl {b : Bool} {Qb : Bool → Hp → Prop} (k : RD K D0 R l (Qb b)) : RD K D0 R l (fun H => kBl (.bl b) H Qb) := fun N H A => ⟨b, rfl, k N H A⟩

/-! ### names, constants, operators -/
theorem d_var {i : Nat} {v : V} (h : σ[i]? = some (some v)) (k : RD K D0 R l (Q v)) : RD K D0 R l (fun H => tVar i σ H Q) := fun N H A => ⟨v, h, k N H A⟩
theorem d_C {v : V} (k : RD K D0 R l (Q v)) : RD K D0 R l (fun H => tC v σ H Q) := k
theorem d_op {r : R2} {ta tb : TE} (k : RD K D0 R l (fun H => ta σ H fun x H1 => tb σ H1 fun y H2 => r x y H2 Q)) : RD K D0 R l (fun H => tOp r ta tb σ H Q) := k
theorem d_nil {Q : List V → Hp → Prop} (k : RD K D0 R l (Q [])) : RD K D0 R l (fun H => tNil σ H Q) := k
theorem d_cons {ta : TE} {tr : TA} {Q : List V → Hp → Prop} (k : RD K D0 R l (fun H => ta σ H fun x H1 => tr σ H1 fun xs H2 => Q (x :: xs) H2)) : RD K D0 R l (fun H => tCons ta tr σ H Q) := k
theorem d_cb {r : List V → Hp → VK → Prop} {t : TA} (k : RD K D0 R l (fun H => t σ H fun vs H1 => r vs H1 Q)) : RD K D0 R l (fun H => tCB r t σ H Q) := k
theorem d_g {sp : Sp} {W : WX} {t : TA} (k : RD K D0 R l (fun H => t σ H fun vs H1 => sp vs H1 Q (WE W σ))) : RD K D0 R l (fun H => tG sp W t σ H Q) := k
theorem d_tif {c : TT} {ta tb : TE} (k : RD K D0 R l (fun H => c σ H fun b H1 => if b = true then ta σ H1 Q else tb σ H1 Q)) : RD K D0 R l (fun H => tIf c ta tb σ H Q) := k
theorem d_I0 {g : Int → Int → V} {i j : Int} (k : RD K D0 R l (Q (g i j))) : RD K D0 R l (fun H => rI0 g (.int i) (.int j) H Q) := fun N H A => ⟨i, j, rfl, rfl, k N H A⟩
theorem d_I {C : Int → Int → Prop} {g : Int → Int → V} {i j : Int} (c : C i j) (k : RD K D0 R l (Q (g i j))) : RD K D0 R l (fun H => rI C g (.int i) (.int j) H Q) := fun N H A => ⟨i, j, rfl, rfl, c, k N H A⟩
theorem d_addI {i j : Int} (k : RD K D0 R l (Q (.int (i + j)))) : RD K D0 R l (fun H => gAdd K (.int i) (.int j) H Q) := fun N H A => .inl ⟨i, j, rfl, rfl, k N H A⟩
theorem d_addS {i j : Str} (h : i.length + j.length ≤ sizeLine) (k : RD K D0 R l (Q (.str (i ++ j)))) : RD K D0 R l (fun H => gAdd K (.str i) (.str j) H Q) := fun N H A => .inr (.inl ⟨i, j, rfl, rfl, h, k N H A⟩)
theorem d_mulI {i j : Int} (c : CMul i j) (k : RD K D0 R l (Q (.int (i * j)))) : RD K D0 R l (fun H => gMul (.int i) (.int j) H Q) := fun N H A => .inl ⟨i, j, rfl, rfl, c, k N H A⟩
theorem d_isN {x : V} (k : RD K D0 R l (Q (.bl (decide (x = .non))))) : RD K D0 R l (fun H => gIsN x .non H Q) := fun N H A => ⟨rfl, k N H A⟩
theorem d_notN {x : V} (k : RD K D0 R l (Q (.bl (!decide (x = .non))))) : RD K D0 R l (fun H => gNotN x .non H Q) := fun N H A => ⟨rfl, k N H A⟩

/-- what a value of this data must be, where it is plain -/
def Dv (v : V) : PyData → Prop
  | .none => v = .non
  | .bool b => v = .bl b
  | .int i => v = .int i
  | .str x => v = .str x
  | .list _ => ∃ a, v = .ref a
  | .tuple _ => ∃ a, v = .ref a
  | .dict _ => True
theorem Dt.dv {H : Hp} {v : V} {d : PyData} (h : Dt K H v d) : Dv v d := by
  cases h <;> first | rfl | exact ⟨_, rfl⟩
/-- lists and tuples by data -/
theorem Dt.list {H : Hp} {v : V} {ds : List PyData} (h : Dt K H v (.list ds)) : ∃ a xs, v = .ref a ∧ H a = some (.lst xs) ∧ DtAll K H xs ds := by
  cases h with
  | lst h r => exact ⟨_, _, rfl, h, r⟩
theorem Dt.tuple {H : Hp} {v : V} {ds : List PyData} (h : Dt K H v (.tuple ds)) : ∃ a xs, v = .ref a ∧ SqT K H a xs ∧ DtAll K H xs ds := by
  cases h with
  | tup h r => exact ⟨_, _, rfl, h, r⟩

/-! ### displays -/
theorem d_tup {t : TA} (k : RD K D0 R l (fun H => t σ H fun xs H1 => kTup xs H1 Q)) : RD K D0 R l (fun H => tTup t σ H Q) := k
theorem d_lst {t : TA} (k : RD K D0 R l (fun H => t σ H fun xs H1 => kLst xs H1 Q)) : RD K D0 R l (fun H => tLst t σ H Q) := k
theorem d_newT {xs : List V} {ds : List PyData} (hl : xs.length ≤ sizeLine) (hx : InLs l xs ds) (k : ∀ v, RD K D0 R ((v, .tuple ds) :: l) (Q v)) : RD K D0 R l (fun H => kTup xs H Q) :=
  fun N H A => ⟨hl, fun p hp => by
    obtain ⟨A', e⟩ := A.new (.tup xs) hp
    exact k _ N _ (A'.facts (.tup (.inl (.inl e)) (A'.dts hx)))⟩
theorem d_newL {xs : List V} {ds : List PyData} (hl : xs.length ≤ sizeLine) (hx : InLs l xs ds) (k : ∀ v, RD K D0 R ((v, .list ds) :: l) (Q v)) : RD K D0 R l (fun H => kLst xs H Q) :=
  fun N H A => ⟨hl, fun p hp => by
    obtain ⟨A', e⟩ := A.new (.lst xs) hp
    exact k _ N _ (A'.facts (.lst e (A'.dts hx)))⟩
theorem d_newO {xs : List V} {ds : List PyData} (hl : xs.length ≤ sizeLine) (hx : InLs l xs ds) (k : ∀ a, RD K D0 (star (own K a ds) R) l (Q (.ref a))) : RD K D0 R l (fun H => kLst xs H Q) :=
  fun N H A => ⟨hl, fun p hp => k p _ _ (A.newOwn hp (A.dts hx))⟩

/-! ### ==, !=, by data -/
theorem d_eq {x y : V} {d e : PyData} (hx : InL l x d) (hy : InL l y e) (dp : d.depth ≤ 60) (k : RD K D0 R l (Q (.bl (PyData.eqv d e)))) : RD K D0 R l (fun H => gEq K x y H Q) :=
  fun N H A => ⟨d, e, A.dH hx, A.dH hy, dp, k N H A⟩
theorem d_ne {x y : V} {d e : PyData} (hx : InL l x d) (hy : InL l y e) (dp : d.depth ≤ 60) (k : RD K D0 R l (Q (.bl (!PyData.eqv d e)))) : RD K D0 R l (fun H => gNe K x y H Q) :=
  fun N H A => ⟨d, e, A.dH hx, A.dH hy, dp, k N H A⟩
theorem eqv_int {i j : Int} : PyData.eqv (.int i) (.int j) = decide (i = j) := by simp only [PyData.eqv]; exact Bool.beq_eq_decide_eq i j
theorem eqv_str {i j : Str} : PyData.eqv (.str i) (.str j) = decide (i = j) := by simp only [PyData.eqv]; exact Bool.beq_eq_decide_eq i j
theorem eqv_bool {i j : Bool} : PyData.eqv (.bool i) (.bool j) = decide (i = j) := by simp only [PyData.eqv]; exact Bool.beq_eq_decide_eq i j
theorem dep0 {n : Nat} (h : n = 0) : n ≤ 60 := by omega
theorem d_eqI {i j : Int} (k : RD K D0 R l (Q (.bl (decide (i = j))))) : RD K D0 R l (fun H => gEq K (.int i) (.int j) H Q) := d_eq (.int i) (.int j) (dep0 (by simp only [PyData.depth])) (by rw [eqv_int]; exact k)
theorem d_neI {i j : Int} (k : RD K D0 R l (Q (.bl (!decide (i = j))))) : RD K D0 R l (fun H => gNe K (.int i) (.int j) H Q) := d_ne (.int i) (.int j) (dep0 (by simp only [PyData.depth])) (by rw [eqv_int]; exact k)
theorem d_eqS {i j : Str} (k : RD K D0 R l (Q (.bl (decide (i = j))))) : RD K D0 R l (fun H => gEq K (.str i) (.str j) H Q) := d_eq (.str i) (.str j) (dep0 (by simp only [PyData.depth])) (by rw [eqv_str]; exact k)
theorem d_neS {i j : Str} (k : RD K D0 R l (Q (.bl (!decide (i = j))))) : RD K D0 R l (fun H => gNe K (.str i) (.str j) H Q) := d_ne (.str i) (.str j) (dep0 (by simp only [PyData.depth])) (by rw [eqv_str]; exact k)
theorem d_eqB {i j : Bool} (k : RD K D0 R l (Q (.bl (decide (i = j))))) : RD K D0 R l (fun H => gEq K (.bl i) (.bl j) H Q) := d_eq (.bl i) (.bl j) (dep0 (by simp only [PyData.depth])) (by rw [eqv_bool]; exact k)
theorem d_neB {i j : Bool} (k : RD K D0 R l (Q (.bl (!decide (i = j))))) : RD K D0 R l (fun H => gNe K (.bl i) (.bl j) H Q) := d_ne (.bl i) (.bl j) (dep0 (by simp only [PyData.depth])) (by rw [eqv_bool]; exact k)
/-! ### in, not in -/
theorem d_inL {x y : V} {d : PyData} {ds : List PyData} (hx : InL l x d) (hy : InL l y (.list ds)) (dp : d.depth ≤ 60) (k : RD K D0 R l (Q (.bl (ds.any fun e => PyData.eqv e d)))) : RD K D0 R l (fun H => gIn K false x y H Q) :=
  fun N H A => .inl ⟨d, ds, A.dH hx, .inl (A.dH hy), dp, k N H A⟩
theorem d_inT {x y : V} {d : PyData} {ds : List PyData} (hx : InL l x d) (hy : InL l y (.tuple ds)) (dp : d.depth ≤ 60) (k : RD K D0 R l (Q (.bl (ds.any fun e => PyData.eqv e d)))) : RD K D0 R l (fun H => gIn K false x y H Q) :=
  fun N H A => .inl ⟨d, ds, A.dH hx, .inr (A.dH hy), dp, k N H A⟩
theorem d_notInL {x y : V} {d : PyData} {ds : List PyData} (hx : InL l x d) (hy : InL l y (.list ds)) (dp : d.depth ≤ 60) (k : RD K D0 R l (Q (.bl (!ds.any fun e => PyData.eqv e d)))) : RD K D0 R l (fun H => gIn K true x y H Q) :=
  fun N H A => .inl ⟨d, ds, A.dH hx, .inl (A.dH hy), dp, k N H A⟩
theorem d_notInT {x y : V} {d : PyData} {ds : List PyData} (hx : InL l x d) (hy : InL l y (.tuple ds)) (dp : d.depth ≤ 60) (k : RD K D0 R l (Q (.bl (!ds.any fun e => PyData.eqv e d)))) : RD K D0 R l (fun H => gIn K true x y H Q) :=
  fun N H A => .inl ⟨d, ds, A.dH hx, .inr (A.dH hy), dp, k N H A⟩
theorem d_inSg {c : Nat} {z : Str} (k : RD K D0 R l (Q (.bl (decide (c ∈ z.cps.toList))))) : RD K D0 R l (fun H => gIn K false (.str ⟨#[c]⟩) (.str z) H Q) := fun N H A => .inr ⟨c, z, rfl, rfl, k N H A⟩
theorem d_notInSg {c : Nat} {z : Str} (k : RD K D0 R l (Q (.bl (!decide (c ∈ z.cps.toList))))) : RD K D0 R l (fun H => gIn K true (.str ⟨#[c]⟩) (.str z) H Q) := fun N H A => .inr ⟨c, z, rfl, rfl, k N H A⟩

/-! ### subscripts, slices, len -/
theorem DtAll.atI {H : Hp} {vs : List V} {ds : List PyData} (h : DtAll K H vs ds) {i : Int} {d : PyData} (e : atI ds i = some d) : ∃ v, atI vs i = some v ∧ Dt K H v d := by
  unfold L2.atI at e ⊢
  rw [h.len]
  cases q : ixN ds.length i with
  | none => rw [q] at e; cases e
  | some j =>
    rw [q] at e
    exact h.at (show ds[j]? = some d from e)
theorem d_ixL {x : V} {i : Int} {ds : List PyData} {d : PyData} (hx : InL l x (.list ds)) (hi : atI ds i = some d) (k : ∀ v, Dv v d → RD K D0 R ((v, d) :: l) (Q v)) : RD K D0 R l (fun H => rIx K x (.int i) H Q) := fun N H A => by
  obtain ⟨a, xs, rfl, ha, hd⟩ := (A.dt hx).list
  obtain ⟨v, hv, dv⟩ := hd.atI hi
  exact .inl ⟨a, xs, i, v, rfl, rfl, SqL.of (off_same a _ ha), hv, k v dv.dv N H (A.facts dv)⟩
theorem d_ixT {x : V} {i : Int} {ds : List PyData} {d : PyData} (hx : InL l x (.tuple ds)) (hi : atI ds i = some d) (k : ∀ v, Dv v d → RD K D0 R ((v, d) :: l) (Q v)) : RD K D0 R l (fun H => rIx K x (.int i) H Q) := fun N H A => by
  obtain ⟨a, xs, rfl, ha, hd⟩ := (A.dt hx).tuple
  obtain ⟨v, hv, dv⟩ := hd.atI hi
  exact .inr (.inl ⟨a, xs, i, v, rfl, rfl, same_sqT off_same ha, hv, k v dv.dv N H (A.facts dv)⟩)
theorem d_ixS {z : Str} {i : Int} {c : Nat} (hz : z.length ≤ sizeLine) (hi : atI z.cps.toList i = some c) (k : RD K D0 R l (Q (.str ⟨#[c]⟩))) : RD K D0 R l (fun H => rIx K (.str z) (.int i) H Q) := fun N H A =>
  .inr (.inr ⟨z, i, c, rfl, rfl, hz, hi, k N H A⟩)
def gSl (K : PySem.W.Frag) : V → Option Int → Option Int → Hp → VK → Prop := fun x lo hi H Q => rSlL K x lo hi H Q ∨ rSlS x lo hi H Q ∨ rSlT K x lo hi H Q
theorem d_noPart {Q : Option Int → Hp → Prop} (k : RD K D0 R l (Q none)) : RD K D0 R l (fun H => tNoPart σ H Q) := k
theorem d_part {t : TE} {Q : Option Int → Hp → Prop} (k : RD K D0 R l (fun H => t σ H fun x H1 => kPart x H1 Q)) : RD K D0 R l (fun H => tPart t σ H Q) := k
theorem d_int {i : Int} {Q : Option Int → Hp → Prop} (k : RD K D0 R l (Q (some i))) : RD K D0 R l (fun H => kPart (.int i) H Q) := fun N H A => ⟨i, rfl, k N H A⟩
theorem d_tSl {r : V → Option Int → Option Int → Hp → VK → Prop} {te : TE} {tl th : TO} (k : RD K D0 R l (fun H => te σ H fun x H1 => tl σ H1 fun a H2 => th σ H2 fun b H3 => r x a b H3 Q)) : RD K D0 R l (fun H => tSl r te tl th σ H Q) := k
theorem d_slS {z : Str} {lo hi : Option Int} (hz : z.length ≤ sizeLine) (k : RD K D0 R l (Q (.str (cutS z lo hi)))) : RD K D0 R l (fun H => gSl K (.str z) lo hi H Q) := fun N H A => .inr (.inl ⟨z, rfl, hz, k N H A⟩)
def cutD (xs : List PyData) (lo hi : Option Int) : List PyData := (xs.drop (HT.sIx xs.length 0 lo)).take (HT.sIx xs.length xs.length hi - HT.sIx xs.length 0 lo)
theorem d_slL {x : V} {ds : List PyData} {lo hi : Option Int} (hx : InL l x (.list ds)) (k : ∀ v, RD K D0 R ((v, .list (cutD ds lo hi)) :: l) (Q v)) : RD K D0 R l (fun H => gSl K x lo hi H Q) := fun N H A => by
  obtain ⟨a, xs, rfl, ha, hd⟩ := (A.dt hx).list
  refine .inl ⟨a, xs, rfl, SqL.of (off_same a _ ha), fun p hp => ?_⟩
  obtain ⟨A', e⟩ := A.new (.lst (cutV xs lo hi)) hp
  obtain ⟨a', xs', ea, ha', hd'⟩ := (A'.dt hx).list
  have z : xs' = xs := by
    cases ea
    have z1 := off_same a _ ha'
    have z2 := off_same a _ ha
    rw [upd_ne (ne_of_none z2 hp), z2] at z1
    cases z1
    rfl
  subst z
  refine k _ N _ (A'.facts (.lst e ?_))
  have z2 : cutD ds lo hi = (ds.drop (HT.sIx xs'.length 0 lo)).take (HT.sIx xs'.length xs'.length hi - HT.sIx xs'.length 0 lo) := by unfold cutD; rw [hd.len]
  rw [z2]
  exact (hd'.drop _).take _
theorem d_lenL {x : V} {ds : List PyData} (hx : InL l x (.list ds)) (k : RD K D0 R l (Q (.int ds.length))) : RD K D0 R l (fun H => gLen K [x] H Q) := fun N H A => by
  obtain ⟨a, xs, rfl, ha, hd⟩ := (A.dt hx).list
  exact ⟨_, _, rfl, .inl ⟨xs, SqL.of (off_same a _ ha), hd.len.symm⟩, k N H A⟩
theorem d_lenT {x : V} {ds : List PyData} (hx : InL l x (.tuple ds)) (k : RD K D0 R l (Q (.int ds.length))) : RD K D0 R l (fun H => gLen K [x] H Q) := fun N H A => by
  obtain ⟨a, xs, rfl, ha, hd⟩ := (A.dt hx).tuple
  exact ⟨_, _, rfl, .inr ⟨xs, same_sqT off_same ha, hd.len.symm⟩, k N H A⟩
theorem d_lenS {z : Str} (hz : z.length ≤ sizeLine) (k : RD K D0 R l (Q (.int z.length))) : RD K D0 R l (fun H => gLen K [.str z] H Q) := fun N H A => ⟨_, _, rfl, ⟨hz, rfl⟩, k N H A⟩

/-! ### loops -/
/-- where a loop's turn is to end -/
def Cont (K : PySem.W.Frag) (D0 : Hp) (P : Res → St → List (V × PyData) → Prop) : St → Hp → Prop := fun σ H => ∃ R l N, P R σ l ∧ At K D0 R l N H
theorem d_end {P : Res → St → List (V × PyData) → Prop} {l' : List (V × PyData)} (h : P R σ l') (s : ∀ p ∈ l', InL l p.1 p.2) : RD K D0 R l (Cont K D0 P σ) := fun N H A => ⟨R, l', N, h, A.weak s⟩
def ForK (g : TG) (tb : TS) (D : Ends) (σ : St) (J : It) (H1 : Hp) : Prop := ∃ W : Nat → Nat → St → Hp → Prop, (∃ m, W 0 m σ H1) ∧ ∀ i m σ H, W i m σ H →
    (J.stop i H ∧ D.nx σ H) ∨ (J.go i H ∧ ∃ N : St → Hp → Prop, (∀ σ' H', N σ' H' → ∃ m', m' < m ∧ W (i + 1) m' σ' H') ∧ ∀ x H', J.yld i H x H' → g x σ H' fun σ2 H2 => tb { D with nx := N, ct := N, bk := D.nx } σ2 H2)
theorem d_for {wi : TI} {g : TG} {tb : TS} (k : RD K D0 R l (fun H => wi σ H fun J H1 => ForK g tb D σ J H1)) :
    RD K D0 R l (fun H => tFor wi g tb D σ H) := k
def kRng1 (vs : List V) (H1 : Hp) (Ri : It → Hp → Prop) : Prop := ∃ j : Int, vs = [.int j] ∧ -(2 ^ 62) ≤ j ∧ j < 2 ^ 62 ∧ Ri (Itr 0 j.toNat) H1
theorem d_iRng1 {ta : TA} {Ri : It → Hp → Prop} (k : RD K D0 R l (fun H => ta σ H fun vs H1 => kRng1 vs H1 Ri)) : RD K D0 R l (fun H => iRng1 ta σ H Ri) := k
theorem d_rng1 {j : Int} {Ri : It → Hp → Prop} (h1 : -(2 ^ 62) ≤ j) (h2 : j < 2 ^ 62) (k : RD K D0 R l (Ri (Itr 0 j.toNat))) : RD K D0 R l (fun H => kRng1 [.int j] H Ri) := fun N H A => ⟨j, rfl, h1, h2, k N H A⟩
theorem d_forRange {g : TG} {tb : TS} {lo : Int} {n : Nat} (P : Nat → Res → St → List (V × PyData) → Prop) (h0 : P 0 R σ l)
    (hs : ∀ i R' σ' l', i < n → P i R' σ' l' → RD K D0 R' l' (fun H => g (.int (lo + i)) σ' H fun σ2 H2 => tb { D with nx := Cont K D0 (P (i + 1)), ct := Cont K D0 (P (i + 1)), bk := D.nx } σ2 H2))
    (hd : ∀ R' σ' l', P n R' σ' l' → RD K D0 R' l' (fun H => D.nx σ' H)) :
    RD K D0 R l (fun H => ForK g tb D σ (Itr lo n) H) := fun N H A => by
  refine for_range (fun i => Cont K D0 (P i)) ⟨R, l, N, h0, A⟩ ?_ ?_
  · rintro i σ' H' hi ⟨R', l', N', p, A'⟩
    exact hs i R' σ' l' hi p N' H' A'
  · rintro σ' H' ⟨R', l', N', p, A'⟩
    exact hd R' σ' l' p N' H' A'
end
theorem call_glist {X : Cx} : CallR X (.type "list") (gList X.K) := call_list_of
theorem call_gtuple {X : Cx} : CallR X (.type "tuple") (gTuple X.K) := call_tuple_of
end GL

/-! G4: further readings, the pen. -/
namespace GL
open PySem PySem.Spec L2
abbrev W0 : WX := fun _ _ _ _ => False
abbrev gSub' : R2 := rI0 fun i j => .int (i - j)
abbrev gFdiv : R2 := rI CDiv fun i j => .int (i / j)
abbrev gMod : R2 := rI (fun _ j => 0 < j) fun i j => .int (i % j)
abbrev gPow : R2 := rI CPow fun i j => .int (i ^ j.toNat)
abbrev gLt : R2 := rI0 fun i j => .bl (decide (i < j))
abbrev gLe : R2 := rI0 fun i j => .bl (decide (i ≤ j))
abbrev gGt : R2 := rI0 fun i j => .bl (decide (j < i))
abbrev gGe : R2 := rI0 fun i j => .bl (decide (j ≤ i))
abbrev gNeg : V → Hp → VK → Prop := rU fun i => .int (-i)
/-- a test by truth -/
def tTru (K : PySem.W.Frag) (t : TE) : TT := fun σ H Q => t σ H fun x H1 => ∃ k, TruV K x H1 k ∧ Q k H1
/-- what is walked: a list, a tuple, a text -/
def wIt (K : PySem.W.Frag) (v : V) (H : Hp) (R : It → Hp → Prop) : Prop :=
  (∃ a, v = .ref a ∧ (∃ xs, SqL K H a xs) ∧ R (Itl K a) H) ∨ (∃ a, v = .ref a ∧ (∃ xs, SqT K H a xs) ∧ R (Itt K a) H) ∨ ∃ x, v = .str x ∧ R (Its x) H
def gIt (K : PySem.W.Frag) (t : TE) : TI := fun σ H R => t σ H fun v H1 => wIt K v H1 R
section
variable {X : Cx} {tg e : Expr} {te : TE}
theorem sl_g : SlR X (gSl X.K) := sl_list.or (sl_str.or sl_tup)
theorem pi_g (h : PE X e te) : PI X tg e (gIt X.K te) := by
  constructor
  intro pins s σ H R I q
  apply thn (h.run pins s σ H _ I q)
  rintro v s1 ⟨x, H1, I1, r1, ⟨a, rfl, ⟨xs, hq⟩, z⟩ | ⟨a, rfl, ⟨xs, hq⟩, z⟩ | ⟨x, rfl, z⟩⟩
  · cases r1
    obtain ⟨its, rv, p, _⟩ := I1.list hq
    have z0 : s1.heap.objs.size ≤ s1.heap.objs.size := Nat.le_refl _
    apply wpAny_pyIter_list p.isList
    refine ⟨s1.heap.objs.size, [s1.heap.objs.size], _, _, H1, rfl, I1.kept (t' := s1.toks) (fun b o q => Heap.get?_push_of_some _ q), turn_list a _, ⟨_, Heap.get?_push_size _ rfl, rfl, rfl⟩, ?_, z⟩
    intro b hb
    obtain rfl := List.mem_singleton.mp hb
    exact I1.fpOk z0 (I1.hok.fresh z0)
  · cases r1
    obtain ⟨its, rv, p, _⟩ := I1.tuple hq
    have z0 : s1.heap.objs.size ≤ s1.heap.objs.size := Nat.le_refl _
    apply wpAny_pyIter_tuple (show s1.heap.IsTuple a its.toArray from p)
    refine ⟨s1.heap.objs.size, [s1.heap.objs.size], _, _, H1, rfl, I1.kept (t' := s1.toks) (fun b o q => Heap.get?_push_of_some _ q), turn_tuple a _, ⟨_, Heap.get?_push_size _ rfl, rfl, rfl⟩, ?_, z⟩
    intro b hb
    obtain rfl := List.mem_singleton.mp hb
    exact I1.fpOk z0 (I1.hok.fresh z0)
  · obtain ⟨t, rfl⟩ := r1
    cases ha : x.cps.all (· < 128) with
    | false => exact wpAny_pyIter_wide ha (pi_one (tk := s1.toks) I1 _ (turn_str _ x t "str_iterator" (.inr rfl)) ⟨_, Heap.get?_push_size _ rfl, rfl, rfl⟩ z)
    | true => exact wpAny_pyIter_ascii ha (pi_one (tk := s1.toks) I1 _ (turn_str _ x t "str_ascii_iterator" (.inl rfl)) ⟨_, Heap.get?_push_size _ rfl, rfl, rfl⟩ z)
theorem pt_g (h : PE X e te) (he : ∀ whole, isTrue e X.env whole = (do let v ← whole; standAt e.pos; holding [v] (truthy v)) := by intro _; rfl) : PT X e (tTru X.K te) := pt_truth h he
end
section
variable {K : PySem.W.Frag} {D0 : Hp} {R : Res} {l : List (V × PyData)} {σ : St} {D : Ends} {Q : VK}
def kTru (K : PySem.W.Frag) (x : V) (H1 : Hp) (Qb : Bool → Hp → Prop) : Prop := ∃ c, TruV K x H1 c ∧ Qb c H1
def kTy (K : PySem.W.Frag) (T : String) (x : V) (H1 : Hp) (T' : Hp → Prop) : Prop := tyV K T x H1 ∧ T' H1
theorem d_and {t u : TT} {Qb : Bool → Hp → Prop} (k : RD K D0 R l (fun H => t σ H fun c H1 => if c = true then u σ H1 Qb else Qb false H1)) : RD K D0 R l (fun H => tAnd t u σ H Qb) := k
theorem d_or {t u : TT} {Qb : Bool → Hp → Prop} (k : RD K D0 R l (fun H => t σ H fun c H1 => if c = true then Qb true H1 else u σ H1 Qb)) : RD K D0 R l (fun H => tOr t u σ H Qb) := k
theorem d_not {t : TT} {Qb : Bool → Hp → Prop} (k : RD K D0 R l (fun H => t σ H fun c H1 => Qb (!c) H1)) : RD K D0 R l (fun H => tNot t σ H Qb) := k
theorem d_andV {t u : TE} (k : RD K D0 R l (fun H => t σ H fun x H1 => kBl x H1 fun c H2 => if c = true then u σ H2 Q else Q (.bl false) H2)) : RD K D0 R l (fun H => tAndV t u σ H Q) := k
theorem d_orV {t u : TE} (k : RD K D0 R l (fun H => t σ H fun x H1 => kBl x H1 fun c H2 => if c = true then Q (.bl true) H2 else u σ H2 Q)) : RD K D0 R l (fun H => tOrV t u σ H Q) := k
theorem d_notV {t : TE} (k : RD K D0 R l (fun H => t σ H fun x H1 => kBl x H1 fun c H2 => Q (.bl (!c)) H2)) : RD K D0 R l (fun H => tNotV t σ H Q) := k
theorem d_tru {t : TE} {Qb : Bool → Hp → Prop} (k : RD K D0 R l (fun H => t σ H fun x H1 => kTru K x H1 Qb)) : RD K D0 R l (fun H => tTru K t σ H Qb) := k
theorem d_truB {b : Bool} {Qb : Bool → Hp → Prop} (k : RD K D0 R l (Qb b)) : RD K D0 R l (fun H => kTru K (.bl b) H Qb) := fun N H A => ⟨b, rfl, k N H A⟩
theorem d_truL {x : V} {ds : List PyData} {Qb : Bool → Hp → Prop} (hx : InL l x (.list ds)) (k : RD K D0 R l (Qb (!ds.isEmpty))) : RD K D0 R l (fun H => kTru K x H Qb) := fun N H A => by
  obtain ⟨a, xs, rfl, ha, hd⟩ := (A.dt hx).list
  refine ⟨_, .inl ⟨xs, SqL.of (off_same a _ ha), ?_⟩, k N H A⟩
  cases hd <;> rfl
theorem d_bm {T : String} {r : V → List V → Hp → VK → Prop} {to : TE} {t : TA} (k : RD K D0 R l (fun H => to σ H fun x H1 => kTy K T x H1 fun H2 => t σ H2 fun xs H3 => r x xs H3 Q)) : RD K D0 R l (fun H => tBM K T r to t σ H Q) := k
theorem d_tyS {x : Str} {T' : Hp → Prop} (k : RD K D0 R l T') : RD K D0 R l (fun H => kTy K "str" (.str x) H T') := fun N H A => ⟨rfl, k N H A⟩
theorem d_tyO {a : Addr} {ds : List PyData} {T' : Hp → Prop} (k : RD K D0 (star (own K a ds) R) l T') : RD K D0 (star (own K a ds) R) l (fun H => kTy K "list" (.ref a) H T') := fun N H A => by
  obtain ⟨xs, hx, _⟩ := A.ownAt
  exact ⟨.inl ⟨rfl, xs, SqL.of hx⟩, k N H A⟩
theorem d_append {a : Addr} {ds : List PyData} {y : V} {d : PyData} (hy : InL l y d) (hz : ds.length < sizeLine) (k : RD K D0 (star (own K a (ds ++ [d])) R) l (Q .non)) : RD K D0 (star (own K a ds) R) l (fun H => rAppend (.ref a) [y] H Q) := fun N H A => by
  obtain ⟨xs, hx, hd⟩ := A.ownAt
  exact ⟨a, xs, y, rfl, rfl, hx, by rw [hd.len]; exact hz, k _ _ (A.setOwn (hd.append (.cons (A.dt hy) .nil)))⟩
theorem d_find3 {a b : Str} {i : Int} (k : RD K D0 R l (Q (.int (Txt.find3 a b i)))) : RD K D0 R l (fun H => gFind3 (.str a) [.str b, .int i] H Q) := fun N H A => ⟨a, b, i, rfl, rfl, k N H A⟩
theorem d_joinL {a : Str} {x : V} {ys : List Str} (hx : InL l x (.list (ys.map .str))) (hz : (ys.map (·.length)).sum + ys.length * a.length ≤ 16777216) (k : RD K D0 R l (Q (.str (Txt.join a ys)))) : RD K D0 R l (fun H => gJoin K (.str a) [x] H Q) := fun N H A => by
  obtain ⟨p, xs, rfl, ha, hd⟩ := (A.dt hx).list
  have e := hd.strs
  subst e
  exact ⟨a, p, ys, rfl, rfl, .inl (SqL.of (off_same p _ ha)), hz, k N H A⟩
/-- tuple(xs) of a list that may change, of a list, of a tuple -/
theorem d_tupleO {a : Addr} {ds : List PyData} (k : ∀ v, RD K D0 (star (own K a ds) R) ((v, .tuple ds) :: l) (Q v)) : RD K D0 (star (own K a ds) R) l (fun H => gTuple K [.ref a] H Q) := fun N H A => by
  obtain ⟨xs, hx, hd⟩ := A.ownAt
  refine ⟨a, xs, rfl, .inl ⟨SqL.of hx, fun p hp => ?_⟩⟩
  obtain ⟨A', e⟩ := A.new (.tup xs) hp
  obtain ⟨xs', hx', hd'⟩ := A'.ownAt
  rw [upd_ne (ne_of_none hx hp), hx] at hx'
  cases hx'
  exact k _ N _ (A'.facts (.tup (.inl (.inl e)) hd'))
theorem d_tupleL {x : V} {ds : List PyData} (hx : InL l x (.list ds)) (k : ∀ v, RD K D0 R ((v, .tuple ds) :: l) (Q v)) : RD K D0 R l (fun H => gTuple K [x] H Q) := fun N H A => by
  obtain ⟨a, xs, rfl, ha, hd⟩ := (A.dt hx).list
  have ha' := off_same a _ ha
  refine ⟨a, xs, rfl, .inl ⟨SqL.of ha', fun p hp => ?_⟩⟩
  obtain ⟨A', e⟩ := A.new (.tup xs) hp
  obtain ⟨a', xs', ea, hx', hd'⟩ := (A'.dt hx).list
  cases ea
  have z := off_same a _ hx'
  rw [upd_ne (ne_of_none ha' hp), ha'] at z
  cases z
  exact k _ N _ (A'.facts (.tup (.inl (.inl e)) hd'))

/-! ### walks -/
theorem d_gIt {t : TE} {Ri : It → Hp → Prop} (k : RD K D0 R l (fun H => t σ H fun v H1 => wIt K v H1 Ri)) : RD K D0 R l (fun H => gIt K t σ H Ri) := k
theorem d_forStr {g : TG} {tb : TS} {x : Str} (P : Nat → Res → St → List (V × PyData) → Prop) (h0 : P 0 R σ l)
    (hs : ∀ i c R' σ' l', x.cps.toList[i]? = some c → P i R' σ' l' → RD K D0 R' l' (fun H => g (.str ⟨#[c]⟩) σ' H fun σ2 H2 => tb { D with nx := Cont K D0 (P (i + 1)), ct := Cont K D0 (P (i + 1)), bk := D.nx } σ2 H2))
    (hd : ∀ R' σ' l', P x.cps.toList.length R' σ' l' → RD K D0 R' l' (fun H => D.nx σ' H)) :
    RD K D0 R l (fun H => wIt K (.str x) H fun J H1 => ForK g tb D σ J H1) := fun N H A => by
  refine .inr (.inr ⟨x, rfl, fun i m σ H => m = x.cps.size - i ∧ i ≤ x.cps.size ∧ Cont K D0 (P i) σ H, ⟨_, rfl, Nat.zero_le _, R, l, N, h0, A⟩, ?_⟩)
  rintro i m σ' H' ⟨rfl, hi, c⟩
  by_cases hlt : i < x.cps.size
  · refine .inr ⟨hlt, Cont K D0 (P (i + 1)), fun σ2 H2 p => ⟨x.cps.size - (i + 1), by omega, rfl, hlt, p⟩, ?_⟩
    rintro v H2 ⟨rfl, c', hc, rfl⟩
    obtain ⟨R', l', N', p, A'⟩ := c
    exact hs i c' R' σ' l' (by rw [Array.getElem?_toList]; exact hc) p N' _ A'
  · have e : i = x.cps.size := by omega
    obtain ⟨R', l', N', p, A'⟩ := c
    exact .inl ⟨(show x.cps.size ≤ i by omega), hd R' σ' l' (by rw [Array.length_toList, ← e]; exact p) N' H' A'⟩
theorem d_forList {g : TG} {tb : TS} {v : V} {ds : List PyData} (hv : InL l v (.list ds)) (P : Nat → Res → St → List (V × PyData) → Prop) (hkeep : ∀ i R' σ' l', P i R' σ' l' → InL l' v (.list ds)) (h0 : P 0 R σ l)
    (hs : ∀ i d x R' σ' l', ds[i]? = some d → Dv x d → P i R' σ' l' → RD K D0 R' ((x, d) :: l') (fun H => g x σ' H fun σ2 H2 => tb { D with nx := Cont K D0 (P (i + 1)), ct := Cont K D0 (P (i + 1)), bk := D.nx } σ2 H2))
    (hd : ∀ R' σ' l', P ds.length R' σ' l' → RD K D0 R' l' (fun H => D.nx σ' H)) :
    RD K D0 R l (fun H => wIt K v H fun J H1 => ForK g tb D σ J H1) := fun N H A => by
  obtain ⟨a, xs, rfl, ha, hd0⟩ := (A.dt hv).list
  have hl : ∀ {i R' σ' l' N' H'}, P i R' σ' l' → At K D0 R' l' N' H' → ∃ xs', SqL K H' a xs' ∧ DtAll K (off H' N') xs' ds := fun p A' => by
    obtain ⟨a', xs', e, h', d'⟩ := (A'.dt (hkeep _ _ _ _ p)).list
    cases e
    exact ⟨xs', SqL.of (off_same _ _ h'), d'⟩
  have uniq : ∀ {H' : Hp} {ys zs : List V}, SqL K H' a ys → H' a = some (.lst zs) → True := fun _ _ => trivial
  refine .inl ⟨a, rfl, ⟨xs, SqL.of (off_same _ _ ha)⟩, fun i m σ H => m = ds.length - i ∧ i ≤ ds.length ∧ Cont K D0 (P i) σ H, ⟨_, rfl, Nat.zero_le _, R, l, N, h0, A⟩, ?_⟩
  rintro i m σ' H' ⟨rfl, hi, R', l', N', p, A'⟩
  obtain ⟨xs', hq, d'⟩ := hl p A'
  by_cases hlt : i < ds.length
  · have hx : i < xs'.length := by rw [d'.len]; exact hlt
    refine .inr ⟨⟨xs', xs'[i], hq, by simp [hx]⟩, Cont K D0 (P (i + 1)), fun σ2 H2 p => ⟨ds.length - (i + 1), by omega, rfl, hlt, p⟩, ?_⟩
    rintro x H2 ⟨rfl, hy⟩
    obtain ⟨d, e1, e2⟩ := d'.get (hy xs' hq)
    exact hs i d x R' σ' l' e1 e2.dv p N' _ (A'.facts e2)
  · have e : i = ds.length := by omega
    subst e
    exact .inl ⟨⟨xs', hq, by rw [d'.len]; exact Nat.le_refl _⟩, hd R' σ' l' p N' H' A'⟩
theorem d_forTup {g : TG} {tb : TS} {v : V} {ds : List PyData} (hv : InL l v (.tuple ds)) (P : Nat → Res → St → List (V × PyData) → Prop) (hkeep : ∀ i R' σ' l', P i R' σ' l' → InL l' v (.tuple ds)) (h0 : P 0 R σ l)
    (hs : ∀ i d x R' σ' l', ds[i]? = some d → Dv x d → P i R' σ' l' → RD K D0 R' ((x, d) :: l') (fun H => g x σ' H fun σ2 H2 => tb { D with nx := Cont K D0 (P (i + 1)), ct := Cont K D0 (P (i + 1)), bk := D.nx } σ2 H2))
    (hd : ∀ R' σ' l', P ds.length R' σ' l' → RD K D0 R' l' (fun H => D.nx σ' H)) :
    RD K D0 R l (fun H => wIt K v H fun J H1 => ForK g tb D σ J H1) := fun N H A => by
  obtain ⟨a, xs, rfl, ha, hd0⟩ := (A.dt hv).tuple
  have hl : ∀ {i R' σ' l' N' H'}, P i R' σ' l' → At K D0 R' l' N' H' → ∃ xs', SqT K H' a xs' ∧ DtAll K (off H' N') xs' ds := fun p A' => by
    obtain ⟨a', xs', e, h', d'⟩ := (A'.dt (hkeep _ _ _ _ p)).tuple
    cases e
    exact ⟨xs', same_sqT off_same h', d'⟩
  refine .inr (.inl ⟨a, rfl, ⟨xs, same_sqT off_same ha⟩, fun i m σ H => m = ds.length - i ∧ i ≤ ds.length ∧ Cont K D0 (P i) σ H, ⟨_, rfl, Nat.zero_le _, R, l, N, h0, A⟩, ?_⟩)
  rintro i m σ' H' ⟨rfl, hi, R', l', N', p, A'⟩
  obtain ⟨xs', hq, d'⟩ := hl p A'
  by_cases hlt : i < ds.length
  · have hx : i < xs'.length := by rw [d'.len]; exact hlt
    refine .inr ⟨⟨xs', xs'[i], hq, by simp [hx]⟩, Cont K D0 (P (i + 1)), fun σ2 H2 p => ⟨ds.length - (i + 1), by omega, rfl, hlt, p⟩, ?_⟩
    rintro x H2 ⟨rfl, hy⟩
    obtain ⟨d, e1, e2⟩ := d'.get (hy xs' hq)
    exact hs i d x R' σ' l' e1 e2.dv p N' _ (A'.facts e2)
  · have e : i = ds.length := by omega
    subst e
    exact .inl ⟨⟨xs', hq, by rw [d'.len]; exact Nat.le_refl _⟩, hd R' σ' l' p N' H' A'⟩
/-- name += e -/
theorem d_aug {i : Nat} {v : V} {te : TE} {ti : TIp} (h : σ[i]? = some (some v)) (k : RD K D0 R l (fun H => te σ H fun y H1 => ti v y H1 fun z H2 => D.nx (σ.set i (some z)) H2)) : RD K D0 R l (fun H => tAug i te ti D σ H) := fun N H A => ⟨v, h, k N H A⟩
theorem d_ipI {f : Int → Int → Int} {i j : Int} (k : RD K D0 R l (Q (.int (f i j)))) : RD K D0 R l (fun H => ipI f (.int i) (.int j) H Q) := fun N H A => ⟨i, j, rfl, rfl, k N H A⟩
theorem d_set {i : Nat} {v : V} {σ' : St} {Qn : St → Hp → Prop} (e : σ.set i (some v) = σ') (k : RD K D0 R l (Qn σ')) : RD K D0 R l (fun H => Qn (σ.set i (some v)) H) := by subst e; exact k

/-! ### comprehensions -/
def LcK (g : TG) (tt : TT) (te : TE) (vs : List Nat) (σ : St) (Q : VK) (J : It) (H1 : Hp) : Prop := ∀ D, H1 D = none → ∃ W : Nat → Nat → Hp → Prop, (∃ m, W 0 m (upd H1 D (.lst []))) ∧ ∀ i m H, W i m H →
  (J.stop i H ∧ Q (.ref D) H) ∨ (J.go i H ∧ ∃ Nx : Hp → Prop, (∀ H', Nx H' → ∃ m', m' < m ∧ W (i + 1) m' H') ∧ ∀ x H', J.yld i H x H' → g x (wipe σ vs) H' fun σ2 H2 => wipe σ2 vs = wipe σ vs ∧ tt σ2 H2 fun b H3 =>
    if b = true then te σ2 H3 fun y H4 => ∃ acc, H4 D = some (.lst acc) ∧ acc.length < sizeLine ∧ Nx (upd H4 D (.lst (acc ++ [y]))) else Nx H3)
def kWipe (σ2 : St) (vs : List Nat) (σ : St) (H : Hp) (T : Hp → Prop) : Prop := wipe σ2 vs = wipe σ vs ∧ T H
def kItem (D : Addr) (y : V) (H4 : Hp) (Nx : Hp → Prop) : Prop := ∃ acc, H4 D = some (.lst acc) ∧ acc.length < sizeLine ∧ Nx (upd H4 D (.lst (acc ++ [y])))
/-- a turn of a comprehension; what is made so far stands at D -/
def ContC (K : PySem.W.Frag) (D0 : Hp) (D : Addr) (P : Res → List (V × PyData) → List PyData → Prop) : Hp → Prop := fun H => ∃ R l es N, P R l es ∧ At K D0 (star (own K D es) R) l N H
theorem d_lc {wi : TI} {g : TG} {tt : TT} {te : TE} {vs : List Nat} (k : RD K D0 R l (fun H => wi σ H fun J H1 => LcK g tt te vs σ Q J H1)) : RD K D0 R l (fun H => tLc wi g tt te vs σ H Q) := k
/-- the turn's new item -/
theorem d_item {D : Addr} {es : List PyData} {y : V} {d : PyData} {P : Res → List (V × PyData) → List PyData → Prop} {l' : List (V × PyData)} (hy : InL l y d) (hz : es.length < sizeLine) (h : P R l' (es ++ [d])) (s : ∀ p ∈ l', InL l p.1 p.2) :
    RD K D0 (star (own K D es) R) l (fun H => kItem D y H (ContC K D0 D P)) := fun N H A => by
  obtain ⟨xs, hx, hd⟩ := A.ownAt
  refine ⟨xs, hx, by rw [hd.len]; exact hz, R, l', es ++ [d], N, h, ?_⟩
  exact (A.setOwn (hd.append (.cons (A.dt hy) .nil))).weak s
theorem d_noItem {D : Addr} {es : List PyData} {P : Res → List (V × PyData) → List PyData → Prop} {l' : List (V × PyData)} (h : P R l' es) (s : ∀ p ∈ l', InL l p.1 p.2) : RD K D0 (star (own K D es) R) l (ContC K D0 D P) :=
  fun N H A => ⟨R, l', es, N, h, A.weak s⟩
theorem d_lcRange {lo : Int} {n : Nat} {g : TG} {tt : TT} {te : TE} {vs : List Nat} (P : Nat → Res → List (V × PyData) → List PyData → Prop) (h0 : P 0 R l [])
    (hs : ∀ i D R' l' es, i < n → P i R' l' es → RD K D0 (star (own K D es) R') l' (fun H => g (.int (lo + i)) (wipe σ vs) H fun σ2 H2 => kWipe σ2 vs σ H2 fun H2 => tt σ2 H2 fun b H3 =>
      if b = true then te σ2 H3 fun y H4 => kItem D y H4 (ContC K D0 D (P (i + 1))) else ContC K D0 D (P (i + 1)) H3))
    (hd : ∀ v R' l' es, P n R' l' es → RD K D0 R' ((v, .list es) :: l') (Q v)) :
    RD K D0 R l (fun H => LcK g tt te vs σ Q (Itr lo n) H) := fun N H A D hD => by
  refine lc_range (Qd := Q (.ref D)) (fun i => ContC K D0 D (P i)) ⟨R, l, [], _, h0, A.newOwn hD .nil⟩ ?_ ?_
  · rintro i H' hi ⟨R', l', es, N', p, A'⟩
    exact hs i D R' l' es hi p N' H' A'
  · rintro H' ⟨R', l', es, N', p, A'⟩
    obtain ⟨N2, A2⟩ := A'.freeze
    exact hd (.ref D) R' l' es p N2 H' A2
theorem d_lcStr {x : Str} {g : TG} {tt : TT} {te : TE} {vs : List Nat} (P : Nat → Res → List (V × PyData) → List PyData → Prop) (h0 : P 0 R l [])
    (hs : ∀ i c D R' l' es, x.cps.toList[i]? = some c → P i R' l' es → RD K D0 (star (own K D es) R') l' (fun H => g (.str ⟨#[c]⟩) (wipe σ vs) H fun σ2 H2 => kWipe σ2 vs σ H2 fun H2 => tt σ2 H2 fun b H3 =>
      if b = true then te σ2 H3 fun y H4 => kItem D y H4 (ContC K D0 D (P (i + 1))) else ContC K D0 D (P (i + 1)) H3))
    (hd : ∀ v R' l' es, P x.cps.toList.length R' l' es → RD K D0 R' ((v, .list es) :: l') (Q v)) :
    RD K D0 R l (fun H => wIt K (.str x) H fun J H1 => LcK g tt te vs σ Q J H1) := fun N H A => by
  refine .inr (.inr ⟨x, rfl, fun D hD => ⟨fun i m H => m = x.cps.size - i ∧ i ≤ x.cps.size ∧ ContC K D0 D (P i) H, ⟨_, rfl, Nat.zero_le _, R, l, [], _, h0, A.newOwn hD .nil⟩, ?_⟩⟩)
  rintro i m H' ⟨rfl, hi, R', l', es, N', p, A'⟩
  by_cases hlt : i < x.cps.size
  · refine .inr ⟨hlt, ContC K D0 D (P (i + 1)), fun H2 p => ⟨x.cps.size - (i + 1), by omega, rfl, hlt, p⟩, ?_⟩
    rintro v H2 ⟨rfl, c', hc, rfl⟩
    exact hs i c' D R' l' es (by rw [Array.getElem?_toList]; exact hc) p N' _ A'
  · have e : i = x.cps.size := by omega
    obtain ⟨N2, A2⟩ := A'.freeze
    exact .inl ⟨(show x.cps.size ≤ i by omega), hd (.ref D) R' l' es (by rw [Array.length_toList, ← e]; exact p) N2 H' A2⟩
theorem d_wipe {σ2 : St} {vs : List Nat} {T : Hp → Prop} (e : wipe σ2 vs = wipe σ vs) (k : RD K D0 R l T) : RD K D0 R l (fun H => kWipe σ2 vs σ H T) := fun N H A => ⟨e, k N H A⟩
theorem d_yes {Qb : Bool → Hp → Prop} (k : RD K D0 R l (Qb true)) : RD K D0 R l (fun H => tYes σ H Qb) := k
end
end GL

/-! G5: what functions promise; the pen. -/
namespace GL
open PySem PySem.Spec L2
section
variable {K : PySem.W.Frag} {D0 : Hp} {R S : Res} {l : List (V × PyData)} {σ : St} {D : Ends} {Q : VK} {T : Hp → Prop}
/-! ### items of a list that may change -/
theorem d_ixO {a : Addr} {i : Int} {ds : List PyData} {d : PyData} (hi : atI ds i = some d) (k : ∀ v, Dv v d → RD K D0 (star (own K a ds) R) ((v, d) :: l) (Q v)) : RD K D0 (star (own K a ds) R) l (fun H => rIx K (.ref a) (.int i) H Q) := fun N H A => by
  obtain ⟨xs, hx, hd⟩ := A.ownAt
  obtain ⟨v, hv, dv⟩ := hd.atI hi
  exact .inl ⟨a, xs, i, v, rfl, rfl, SqL.of hx, hv, k v dv.dv N H (A.facts dv)⟩
theorem d_setO {a : Addr} {i : Int} {j : Nat} {ds : List PyData} {v : V} {d : PyData} {Qs : Hp → Prop} (hv : InL l v d) (hj : ixN ds.length i = some j) (k : RD K D0 (star (own K a (ds.set j d)) R) l Qs) : RD K D0 (star (own K a ds) R) l (fun H => rSetL (.ref a) (.int i) v H Qs) := fun N H A => by
  obtain ⟨xs, hx, hd⟩ := A.ownAt
  refine ⟨a, xs, i, j, rfl, rfl, hx, by rw [hd.len]; exact hj, k _ _ (A.setOwn (hd.set j (A.dt hv)))⟩
theorem d_gSub {to ti : TE} {ts : V → V → V → Hp → (Hp → Prop) → Prop} {v : V} {Qn : St → Hp → Prop} (k : RD K D0 R l (fun H => to σ H fun o H1 => ti σ H1 fun i H2 => ts o i v H2 fun H3 => Qn σ H3)) : RD K D0 R l (fun H => gSub to ti ts v σ H Qn) := k
theorem RD.forget {v : V} {d : PyData} (k : RD K D0 R l T) : RD K D0 R ((v, d) :: l) T := RD.weak (fun p hp => .mem (List.mem_cons_of_mem _ hp)) k

theorem depth_ints (ns : List Int) : (PyData.list (ns.map PyData.int)).depth ≤ 60 := by
  simp only [PyData.depth]
  have h : PyData.depthAll (ns.map PyData.int) = 0 := by
    induction ns with
    | nil => simp only [List.map_nil, PyData.depthAll]
    | cons n ns ih => simp only [List.map_cons, PyData.depthAll, PyData.depth, ih]; rfl
  omega
theorem RD.dv {v : V} {d : PyData} (k : Dv v d → RD K D0 R ((v, d) :: l) T) : RD K D0 R ((v, d) :: l) T := fun N H A => k ((A.f _ List.mem_cons_self).dv) N H A
/-! ### promises -/
/-- a function over data -/
def spPure (K : PySem.W.Frag) (n : Nat) (pre : List PyData → Prop) (post : List PyData → PyData → Prop) : Sp := fun vs H Q _ => ∃ D0 F l N ds, At K D0 F l N H ∧ InLs l vs ds ∧ ds.length = n ∧ pre ds ∧
  ∀ v d, post ds d → Dv v d → RD K D0 F ((v, d) :: l) (Q v)
theorem InL.weak {l l' : List (V × PyData)} {v : V} {d : PyData} (h : InL l v d) (s : ∀ p ∈ l, InL l' p.1 p.2) : InL l' v d := by
  cases h with
  | non => exact .non
  | bl b => exact .bl b
  | int i => exact .int i
  | str x => exact .str x
  | mem h => exact s _ h
theorem InL.tail {l : List (V × PyData)} {p : V × PyData} {v : V} {d : PyData} (h : InL l v d) : InL (p :: l) v d := h.weak fun q hq => .mem (List.mem_cons_of_mem _ hq)
theorem sub_refl {l : List (V × PyData)} : ∀ p ∈ l, InL l p.1 p.2 := fun p hp => .mem hp
theorem sub_nil {l : List (V × PyData)} : ∀ p ∈ ([] : List (V × PyData)), InL l p.1 p.2 := fun p hp => absurd hp List.not_mem_nil
theorem sub_tail {l l' : List (V × PyData)} {q : V × PyData} (h : ∀ p ∈ l', InL l p.1 p.2) : ∀ p ∈ l', InL (q :: l) p.1 p.2 := fun p hp => (h p hp).tail
theorem sub_cons {l l' : List (V × PyData)} {v : V} {d : PyData} (h : InL l v d) (t : ∀ p ∈ l', InL l p.1 p.2) : ∀ p ∈ (v, d) :: l', InL l p.1 p.2 := fun p hp => by
  rcases List.mem_cons.mp hp with rfl | hp
  · exact h
  · exact t p hp
theorem InLs.weak {l l' : List (V × PyData)} {vs : List V} {ds : List PyData} (h : InLs l vs ds) (s : ∀ p ∈ l, InL l' p.1 p.2) : InLs l' vs ds := by
  induction h with
  | nil => exact .nil
  | cons h _ ih => exact .cons (h.weak s) ih
theorem InLs.len {vs : List V} {ds : List PyData} (h : InLs l vs ds) : vs.length = ds.length := by
  induction h with
  | nil => rfl
  | cons _ _ ih => exact congrArg Nat.succ ih
theorem d_pure {n : Nat} {pre : List PyData → Prop} {post : List PyData → PyData → Prop} {vs : List V} {E : XK} (ds : List PyData) (hv : InLs l vs ds) (hn : ds.length = n) (hp : pre ds)
    (k : ∀ v d, post ds d → Dv v d → RD K D0 R ((v, d) :: l) (Q v)) : RD K D0 R l (fun H => spPure K n pre post vs H Q E) := fun N H A => ⟨D0, R, l, N, ds, A, hv, hn, hp, k⟩
/-- the pen: a list of a list of ints and two ints -/
def pen (K : PySem.W.Frag) (p : Addr) : Res where
  h := fun N D H => ∃ (ns : List Int) (i st : Int), (own K p [.list (ns.map .int), .int i, .int st]).h N D H
  st := by
    rintro N D D' H H' ⟨ns, i, st, h⟩ d k
    exact ⟨ns, i, st, (own K p _).st h d k⟩
theorem RD.openPen {p : Addr} (k : ∀ (ns : List Int) (i st : Int), RD K D0 (star (own K p [.list (ns.map .int), .int i, .int st]) R) l T) : RD K D0 (star (pen K p) R) l T := fun N H A => by
  obtain ⟨N1, N2, e, dj, ⟨ns, i, st, h⟩, h2⟩ := A.r
  exact k ns i st N H ⟨A.nt, ⟨N1, N2, e, dj, h, h2⟩, A.d0, A.f⟩
theorem RD.closePen {p : Addr} {ns : List Int} {i st : Int} (k : RD K D0 (star (pen K p) R) l T) : RD K D0 (star (own K p [.list (ns.map .int), .int i, .int st]) R) l T :=
  RD.res (fun {N D H} h => by
    obtain ⟨N1, N2, e, dj, h1, h2⟩ := h
    exact ⟨N1, N2, e, dj, ⟨ns, i, st, h1⟩, h2⟩) k
/-- a function that draws -/
def spPen (K : PySem.W.Frag) (n : Nat) (pre : List PyData → Prop) (post : List PyData → PyData → Prop) : Sp := fun vs H Q _ => ∃ p ws D0 F l N ds, vs = .ref p :: ws ∧ At K D0 (star (pen K p) F) l N H ∧ InLs l ws ds ∧ ds.length = n ∧ pre ds ∧
  ∀ v d, post ds d → Dv v d → RD K D0 (star (pen K p) F) ((v, d) :: l) (Q v)
theorem d_pen {p : Addr} {n : Nat} {pre : List PyData → Prop} {post : List PyData → PyData → Prop} {ws : List V} {E : XK} (ds : List PyData) (hv : InLs l ws ds) (hn : ds.length = n) (hp : pre ds)
    (k : ∀ v d, post ds d → Dv v d → RD K D0 (star (pen K p) R) ((v, d) :: l) (Q v)) : RD K D0 (star (pen K p) R) l (fun H => spPen K n pre post (.ref p :: ws) H Q E) := fun N H A => ⟨p, ws, D0, R, l, N, ds, rfl, A, hv, hn, hp, k⟩
theorem d_pen2 {p : Addr} {n : Nat} {pre : List PyData → Prop} {post : List PyData → PyData → Prop} {ws : List V} {E : XK} (ds : List PyData) (hv : InLs l ws ds) (hn : ds.length = n) (hp : pre ds)
    (k : ∀ v d, post ds d → Dv v d → RD K D0 (star S (star (pen K p) R)) ((v, d) :: l) (Q v)) : RD K D0 (star S (star (pen K p) R)) l (fun H => spPen K n pre post (.ref p :: ws) H Q E) :=
  RD.rot (d_pen ds hv hn hp fun v d h1 h2 => RD.rot (k v d h1 h2))
end

local macro_rules | `(tactic| walk_at "mem") => `(tactic| (first | exact List.Mem.head _ | exact List.Mem.tail _ (List.Mem.head _) | exact List.Mem.tail _ (List.Mem.tail _ (List.Mem.head _)) | ((repeat (first | exact List.Mem.head _ | apply List.Mem.tail)); done)))
local macro_rules | `(tactic| walk_at "inl") => `(tactic| (first | exact InL.int _ | exact InL.str _ | exact InL.bl _ | exact InL.non | (refine InL.mem ?zm; walk_at "mem") | assumption))
local macro_rules | `(tactic| walk_at "inls") => `(tactic| (repeat (first | exact InLs.nil | (refine InLs.cons ?zi ?_; case zi => walk_at "inl"))))
local macro_rules | `(tactic| walk_at "set") => `(tactic| (simp only [wipe, List.set_cons_succ, List.set_cons_zero]; rfl))
local macro_rules | `(tactic| walk_at "tails") => `(tactic| (first | exact sub_refl | exact sub_tail sub_refl | exact sub_tail (sub_tail sub_refl) | exact sub_nil | ((repeat (first | exact sub_refl | apply sub_tail)); done)))
local macro_rules | `(tactic| walk_at "sub") => `(tactic| (first | walk_at "tails" | ((repeat (refine sub_cons ?zi ?_; case zi => walk_at "inl")); walk_at "tails")))
local macro_rules | `(tactic| walk_at "g1") => `(tactic| (first
  | with_reducible refine d_seq ?_
  | with_reducible refine d_asg ?_
  | ((with_reducible refine d_name (σ' := ?zs) ?zh ?_); (case zh => walk_at "set"))
  | ((with_reducible refine d_var (v := ?zs) ?zh ?_); (case zh => rfl))
  | with_reducible refine d_C ?_
  | with_reducible refine d_op ?_
  | with_reducible refine d_cons ?_
  | with_reducible refine d_nil ?_
  | with_reducible refine d_cb ?_
  | with_reducible refine d_g ?_
  | with_reducible refine d_ifS ?_
  | with_reducible refine d_test ?_
  | with_reducible refine d_bl ?_
  | with_reducible refine d_addI ?_
  | with_reducible refine d_I0 ?_
  | with_reducible refine d_ret ?_
  | with_reducible refine d_retN ?_
  | with_reducible refine d_next ?_
  | with_reducible refine d_drop ?_
  | with_reducible refine d_and ?_
  | with_reducible refine d_or ?_
  | with_reducible refine d_not ?_
  | with_reducible refine d_andV ?_
  | with_reducible refine d_orV ?_
  | with_reducible refine d_notV ?_
  | with_reducible refine d_tru ?_
  | with_reducible refine d_truB ?_
  | with_reducible refine d_tif ?_
  | with_reducible refine d_iteT ?_
  | with_reducible refine d_iteF ?_
  | with_reducible refine d_iteNT ?_
  | with_reducible refine d_iteNF ?_
  | with_reducible refine d_eqI ?_
  | with_reducible refine d_neI ?_
  | with_reducible refine d_eqS ?_
  | with_reducible refine d_neS ?_
  | with_reducible refine d_eqB ?_
  | with_reducible refine d_neB ?_
  | with_reducible refine d_isN ?_
  | with_reducible refine d_notN ?_
  | with_reducible refine d_bm ?_
  | with_reducible refine d_tyS ?_
  | with_reducible refine d_tyO ?_
  | with_reducible refine d_find3 ?_
  | with_reducible refine d_tup ?_
  | with_reducible refine d_lst ?_
  | with_reducible refine d_for ?_
  | with_reducible refine d_iRng1 ?_
  | with_reducible refine d_gIt ?_
  | with_reducible refine d_lc ?_
  | with_reducible refine d_yes ?_
  | with_reducible refine d_tSl ?_
  | with_reducible refine d_noPart ?_
  | with_reducible refine d_part ?_
  | with_reducible refine d_int ?_
  | ((with_reducible refine d_wipe ?zh ?_); (case zh => rfl))
  | ((with_reducible refine d_aug (v := ?zs) ?zh ?_); (case zh => rfl))
  | with_reducible refine d_ipI ?_
  | ((with_reducible refine d_set (σ' := ?zs) ?zh ?_); (case zh => walk_at "set"))))
local macro_rules | `(tactic| walk_at "go") => `(tactic| (repeat walk_at "g1"))
/-! ### _law_fresh, _law_draw -/
def sp__law_fresh (K : PySem.W.Frag) : Sp := spPen K 0 (fun _ => True) (fun _ d => ∃ n : Int, d = .int n)
def sp__law_draw (K : PySem.W.Frag) : Sp := spPen K 1 (fun ds => ∃ m : Int, ds = [.int m] ∧ 0 < m ∧ m < 1073741824) (fun ds d => ∃ m n : Int, ds = [.int m] ∧ d = .int n ∧ 0 ≤ n ∧ n < m)
def t__law_fresh (K : PySem.W.Frag) (W : WX) : TS := (tSeq (tAsg (tOp (rIx K) (tVar 0) (tC (.int 1))) (gName 1))
  (tSeq (tAsg (tOp (gAdd K) (tVar 1) (tC (.int 1))) (gSub (tVar 0) (tC (.int 1)) rSetL))
  (tSeq (tAsg (tC (.int 0)) (gName 2))
  (tSeq (tIfS (tTest (tOp (gNe K) (tOp (rIx K) (tVar 0) (tC (.int 0))) (tLst tNil))) (tAsg (tOp (rIx K) (tOp (rIx K) (tVar 0) (tC (.int 0))) (tOp gMod (tVar 1) (tCB (gLen K) (tCons (tOp (rIx K) (tVar 0) (tC (.int 0))) tNil)))) (gName 2)) tNext)
  (tSeq (tIfS (tAnd (tTest (tOp gLt (tVar 1) (tCB (gLen K) (tCons (tOp (rIx K) (tVar 0) (tC (.int 0))) tNil)))) (tTest (tOp gGe (tVar 2) (tOp gPow (tC (.int 10)) (tC (.int 18)))))) (tRet (tOp gSub' (tVar 2) (tOp gPow (tC (.int 10)) (tC (.int 18))))) tNext)
  (tSeq (tAsg (tC (.int 2305843009213693951)) (gName 3))
  (tSeq (tAsg (tOp gMod (tOp (gAdd K) (tOp (gAdd K) (tOp gMul (tVar 2) (tC (.int 48271))) (tOp gMul (tC (.int 40692)) (tVar 1))) (tC (.int 31))) (tVar 3)) (gName 4))
  (tSeq (tAsg (tVar 4) (gName 5))
  (tSeq (tFor (iRng1 (tCons (tC (.int 6)) tNil)) (gName 6) (tSeq (tAsg (tOp gMod (tOp (gAdd K) (tOp (gAdd K) (tOp gMul (tVar 4) (tVar 4)) (tOp gMul (tOp gMul (tC (.int 69621)) (tOp (gAdd K) (tVar 6) (tC (.int 1)))) (tOp (gAdd K) (tVar 1) (tC (.int 1))))) (tVar 2)) (tVar 3)) (gName 4))
  (tAsg (tOp (gAdd K) (tOp gMul (tVar 5) (tVar 3)) (tVar 4)) (gName 5))))
  (tRet (tVar 5)))))))))))
def t__law_draw (K : PySem.W.Frag) (W : WX) : TS := (tSeq (tIfS (tTest (tOp gLt (tOp (rIx K) (tVar 0) (tC (.int 2))) (tVar 1))) (tAsg (tG (sp__law_fresh K) W (tCons (tVar 0) tNil)) (gSub (tVar 0) (tC (.int 2)) rSetL)) tNext)
  (tSeq (tAsg (tOp gMod (tOp (rIx K) (tVar 0) (tC (.int 2))) (tVar 1)) (gName 2))
  (tSeq (tAsg (tOp gFdiv (tOp (rIx K) (tVar 0) (tC (.int 2))) (tVar 1)) (gSub (tVar 0) (tC (.int 2)) rSetL))
  (tRet (tVar 2)))))
section
variable {K : PySem.W.Frag} {W : WX}
theorem InLs.nil_of {l : List (V × PyData)} {vs : List V} (h : InLs l vs []) : vs = [] := by cases h; rfl
theorem InLs.int1 {l : List (V × PyData)} {A : List V} {K : PySem.W.Frag} {D0 : Hp} {R : Res} {N : Addr → Prop} {H : Hp} {m : Int} (at_ : At K D0 R l N H) (h : InLs l A [.int m]) : A = [.int m] := by
  cases h with
  | cons h t => cases t; have z := (at_.dt h).dv; cases z; rfl
theorem pure__law_draw {vs : List V} {H : Hp} {Q : VK} {E : XK} (h : sp__law_draw K vs H Q E) : t__law_draw K W { nx := fun _ H' => Q .non H', rt := Q } (start ["pen", "many", "digit"] vs) H := by
  obtain ⟨p, ws, D0, F, l, N, ds, rfl, A, hv, hn, ⟨m, rfl, m0, m1⟩, k⟩ := h
  obtain rfl := InLs.int1 A hv
  refine (?_ : RD K D0 (star (pen K p) F) l (fun H => t__law_draw K W _ [some (.ref p), some (.int m), none] H)) N H A
  unfold t__law_draw
  refine RD.openPen fun ns i st => ?_
  walk_at "go"
  refine d_ixO (d := .int st) (by rfl) fun v hv => ?_
  cases hv
  walk_at "go"
  -- the last three steps, from any rest
  have fin : ∀ (ns : List Int) (i st : Int) (l' : List (V × PyData)), (∀ q ∈ l, InL l' q.1 q.2) → RD K D0 (star (own K p [.list (ns.map .int), .int i, .int st]) F) l'
      (fun H => tSeq (tAsg (tOp gMod (tOp (rIx K) (tVar 0) (tC (.int 2))) (tVar 1)) (gName 2)) (tSeq (tAsg (tOp gFdiv (tOp (rIx K) (tVar 0) (tC (.int 2))) (tVar 1)) (gSub (tVar 0) (tC (.int 2)) rSetL)) (tRet (tVar 2))) { nx := fun _ H' => Q .non H', rt := Q } [some (.ref p), some (.int m), none] H) := by
    intro ns i st l' hl
    walk_at "go"
    refine d_ixO (d := .int st) (by rfl) fun v hv => ?_
    cases hv
    walk_at "go"
    refine d_I m0 ?_
    walk_at "go"
    refine d_ixO (d := .int st) (by rfl) fun v hv => ?_
    cases hv
    walk_at "go"
    refine d_I ⟨m0, m1⟩ ?_
    refine d_gSub ?_
    walk_at "go"
    refine d_setO (j := 2) (.int _) (by rfl) ?_
    walk_at "go"
    refine RD.closePen (ns := ns) (i := i) (st := st / m) ?_
    refine RD.weak ?_ (k (.int (st % m)) (.int (st % m)) ⟨m, _, rfl, rfl, Int.emod_nonneg _ (by omega), Int.emod_lt_of_pos _ m0⟩ rfl)
    intro q hq
    rcases List.mem_cons.mp hq with rfl | hq
    · exact .int _
    · exact (hl q hq).tail.tail
  refine d_iteP (fun _ => ?_) (fun _ => ?_)
  · walk_at "go"
    refine RD.closePen ?_
    refine d_pen [] .nil rfl trivial fun v d hd hv => ?_
    obtain ⟨n, rfl⟩ := hd
    cases hv
    refine RD.openPen fun ns' i' st' => ?_
    refine d_gSub ?_
    walk_at "go"
    refine d_setO (j := 2) (.int _) (by rfl) ?_
    exact fin ns' i' n _ (by walk_at "sub")
  · refine d_next ?_
    exact fin ns i st _ (by walk_at "sub")
theorem atI_mod {α : Type} {xs : List α} (i : Int) (h : xs ≠ []) : ∃ x, atI xs (i % (xs.length : Int)) = some x ∧ x ∈ xs := by
  have hl : (0 : Int) < xs.length := by
    cases xs with
    | nil => exact absurd rfl h
    | cons a r => simp only [List.length_cons]; omega
  have h1 := Int.emod_nonneg i (show (xs.length : Int) ≠ 0 by omega)
  have h2 := Int.emod_lt_of_pos i hl
  obtain ⟨j, hj⟩ : ∃ j : Nat, i % (xs.length : Int) = (j : Int) := ⟨(i % (xs.length : Int)).toNat, by omega⟩
  have h3 : j < xs.length := by omega
  rw [hj]
  exact ⟨xs[j], atI_nat (List.getElem?_eq_getElem h3), List.getElem_mem h3⟩
theorem mem_ints {ns : List Int} {d : PyData} (h : d ∈ ns.map PyData.int) : ∃ n, d = .int n := by
  obtain ⟨n, _, rfl⟩ := List.mem_map.mp h
  exact ⟨n, rfl⟩
theorem p_mod (a : Int) : 0 ≤ a % 2305843009213693951 ∧ a % 2305843009213693951 < 2305843009213693951 := ⟨Int.emod_nonneg _ (by decide), Int.emod_lt_of_pos _ (by decide)⟩
theorem pure__law_fresh {vs : List V} {H : Hp} {Q : VK} {E : XK} (h : sp__law_fresh K vs H Q E) : t__law_fresh K W { nx := fun _ H' => Q .non H', rt := Q } (start ["pen", "at", "cell", "p", "state", "found", "turn"] vs) H := by
  obtain ⟨p, ws, D0, F, l, N, ds, rfl, A, hv, hn, _, k⟩ := h
  obtain rfl := List.length_eq_zero_iff.mp hn
  obtain rfl := hv.nil_of
  refine (?_ : RD K D0 (star (pen K p) F) l (fun H => t__law_fresh K W _ [some (.ref p), none, none, none, none, none, none] H)) N H A
  -- the end, from any rest
  have fin : ∀ (ns : List Int) (i st n : Int) (l' : List (V × PyData)), (∀ q ∈ l, InL l' q.1 q.2) → RD K D0 (star (own K p [.list (ns.map .int), .int i, .int st]) F) l' (Q (.int n)) := by
    intro ns i st n l' hl
    refine RD.closePen ?_
    refine RD.weak ?_ (k (.int n) (.int n) ⟨n, rfl⟩ rfl)
    intro q hq
    rcases List.mem_cons.mp hq with rfl | hq
    · exact .int _
    · exact hl q hq
  -- behind the cell's choice
  have mid : ∀ (ns : List Int) (i st at_ cell : Int) (l' : List (V × PyData)), (∀ q ∈ l, InL l' q.1 q.2) → RD K D0 (star (own K p [.list (ns.map .int), .int i, .int st]) F) l'
      (fun H => tSeq (tIfS (tAnd (tTest (tOp gLt (tVar 1) (tCB (gLen K) (tCons (tOp (rIx K) (tVar 0) (tC (.int 0))) tNil)))) (tTest (tOp gGe (tVar 2) (tOp gPow (tC (.int 10)) (tC (.int 18)))))) (tRet (tOp gSub' (tVar 2) (tOp gPow (tC (.int 10)) (tC (.int 18))))) tNext)
        (tSeq (tAsg (tC (.int 2305843009213693951)) (gName 3))
        (tSeq (tAsg (tOp gMod (tOp (gAdd K) (tOp (gAdd K) (tOp gMul (tVar 2) (tC (.int 48271))) (tOp gMul (tC (.int 40692)) (tVar 1))) (tC (.int 31))) (tVar 3)) (gName 4))
        (tSeq (tAsg (tVar 4) (gName 5))
        (tSeq (tFor (iRng1 (tCons (tC (.int 6)) tNil)) (gName 6) (tSeq (tAsg (tOp gMod (tOp (gAdd K) (tOp (gAdd K) (tOp gMul (tVar 4) (tVar 4)) (tOp gMul (tOp gMul (tC (.int 69621)) (tOp (gAdd K) (tVar 6) (tC (.int 1)))) (tOp (gAdd K) (tVar 1) (tC (.int 1))))) (tVar 2)) (tVar 3)) (gName 4))
          (tAsg (tOp (gAdd K) (tOp gMul (tVar 5) (tVar 3)) (tVar 4)) (gName 5))))
        (tRet (tVar 5)))))) { nx := fun _ H' => Q .non H', rt := Q } [some (.ref p), some (.int at_), some (.int cell), none, none, none, none] H) := by
    intro ns i st at_ cell l' hl
    have rest : ∀ l'' : List (V × PyData), (∀ q ∈ l, InL l'' q.1 q.2) → RD K D0 (star (own K p [.list (ns.map .int), .int i, .int st]) F) l'' (fun H =>
        (tSeq (tAsg (tC (.int 2305843009213693951)) (gName 3))
        (tSeq (tAsg (tOp gMod (tOp (gAdd K) (tOp (gAdd K) (tOp gMul (tVar 2) (tC (.int 48271))) (tOp gMul (tC (.int 40692)) (tVar 1))) (tC (.int 31))) (tVar 3)) (gName 4))
        (tSeq (tAsg (tVar 4) (gName 5))
        (tSeq (tFor (iRng1 (tCons (tC (.int 6)) tNil)) (gName 6) (tSeq (tAsg (tOp gMod (tOp (gAdd K) (tOp (gAdd K) (tOp gMul (tVar 4) (tVar 4)) (tOp gMul (tOp gMul (tC (.int 69621)) (tOp (gAdd K) (tVar 6) (tC (.int 1)))) (tOp (gAdd K) (tVar 1) (tC (.int 1))))) (tVar 2)) (tVar 3)) (gName 4))
          (tAsg (tOp (gAdd K) (tOp gMul (tVar 5) (tVar 3)) (tVar 4)) (gName 5))))
        (tRet (tVar 5)))))) { nx := fun _ H' => Q .non H', rt := Q } [some (.ref p), some (.int at_), some (.int cell), none, none, none, none] H) := by
      intro l'' hl
      walk_at "go"
      refine d_mulI (.inr ⟨by decide, by decide⟩) ?_
      walk_at "go"
      refine d_mulI (.inl ⟨by decide, by decide⟩) ?_
      walk_at "go"
      refine d_I (show (0 : Int) < 2305843009213693951 by decide) ?_
      walk_at "go"
      refine d_rng1 (j := 6) (by decide) (by decide) ?_
      refine d_forRange (fun _ R' σ' l1 => R' = star (own K p [.list (ns.map .int), .int i, .int st]) F ∧ l1 = l'' ∧ ∃ s f : Int, ∃ v, 0 ≤ s ∧ s < 2305843009213693951 ∧
        σ' = [some (.ref p), some (.int at_), some (.int cell), some (.int 2305843009213693951), some (.int s), some (.int f), v]) ?_ ?_ ?_
      · exact ⟨rfl, rfl, _, _, none, (p_mod _).1, (p_mod _).2, rfl⟩
      · rintro j R' σ' l1 hj ⟨rfl, rfl, s, f, v, s0, s1, rfl⟩
        walk_at "go"
        refine d_mulI (.inl ⟨by omega, by omega⟩) ?_
        walk_at "go"
        refine d_mulI (.inl ⟨by decide, by decide⟩) ?_
        walk_at "go"
        have hj' : j < 6 := hj
        refine d_mulI (.inl ⟨by omega, by omega⟩) ?_
        walk_at "go"
        refine d_I (show (0 : Int) < 2305843009213693951 by decide) ?_
        walk_at "go"
        refine d_mulI (.inr ⟨by decide, by decide⟩) ?_
        walk_at "go"
        dsimp only
        refine d_end (l' := l1) ?_ (by walk_at "sub")
        exact ⟨rfl, rfl, _, _, _, (p_mod _).1, (p_mod _).2, rfl⟩
      · rintro R' σ' l1 ⟨rfl, rfl, s, f, v, s0, s1, rfl⟩
        walk_at "go"
        exact fin _ _ _ _ _ hl
    walk_at "go"
    refine d_ixO (d := .list (ns.map .int)) (by rfl) fun v hv => ?_
    walk_at "go"
    refine d_lenL (ds := ns.map .int) (.mem (List.Mem.head _)) ?_
    walk_at "go"
    have hl1 : ∀ q ∈ l, InL ((v, .list (ns.map .int)) :: l') q.1 q.2 := fun q hq => (hl q hq).tail
    refine d_iteP (fun _ => ?_) (fun _ => ?_)
    · walk_at "go"
      refine d_I (show CPow 10 18 from ⟨by decide, by decide, by decide⟩) ?_
      walk_at "go"
      refine d_iteP (fun _ => ?_) (fun _ => ?_)
      · walk_at "go"
        refine d_I (show CPow 10 18 from ⟨by decide, by decide, by decide⟩) ?_
        walk_at "go"
        exact fin _ _ _ _ _ hl1
      · refine d_next ?_
        exact rest _ hl1
    · refine d_iteF ?_
      refine d_next ?_
      exact rest _ hl1
  unfold t__law_fresh
  refine RD.openPen fun ns i st => ?_
  walk_at "go"
  refine d_ixO (d := .int i) (by rfl) fun v hv => ?_
  cases hv
  walk_at "go"
  refine d_gSub ?_
  walk_at "go"
  refine d_setO (j := 1) (.int _) (by rfl) ?_
  walk_at "go"
  refine d_ixO (d := .list (ns.map .int)) (by rfl) fun v hv => ?_
  walk_at "go"
  refine d_newL (ds := []) (Nat.zero_le _) .nil fun e => ?_
  refine d_ne (d := .list (ns.map .int)) (e := .list []) (.mem (by walk_at "mem")) (.mem (by walk_at "mem")) (depth_ints ns) ?_
  walk_at "go"
  cases ns with
  | nil =>
    refine d_iteN rfl ?_
    refine d_next ?_
    exact mid _ _ _ _ _ _ (by walk_at "sub")
  | cons n ns =>
    refine d_iteY rfl ?_
    walk_at "go"
    refine d_ixO (d := .list ((n :: ns).map .int)) (by rfl) fun v hv => ?_
    walk_at "go"
    refine d_ixO (d := .list ((n :: ns).map .int)) (by rfl) fun v' hv' => ?_
    walk_at "go"
    refine d_lenL (ds := (n :: ns).map .int) (.mem (by walk_at "mem")) ?_
    refine d_I (show (0 : Int) < (((n :: ns).map PyData.int).length : Int) by simp only [List.map_cons, List.length_cons]; omega) ?_
    obtain ⟨d, hd, hm⟩ := atI_mod (xs := (n :: ns).map PyData.int) i (by simp)
    obtain ⟨c, rfl⟩ := mem_ints hm
    refine d_ixL (.mem (by walk_at "mem")) hd fun v2 hv2 => ?_
    cases hv2
    refine d_name (σ' := ?zs) ?zh ?_
    case zh => walk_at "set"
    exact mid _ _ _ _ _ _ (by walk_at "sub")
end
/-! ### how many values -/
theorem spPure_len {K : PySem.W.Frag} {n : Nat} {pre : List PyData → Prop} {post : List PyData → PyData → Prop} {vs : List V} {H : Hp} {Q : VK} {E : XK} (h : spPure K n pre post vs H Q E) : vs.length = n := by
  obtain ⟨_, _, _, _, _, _, hv, hn, _⟩ := h
  exact hv.len.trans hn
theorem spPen_len {K : PySem.W.Frag} {n : Nat} {pre : List PyData → Prop} {post : List PyData → PyData → Prop} {vs : List V} {H : Hp} {Q : VK} {E : XK} (h : spPen K n pre post vs H Q E) : vs.length = n + 1 := by
  obtain ⟨_, _, _, _, _, _, _, rfl, _, hv, hn, _⟩ := h
  exact congrArg (· + 1) (hv.len.trans hn)
theorem len__law_fresh {K : PySem.W.Frag} {vs : List V} {H : Hp} {Q : VK} {E : XK} (h : sp__law_fresh K vs H Q E) : vs.length = 1 := spPen_len h
theorem len__law_draw {K : PySem.W.Frag} {vs : List V} {H : Hp} {Q : VK} {E : XK} (h : sp__law_draw K vs H Q E) : vs.length = 2 := spPen_len h
end GL

/-! G6: drawn strings; signs. -/
namespace GL
open PySem PySem.Spec L2
open SX (S)
local macro_rules | `(tactic| walk_at "mem") => `(tactic| (first | exact List.Mem.head _ | exact List.Mem.tail _ (List.Mem.head _) | exact List.Mem.tail _ (List.Mem.tail _ (List.Mem.head _)) | ((repeat (first | exact List.Mem.head _ | apply List.Mem.tail)); done)))
local macro_rules | `(tactic| walk_at "inl") => `(tactic| (first | exact InL.int _ | exact InL.str _ | exact InL.bl _ | exact InL.non | (refine InL.mem ?zm; walk_at "mem") | assumption))
local macro_rules | `(tactic| walk_at "inls") => `(tactic| (repeat (first | exact InLs.nil | (refine InLs.cons ?zi ?_; case zi => walk_at "inl"))))
local macro_rules | `(tactic| walk_at "set") => `(tactic| (simp only [wipe, List.set_cons_succ, List.set_cons_zero]; rfl))
local macro_rules | `(tactic| walk_at "tails") => `(tactic| (first | exact sub_refl | exact sub_tail sub_refl | exact sub_tail (sub_tail sub_refl) | exact sub_nil | ((repeat (first | exact sub_refl | apply sub_tail)); done)))
local macro_rules | `(tactic| walk_at "sub") => `(tactic| (first | walk_at "tails" | ((repeat (refine sub_cons ?zi ?_; case zi => walk_at "inl")); walk_at "tails")))
local macro_rules | `(tactic| walk_at "g1") => `(tactic| (first
  | with_reducible refine d_seq ?_
  | with_reducible refine d_asg ?_
  | ((with_reducible refine d_name (σ' := ?zs) ?zh ?_); (case zh => walk_at "set"))
  | ((with_reducible refine d_var (v := ?zs) ?zh ?_); (case zh => rfl))
  | with_reducible refine d_C ?_
  | with_reducible refine d_op ?_
  | with_reducible refine d_cons ?_
  | with_reducible refine d_nil ?_
  | with_reducible refine d_cb ?_
  | with_reducible refine d_g ?_
  | with_reducible refine d_ifS ?_
  | with_reducible refine d_test ?_
  | with_reducible refine d_bl ?_
  | with_reducible refine d_addI ?_
  | with_reducible refine d_I0 ?_
  | with_reducible refine d_ret ?_
  | with_reducible refine d_retN ?_
  | with_reducible refine d_next ?_
  | with_reducible refine d_drop ?_
  | with_reducible refine d_and ?_
  | with_reducible refine d_or ?_
  | with_reducible refine d_not ?_
  | with_reducible refine d_andV ?_
  | with_reducible refine d_orV ?_
  | with_reducible refine d_notV ?_
  | with_reducible refine d_tru ?_
  | with_reducible refine d_truB ?_
  | with_reducible refine d_tif ?_
  | with_reducible refine d_iteT ?_
  | with_reducible refine d_iteF ?_
  | with_reducible refine d_iteNT ?_
  | with_reducible refine d_iteNF ?_
  | with_reducible refine d_eqI ?_
  | with_reducible refine d_neI ?_
  | with_reducible refine d_eqS ?_
  | with_reducible refine d_neS ?_
  | with_reducible refine d_eqB ?_
  | with_reducible refine d_neB ?_
  | with_reducible refine d_isN ?_
  | with_reducible refine d_notN ?_
  | with_reducible refine d_bm ?_
  | with_reducible refine d_tyS ?_
  | with_reducible refine d_tyO ?_
  | with_reducible refine d_find3 ?_
  | with_reducible refine d_tup ?_
  | with_reducible refine d_lst ?_
  | with_reducible refine d_for ?_
  | with_reducible refine d_iRng1 ?_
  | with_reducible refine d_gIt ?_
  | with_reducible refine d_lc ?_
  | with_reducible refine d_yes ?_
  | with_reducible refine d_tSl ?_
  | with_reducible refine d_noPart ?_
  | with_reducible refine d_part ?_
  | with_reducible refine d_int ?_
  | ((with_reducible refine d_wipe ?zh ?_); (case zh => rfl))
  | ((with_reducible refine d_aug (v := ?zs) ?zh ?_); (case zh => rfl))
  | with_reducible refine d_ipI ?_
  | ((with_reducible refine d_set (σ' := ?zs) ?zh ?_); (case zh => walk_at "set"))))
local macro_rules | `(tactic| walk_at "go") => `(tactic| (repeat walk_at "g1"))
theorem S_app (a b : List Nat) : S a ++ S b = S (a ++ b) := SX.S_cat a b
theorem S_tl (a : List Nat) : (S a).cps.toList = a := by simp
theorem S_len (a : List Nat) : (S a).length = a.length := SX.S_len a
theorem abc_S : ("abc" : Str) = S [97, 98, 99] := by decide +kernel
theorem emp_S : ("" : Str) = S [] := by decide +kernel
theorem line_big : 16777216 ≤ sizeLine := by rw [sizeLine_eq]; exact Nat.le_refl _
theorem joinL_ones : ∀ cs : List Nat, TL.joinL [] (cs.map fun c => [c]) = cs
  | [] => rfl
  | [a] => rfl
  | a :: b :: r => by
    show [a] ++ ([] ++ TL.joinL [] ((b :: r).map fun c => [c])) = a :: b :: r
    rw [joinL_ones (b :: r)]
    rfl
theorem join_signs (cs : List Nat) : Txt.join (S []) (cs.map fun c => S [c]) = S cs := by
  have h := SX.join_S [] (cs.map fun c => [c])
  rw [List.map_map, joinL_ones] at h
  exact h
theorem sum_ones (cs : List Nat) : ((cs.map fun c => S [c]).map (·.length)).sum = cs.length := by
  induction cs with
  | nil => rfl
  | cons a r ih =>
    simp only [List.map_cons, List.sum_cons, ih, S_len, List.length_cons, List.length_nil]
    omega
/-- the signs, from a's code on -/
def Signs (k : Nat) (cs : List Nat) : Prop := ∀ c ∈ cs, 97 ≤ c ∧ c < 97 + k
def sp__law_string (K : PySem.W.Frag) : Sp := spPen K 2 (fun ds => ∃ k m : Nat, ds = [.int k, .int m] ∧ 1 ≤ k ∧ k ≤ 3 ∧ m ≤ 1000000)
  (fun ds d => ∃ (k m : Nat) (cs : List Nat), ds = [.int k, .int m] ∧ d = .str (S cs) ∧ cs.length ≤ m ∧ Signs k cs)
def t__law_string (K : PySem.W.Frag) (W : WX) : TS := (tRet (tBM K "str" (gJoin K) (tC (.str "")) (tCons (tLc (iRng1 (tCons (tG (sp__law_draw K) W (tCons (tVar 0) (tCons (tOp (gAdd K) (tVar 2) (tC (.int 1))) tNil))) tNil)) (gName 3) tYes (tOp (rIx K) (tC (.str "abc")) (tG (sp__law_draw K) W0 (tCons (tVar 0) (tCons (tVar 1) tNil)))) [3]) tNil)))

section
variable {K : PySem.W.Frag} {W : WX}
theorem InLs.ints2 {l : List (V × PyData)} {A : List V} {D0 : Hp} {R : Res} {N : Addr → Prop} {H : Hp} {m n : Int} (at_ : At K D0 R l N H) (h : InLs l A [.int m, .int n]) : A = [.int m, .int n] := by
  cases h with
  | cons h t =>
    cases t with
    | cons h2 t =>
      cases t
      have z := (at_.dt h).dv; cases z
      have z := (at_.dt h2).dv; cases z
      rfl
theorem pure__law_string {vs : List V} {H : Hp} {Q : VK} {E : XK} (h : sp__law_string K vs H Q E) : t__law_string K W { nx := fun _ H' => Q .non H', rt := Q } (start ["pen", "signs", "most", "step"] vs) H := by
  obtain ⟨p, ws, D0, F, l, N, ds, rfl, A, hv, hn, ⟨k, m, rfl, k1, k3, hm⟩, kk⟩ := h
  obtain rfl := InLs.ints2 A hv
  refine (?_ : RD K D0 (star (pen K p) F) l (fun H => t__law_string K W _ [some (.ref p), some (.int k), some (.int m), none] H)) N H A
  unfold t__law_string
  walk_at "go"
  refine d_pen [.int (m + 1)] (.cons (.int _) .nil) rfl ⟨_, rfl, by omega, by omega⟩ fun v d hd hv => ?_
  obtain ⟨m', n, e, rfl, n0, n1⟩ := hd
  cases e
  cases hv
  refine RD.forget ?_
  refine d_rng1 (by omega) (by omega) ?_
  refine d_lcRange (fun i R' l' es => R' = star (pen K p) F ∧ l' = l ∧ ∃ cs : List Nat, es = cs.map (fun c => PyData.str (S [c])) ∧ cs.length = i ∧ Signs k cs) ?_ ?_ ?_
  · exact ⟨rfl, rfl, [], rfl, rfl, fun c h => nomatch h⟩
  · rintro i D R' l' es hi ⟨rfl, rfl, cs, rfl, rfl, sg⟩
    walk_at "go"
    refine d_pen2 [.int k] (.cons (.int _) .nil) rfl ⟨_, rfl, by omega, by omega⟩ fun v d hd hv => ?_
    obtain ⟨m', c, e, rfl, c0, c1⟩ := hd
    cases e
    cases hv
    refine RD.forget ?_
    rw [abc_S]
    have hc : atI (S [97, 98, 99]).cps.toList c = some (97 + c.toNat) := by
      have h3 : c = 0 ∨ c = 1 ∨ c = 2 := by omega
      rcases h3 with rfl | rfl | rfl <;> rfl
    refine d_ixS (by rw [S_len]; exact Nat.le_trans (by decide) line_big) hc ?_
    refine d_item (P := _) (l' := l') (d := .str (S [97 + c.toNat])) (.str _) ?_ ?_ (by walk_at "sub")
    · rw [List.length_map]; exact Nat.lt_of_lt_of_le (by omega) line_big
    · refine ⟨rfl, rfl, cs ++ [97 + c.toNat], by rw [List.map_append]; rfl, by rw [List.length_append]; rfl, ?_⟩
      intro x hx
      rcases List.mem_append.mp hx with hx | hx
      · exact sg x hx
      · have hx := List.mem_singleton.mp hx
        omega
  · rintro v R' l' es ⟨rfl, rfl, cs, rfl, hl, sg⟩
    walk_at "go"
    rw [emp_S]
    refine d_joinL (ys := cs.map fun c => S [c]) (.mem (by rw [List.map_map]; exact List.Mem.head _)) ?_ ?_
    · rw [sum_ones, List.length_map, S_len, List.length_nil]
      omega
    · rw [join_signs]
      refine RD.forget ?_
      refine RD.weak ?_ (kk (.str (S cs)) (.str (S cs)) ⟨k, m, cs, rfl, rfl, by omega, sg⟩ rfl)
      walk_at "sub"
end
/-! ### what is found from the left -/
/-- behind this much of a pattern: the places, and where the search goes on -/
inductive Gr (log : List Nat) : List Nat → List Nat → Nat → Prop
  | nil : Gr log [] [] 0
  | snoc {pre ps : List Nat} {i k c : Nat} (h : Gr log pre ps i) (h1 : i ≤ k) (h2 : log[k]? = some c) (h3 : ∀ v, i ≤ v → v < k → log[v]? ≠ some c) : Gr log (pre ++ [c]) (ps ++ [k]) (k + 1)
theorem Gr.len {log pre ps : List Nat} {i : Nat} (h : Gr log pre ps i) : ps.length = pre.length ∧ i ≤ log.length := by
  induction h with
  | nil => exact ⟨rfl, Nat.zero_le _⟩
  | snoc h h1 h2 h3 ih =>
    obtain ⟨hk, _⟩ := List.getElem?_eq_some_iff.mp h2
    exact ⟨by simp [ih.1], hk⟩
theorem drop_at {log : List Nat} {k c : Nat} (h : log[k]? = some c) : log.drop k = c :: log.drop (k + 1) := by
  obtain ⟨hk, e⟩ := List.getElem?_eq_some_iff.mp h
  rw [List.drop_eq_getElem_cons hk, e]
theorem sub_skip {log r : List Nat} {c : Nat} : ∀ (n i k : Nat), k = i + n → log[k]? = some c → (∀ v, i ≤ v → v < k → log[v]? ≠ some c) → ((c :: r).Sublist (log.drop i) ↔ r.Sublist (log.drop (k + 1)))
  | 0, i, k, e, h2, h3 => by
    have e' : k = i := by omega
    subst e'
    rw [drop_at h2]
    exact List.cons_sublist_cons
  | n + 1, i, k, e, h2, h3 => by
    obtain ⟨hk, _⟩ := List.getElem?_eq_some_iff.mp h2
    have hi : i < log.length := by omega
    have ih := sub_skip (r := r) n (i + 1) k (by omega) h2 (fun v a b => h3 v (by omega) b)
    rw [← ih, List.drop_eq_getElem_cons hi]
    have ne : log[i] ≠ c := fun z => h3 i (Nat.le_refl _) (by omega) (by rw [List.getElem?_eq_getElem hi, z])
    constructor
    · intro s
      cases s with
      | cons _ s => exact s
      | cons_cons _ s => exact absurd rfl ne
    · intro s
      exact s.cons _
theorem sub_fail {log r : List Nat} {c i : Nat} (h3 : ∀ v, i ≤ v → v < log.length → log[v]? ≠ some c) : ¬ (c :: r).Sublist (log.drop i) := by
  intro s
  have hm : c ∈ log.drop i := s.subset List.mem_cons_self
  obtain ⟨j, hj, e⟩ := List.getElem_of_mem hm
  rw [List.getElem_drop] at e
  rw [List.length_drop] at hj
  exact h3 (i + j) (by omega) (by omega) (by rw [List.getElem?_eq_getElem (by omega), e])
theorem getD_at {cs : List Nat} {v c : Nat} (hv : v < cs.length) : ((S cs).cps.getD v 0 = c) ↔ cs[v]? = some c := by
  have e : (S cs).cps.getD v 0 = cs[v] := by simp [Array.getD, hv]
  rw [e, List.getElem?_eq_getElem hv]
  exact ⟨fun h => by rw [h], fun h => Option.some.inj h⟩
theorem find_spec (cs : List Nat) (c i : Nat) (hi : i ≤ cs.length) : (Txt.find3 (S cs) (S [c]) (i : Int) = -1 ∧ ∀ v, i ≤ v → v < cs.length → cs[v]? ≠ some c) ∨
    ∃ k : Nat, Txt.find3 (S cs) (S [c]) (i : Int) = (k : Int) ∧ i ≤ k ∧ k < cs.length ∧ cs[k]? = some c ∧ ∀ v, i ≤ v → v < k → cs[v]? ≠ some c := by
  have ef : fromIndex (S cs).length (i : Int) = i := by
    unfold fromIndex
    rw [if_neg (by omega)]
    omega
  have hl := S_len cs
  rcases StrLaws.find3_spec (S cs) c (i : Int) with ⟨h1, h2⟩ | ⟨k, h1, h2, h3, h4, h5⟩
  · rw [ef] at h2
    exact .inl ⟨h1, fun v a b z => h2 v a (by rw [hl]; exact b) ((getD_at b).2 z)⟩
  · rw [ef] at h2 h5
    rw [hl] at h3
    exact .inr ⟨k, h1, h2, h3, (getD_at h3).1 h4, fun v a b z => h5 v a b ((getD_at (by omega)).2 z)⟩
def sp_positions (K : PySem.W.Frag) : Sp := spPure K 2 (fun ds => ∃ log pat : List Nat, ds = [.str (S log), .str (S pat)] ∧ log.length ≤ 1000000 ∧ pat.length ≤ 1000000)
  (fun ds d => ∃ log pat : List Nat, ds = [.str (S log), .str (S pat)] ∧ ((d = .none ∧ ¬ pat.Sublist log) ∨ ∃ (ps : List Nat) (i : Nat), d = .tuple (ps.map fun (k : Nat) => .int k) ∧ Gr log pat ps i ∧ pat.Sublist log))
def sp_contains (K : PySem.W.Frag) : Sp := spPure K 2 (fun ds => ∃ log pat : List Nat, ds = [.str (S log), .str (S pat)] ∧ log.length ≤ 1000000 ∧ pat.length ≤ 1000000)
  (fun ds d => ∃ (log pat : List Nat) (b : Bool), ds = [.str (S log), .str (S pat)] ∧ d = .bool b ∧ (b = true ↔ pat.Sublist log))
def stepP (pat : List Nat) (n : Nat) (c : Nat) : Nat := if pat[n]? = some c then n + 1 else n
theorem stepP_hit {pat : List Nat} {n c : Nat} (h : pat[n]? = some c) : stepP pat n c = n + 1 := if_pos h
theorem stepP_miss {pat : List Nat} {n c : Nat} (h : pat[n]? ≠ some c) : stepP pat n c = n := if_neg h
def progP (log pat : List Nat) : Nat := log.foldl (stepP pat) 0
def sp_progress_of (K : PySem.W.Frag) : Sp := spPure K 2 (fun ds => ∃ log pat : List Nat, ds = [.str (S log), .str (S pat)] ∧ log.length ≤ 1000000 ∧ pat.length ≤ 1000000)
  (fun ds d => ∃ log pat : List Nat, ds = [.str (S log), .str (S pat)] ∧ d = .int (progP log pat))
def t_positions (K : PySem.W.Frag) (W : WX) : TS := (tSeq (tAsg (tLst tNil) (gName 2))
  (tSeq (tAsg (tC (.int 0)) (gName 3))
  (tSeq (tFor (gIt K (tVar 1)) (gName 4) (tSeq (tAsg (tBM K "str" gFind3 (tVar 0) (tCons (tVar 4) (tCons (tVar 3) tNil))) (gName 5))
  (tSeq (tIfS (tTest (tOp gLt (tVar 5) (tC (.int 0)))) (tRet (tC .non)) tNext)
  (tSeq (tDrop (tBM K "list" rAppend (tVar 2) (tCons (tVar 5) tNil)))
  (tAsg (tOp (gAdd K) (tVar 5) (tC (.int 1))) (gName 3))))))
  (tRet (tCB (gTuple K) (tCons (tVar 2) tNil))))))

def t_contains (K : PySem.W.Frag) (W : WX) : TS := (tRet (tOp gNotN (tG (sp_positions K) W (tCons (tVar 0) (tCons (tVar 1) tNil))) (tC .non)))

def t_progress_of (K : PySem.W.Frag) (W : WX) : TS := (tSeq (tAsg (tC (.int 0)) (gName 2))
  (tSeq (tFor (gIt K (tVar 0)) (gName 3) (tIfS (tAnd (tTest (tOp gLt (tVar 2) (tCB (gLen K) (tCons (tVar 1) tNil)))) (tTest (tOp (gEq K) (tOp (rIx K) (tVar 1) (tVar 2)) (tVar 3)))) (tAug 2 (tC (.int 1)) (ipI fun i j => i + j)) tNext))
  (tRet (tVar 2))))

section
variable {K : PySem.W.Frag} {W : WX}
theorem InLs.str2 {l : List (V × PyData)} {A : List V} {D0 : Hp} {R : Res} {N : Addr → Prop} {H : Hp} {m n : Str} (at_ : At K D0 R l N H) (h : InLs l A [.str m, .str n]) : A = [.str m, .str n] := by
  cases h with
  | cons h t =>
    cases t with
    | cons h2 t =>
      cases t
      have z := (at_.dt h).dv; cases z
      have z := (at_.dt h2).dv; cases z
      rfl
theorem pure_contains {vs : List V} {H : Hp} {Q : VK} {E : XK} (h : sp_contains K vs H Q E) : t_contains K W { nx := fun _ H' => Q .non H', rt := Q } (start ["log", "pattern"] vs) H := by
  obtain ⟨D0, F, l, N, ds, A, hv, hn, ⟨log, pat, rfl, h1, h2⟩, kk⟩ := h
  obtain rfl := InLs.str2 A hv
  refine (?_ : RD K D0 F l (fun H => t_contains K W _ [some (.str (S log)), some (.str (S pat))] H)) N H A
  unfold t_contains
  walk_at "go"
  refine d_pure [.str (S log), .str (S pat)] (.cons (.str _) (.cons (.str _) .nil)) rfl ⟨log, pat, rfl, h1, h2⟩ fun v d hd hv => ?_
  obtain ⟨log', pat', e, hd⟩ := hd
  cases e
  walk_at "go"
  refine RD.forget ?_
  have nn : (v = .non) ↔ ¬ pat.Sublist log := by
    rcases hd with ⟨rfl, hs⟩ | ⟨ps, i, rfl, hg, hs⟩
    · exact ⟨fun _ => hs, fun _ => hv⟩
    · obtain ⟨a, rfl⟩ := hv
      exact ⟨fun z => (nomatch z), fun z => absurd hs z⟩
  refine RD.weak ?_ (kk (.bl (!decide (v = .non))) (.bool (!decide (v = .non))) ⟨log, pat, _, rfl, rfl, ?_⟩ rfl)
  · walk_at "sub"
  · rw [Bool.not_eq_true', decide_eq_false_iff_not, nn]
    exact Decidable.not_not
theorem pure_positions {vs : List V} {H : Hp} {Q : VK} {E : XK} (h : sp_positions K vs H Q E) : t_positions K W { nx := fun _ H' => Q .non H', rt := Q } (start ["log", "pattern", "found", "at", "sign", "place"] vs) H := by
  obtain ⟨D0, F, l, N, ds, A, hv, hn, ⟨log, pat, rfl, h1, h2⟩, kk⟩ := h
  obtain rfl := InLs.str2 A hv
  refine (?_ : RD K D0 F l (fun H => t_positions K W _ [some (.str (S log)), some (.str (S pat)), none, none, none, none] H)) N H A
  unfold t_positions
  walk_at "go"
  refine d_newO (ds := []) (Nat.zero_le _) .nil fun a => ?_
  walk_at "go"
  refine d_forStr (fun i R' σ' l' => l' = l ∧ ∃ (ps : List Nat) (j : Nat) (v4 v5 : Option V), R' = star (own K a (ps.map fun (k : Nat) => .int k)) F ∧ σ' = [some (.str (S log)), some (.str (S pat)), some (.ref a), some (.int j), v4, v5] ∧
    Gr log (pat.take i) ps j ∧ (pat.Sublist log ↔ (pat.drop i).Sublist (log.drop j))) ?_ ?_ ?_
  · exact ⟨rfl, [], 0, none, none, rfl, rfl, .nil, Iff.rfl⟩
  · rintro i c R' σ' l' hc ⟨rfl, ps, j, v4, v5, rfl, rfl, g, hs⟩
    rw [S_tl] at hc
    obtain ⟨hi, ec⟩ := List.getElem?_eq_some_iff.mp hc
    obtain ⟨gl, gj⟩ := g.len
    have hcp : pat.drop i = c :: pat.drop (i + 1) := drop_at hc
    walk_at "go"
    rcases find_spec log c j gj with ⟨e, hno⟩ | ⟨k, e, jk, kl, hk, hno⟩
    · rw [e]
      refine d_iteY (by decide) ?_
      walk_at "go"
      refine RD.freeze ?_
      refine RD.weak ?_ (kk .non .none ⟨log, pat, rfl, .inl ⟨rfl, ?_⟩⟩ rfl)
      · walk_at "sub"
      · rw [hs, hcp]
        exact sub_fail hno
    · rw [e]
      refine d_iteN (by simp) ?_
      walk_at "go"
      refine d_append (d := .int k) (.int _) ?_ ?_
      · rw [List.length_map, gl, List.length_take]
        exact Nat.lt_of_lt_of_le (by omega) line_big
      walk_at "go"
      dsimp only
      refine d_end (l' := l') ?_ (by walk_at "sub")
      refine ⟨rfl, ps ++ [k], k + 1, _, _, by rw [List.map_append]; rfl, rfl, ?_, ?_⟩
      · rw [List.take_succ, hc]
        exact .snoc g jk hk hno
      · rw [hs, hcp]
        exact sub_skip (k - j) j k (by omega) hk hno
  · rintro R' σ' l' ⟨rfl, ps, j, v4, v5, rfl, rfl, g, hs⟩
    rw [S_tl] at g hs
    rw [List.take_length] at g
    walk_at "go"
    refine d_tupleO fun v => RD.dv fun hv => ?_
    refine RD.freeze ?_
    refine RD.weak ?_ (kk v (.tuple (ps.map fun (k : Nat) => .int k)) ⟨log, pat, rfl, .inr ⟨ps, j, rfl, g, ?_⟩⟩ hv)
    · walk_at "sub"
    · rw [hs, List.drop_length]; exact List.nil_sublist _
theorem d_gLenS {z : List Nat} {D0 : Hp} {R : Res} {l : List (V × PyData)} {Q : VK} (hz : z.length ≤ 1000000) (k : RD K D0 R l (Q (.int z.length))) : RD K D0 R l (fun H => gLen K [.str (S z)] H Q) :=
  d_lenS (by rw [S_len]; exact Nat.le_trans (by omega) line_big) (by rw [S_len]; exact k)
theorem pure_progress_of {vs : List V} {H : Hp} {Q : VK} {E : XK} (h : sp_progress_of K vs H Q E) : t_progress_of K W { nx := fun _ H' => Q .non H', rt := Q } (start ["log", "pattern", "found", "sign"] vs) H := by
  obtain ⟨D0, F, l, N, ds, A, hv, hn, ⟨log, pat, rfl, h1, h2⟩, kk⟩ := h
  obtain rfl := InLs.str2 A hv
  refine (?_ : RD K D0 F l (fun H => t_progress_of K W _ [some (.str (S log)), some (.str (S pat)), none, none] H)) N H A
  unfold t_progress_of
  walk_at "go"
  refine d_forStr (fun i R' σ' l' => l' = l ∧ R' = F ∧ ∃ v3 : Option V, σ' = [some (.str (S log)), some (.str (S pat)), some (.int ((log.take i).foldl (stepP pat) 0 : Nat)), v3] ∧ (log.take i).foldl (stepP pat) 0 ≤ pat.length) ?_ ?_ ?_
  · exact ⟨rfl, rfl, none, rfl, Nat.zero_le _⟩
  · rintro i c R' σ' l' hc ⟨rfl, rfl, v3, rfl, hle⟩
    rw [S_tl] at hc
    have ht : (log.take (i + 1)).foldl (stepP pat) 0 = stepP pat ((log.take i).foldl (stepP pat) 0) c := by
      rw [List.take_succ, hc, List.foldl_append]; rfl
    walk_at "go"
    refine d_gLenS h2 ?_
    walk_at "go"
    refine d_iteP (fun hlt => ?_) (fun hge => ?_)
    · obtain ⟨x, hx⟩ : ∃ x, pat[(log.take i).foldl (stepP pat) 0]? = some x := ⟨_, List.getElem?_eq_getElem (by omega)⟩
      walk_at "go"
      refine d_ixS (c := x) (by rw [S_len]; exact Nat.le_trans (by omega) line_big) (atI_nat (by rw [S_tl]; exact hx)) ?_
      walk_at "go"
      refine d_iteP (fun he => ?_) (fun hne => ?_)
      · have ex : x = c := by have := SX.S_inj he; simpa using this
        walk_at "go"
        dsimp only
        refine d_end (l' := l') ?_ (by walk_at "sub")
        have hs : stepP pat ((log.take i).foldl (stepP pat) 0) c = (log.take i).foldl (stepP pat) 0 + 1 := stepP_hit (by rw [hx, ex])
        refine ⟨rfl, rfl, _, by rw [ht, hs]; rfl, by rw [ht, hs]; omega⟩
      · have ex : x ≠ c := fun z => hne (by rw [z])
        walk_at "go"
        dsimp only
        refine d_end (l' := l') ?_ (by walk_at "sub")
        have hs : stepP pat ((log.take i).foldl (stepP pat) 0) c = (log.take i).foldl (stepP pat) 0 := stepP_miss (by rw [hx]; exact fun z => ex (Option.some.inj z))
        refine ⟨rfl, rfl, _, by rw [ht, hs], by rw [ht, hs]; omega⟩
    · walk_at "go"
      dsimp only
      refine d_end (l' := l') ?_ (by walk_at "sub")
      have hs : stepP pat ((log.take i).foldl (stepP pat) 0) c = (log.take i).foldl (stepP pat) 0 := stepP_miss (by rw [List.getElem?_eq_none (by omega)]; exact fun z => nomatch z)
      refine ⟨rfl, rfl, _, by rw [ht, hs], by rw [ht, hs]; omega⟩
  · rintro R' σ' l' ⟨rfl, rfl, v3, rfl, hle⟩
    rw [S_tl, List.take_length]
    walk_at "go"
    refine RD.weak ?_ (kk (.int (progP log pat)) (.int (progP log pat)) ⟨log, pat, rfl, rfl⟩ rfl)
    walk_at "sub"
end
/-! ### the law's pen, the law's frame -/
def sp__law_pen (K : PySem.W.Frag) : Sp := fun vs H Q _ => ∃ a ns D0 F l N, vs = [.ref a] ∧ At K D0 F l N H ∧ SqL K H a (List.map V.int ns) ∧ ns.length ≤ 63 ∧ ∀ p, RD K D0 (star (pen K p) F) l (Q (.ref p))
def spLaw (K : PySem.W.Frag) : Sp := fun vs H Q _ => ∃ (a : Addr) (ns : List Int), vs = [.ref a] ∧ SqL K H a (ns.map V.int) ∧ ns.length ≤ 63 ∧ ∀ H', Q (.bl true) H'
def t__law_pen (K : PySem.W.Frag) (W : WX) : TS := (tRet (tLst (tCons (tCB (gList K) (tCons (tSl (gSl K) (tVar 0) tNoPart (tPart (tC (.int 63)))) tNil)) (tCons (tC (.int 0)) (tCons (tC (.int 0)) tNil)))))

theorem same_sqL {K : PySem.W.Frag} {H H' : Hp} {a : Addr} {xs : List V} (e : Same H H') (h : SqL K H a xs) : SqL K H' a xs := Same.seq e h
theorem cutV_ints (ns : List Int) (lo hi : Option Int) : ∃ ms : List Int, cutV (ns.map V.int) lo hi = ms.map V.int ∧ ms.length ≤ ns.length := by
  refine ⟨(ns.drop (HT.sIx ns.length 0 lo)).take (HT.sIx ns.length ns.length hi - HT.sIx ns.length 0 lo), ?_, ?_⟩
  · unfold cutV
    rw [List.length_map, List.map_take, List.map_drop]
  · rw [List.length_take, List.length_drop]
    omega
section
variable {K : PySem.W.Frag} {W : WX}
theorem pure__law_pen {vs : List V} {H : Hp} {Q : VK} {E : XK} (h : sp__law_pen K vs H Q E) : t__law_pen K W { nx := fun _ H' => Q .non H', rt := Q } (start ["script"] vs) H := by
  obtain ⟨a, ns, D0, F, l, N, rfl, A, hS, hl, k⟩ := h
  obtain ⟨ms, em, hm⟩ := cutV_ints ns none (some 63)
  unfold t__law_pen
  refine ⟨.ref a, rfl, ?_⟩
  refine ⟨63, rfl, ?_⟩
  refine .inl ⟨a, _, rfl, hS, fun p hp => ?_⟩
  rw [em]
  obtain ⟨A1, e1⟩ := A.new (.lst (ms.map V.int)) hp
  refine ⟨p, _, rfl, .inl (SqL.of upd_same), fun q hq => ?_⟩
  obtain ⟨A2, e2⟩ := A1.new (.lst (ms.map V.int)) hq
  refine ⟨Nat.le_trans (show 3 ≤ 16777216 by decide) line_big, fun r hr => ?_⟩
  have A3 := A2.newOwn (xs := [.ref q, .int 0, .int 0]) (ds := [.list (ms.map .int), .int 0, .int 0]) hr (.cons (.lst e2 (DtAll.ofInts ms)) (.cons (.int 0) (.cons (.int 0) .nil)))
  exact RD.closePen (k r) _ _ A3
/-- a law that begins by its pen -/
theorem law_start {D : Ends} {σ : St} {Q : VK} {H : Hp} {a : Addr} {ns : List Int} {W : WX} {rest : TS} {i : Nat} (h0 : σ[0]? = some (some (.ref a))) (hS : SqL K H a (ns.map V.int)) (hl : ns.length ≤ 63)
    (k : ∀ p, RD K (fun _ => none) (star (pen K p) emp) [] (fun H => rest D (σ.set i (some (.ref p))) H)) : tSeq (tAsg (tG (sp__law_pen K) W (tCons (tVar 0) tNil)) (gName i)) rest D σ H := by
  refine ⟨.ref a, h0, ?_⟩
  have A : At K (fun _ => none) emp [] (fun _ => False) H := ⟨fun _ h => h.elim, fun _ h => h, (fun _ _ h => by cases h), (fun _ h => absurd h List.not_mem_nil)⟩
  exact ⟨a, ns, fun _ => none, emp, [], fun _ => False, rfl, A, hS, hl, fun p => k p⟩
end
section
variable {K : PySem.W.Frag} {W : WX} {D0 : Hp} {R : Res} {l : List (V × PyData)} {Q : VK}
theorem d_contains {log pat : List Nat} {E : XK} (h1 : log.length ≤ 1000000) (h2 : pat.length ≤ 1000000) (k : ∀ b : Bool, (b = true ↔ pat.Sublist log) → RD K D0 R l (Q (.bl b))) : RD K D0 R l (fun H => sp_contains K [.str (S log), .str (S pat)] H Q E) := by
  refine d_pure [.str (S log), .str (S pat)] (.cons (.str _) (.cons (.str _) .nil)) rfl ⟨log, pat, rfl, h1, h2⟩ fun v d hd hv => ?_
  obtain ⟨log', pat', b, e, rfl, hb⟩ := hd
  cases e
  cases hv
  exact RD.forget (k b hb)
theorem d_containsY {log pat : List Nat} {E : XK} (h1 : log.length ≤ 1000000) (h2 : pat.length ≤ 1000000) (h : pat.Sublist log) (k : RD K D0 R l (Q (.bl true))) : RD K D0 R l (fun H => sp_contains K [.str (S log), .str (S pat)] H Q E) :=
  d_contains h1 h2 fun b hb => by
    have e : b = true := hb.2 h
    subst e
    exact k
theorem d_progress {log pat : List Nat} {E : XK} (h1 : log.length ≤ 1000000) (h2 : pat.length ≤ 1000000) (k : RD K D0 R l (Q (.int (progP log pat)))) : RD K D0 R l (fun H => sp_progress_of K [.str (S log), .str (S pat)] H Q E) := by
  refine d_pure [.str (S log), .str (S pat)] (.cons (.str _) (.cons (.str _) .nil)) rfl ⟨log, pat, rfl, h1, h2⟩ fun v d hd hv => ?_
  obtain ⟨log', pat', e, rfl⟩ := hd
  cases e
  cases hv
  exact RD.forget k
theorem d_string {p : Addr} {k m : Nat} {E : XK} (k1 : 1 ≤ k) (k3 : k ≤ 3) (hm : m ≤ 1000000) (kk : ∀ cs : List Nat, cs.length ≤ m → Signs k cs → RD K D0 (star (pen K p) R) l (Q (.str (S cs)))) : RD K D0 (star (pen K p) R) l (fun H => sp__law_string K [.ref p, .int k, .int m] H Q E) := by
  refine d_pen [.int k, .int m] (.cons (.int _) (.cons (.int _) .nil)) rfl ⟨k, m, rfl, k1, k3, hm⟩ fun v d hd hv => ?_
  obtain ⟨k', m', cs, e, rfl, hl, sg⟩ := hd
  have e1 : k' = k := by have := e; simp at this; omega
  have e2 : m' = m := by have := e; simp at this; omega
  subst e1 e2
  cases hv
  exact RD.forget (kk cs hl sg)
theorem d_draw {p : Addr} {m : Int} {E : XK} (h0 : 0 < m) (h1 : m < 1073741824) (kk : ∀ n : Int, 0 ≤ n → n < m → RD K D0 (star (pen K p) R) l (Q (.int n))) : RD K D0 (star (pen K p) R) l (fun H => sp__law_draw K [.ref p, .int m] H Q E) := by
  refine d_pen [.int m] (.cons (.int _) .nil) rfl ⟨m, rfl, h0, h1⟩ fun v d hd hv => ?_
  obtain ⟨m', n, e, rfl, n0, n1⟩ := hd
  cases e
  cases hv
  exact RD.forget (kk n n0 n1)
theorem d_draw2 {S' : Res} {p : Addr} {m : Int} {E : XK} (h0 : 0 < m) (h1 : m < 1073741824) (kk : ∀ n : Int, 0 ≤ n → n < m → RD K D0 (star S' (star (pen K p) R)) l (Q (.int n))) : RD K D0 (star S' (star (pen K p) R)) l (fun H => sp__law_draw K [.ref p, .int m] H Q E) :=
  RD.rot (d_draw h0 h1 fun n n0 n1 => RD.rot (kk n n0 n1))
theorem d_joinSigns {ds : List Nat} {x : V} (hx : InL l x (.list (ds.map fun c => .str (S [c])))) (h : ds.length ≤ 16777216) (k : RD K D0 R l (Q (.str (S ds)))) : RD K D0 R l (fun H => gJoin K (.str "") [x] H Q) := by
  refine d_joinL (ys := ds.map fun c => S [c]) (by rw [List.map_map]; exact hx) (by rw [sum_ones, emp_S, S_len]; simpa using h) ?_
  rw [emp_S, join_signs]
  exact k
theorem cutS_take {cs : List Nat} {n : Nat} (h : n ≤ cs.length) : cutS (S cs) none (some (n : Int)) = S (cs.take n) := by
  unfold cutS
  rw [HT.sIx_none, HT.sIx_nat, S_tl, S_len, Nat.min_eq_left h]
  rfl
theorem cutS_drop {cs : List Nat} {n : Nat} (h : n ≤ cs.length) : cutS (S cs) (some (n : Int)) none = S (cs.drop n) := by
  unfold cutS
  rw [HT.sIx_none, HT.sIx_nat, S_tl, S_len, Nat.min_eq_left h, List.take_of_length_le (by rw [List.length_drop]; omega)]
theorem progP_le (log pat : List Nat) : progP log pat ≤ pat.length := by
  suffices ∀ m, m ≤ pat.length → log.foldl (stepP pat) m ≤ pat.length from this 0 (Nat.zero_le _)
  induction log with
  | nil => exact fun m h => h
  | cons c cs ih =>
    intro m h
    rw [List.foldl_cons]
    refine ih _ ?_
    unfold stepP
    split
    · rename_i h2
      have := (List.getElem?_eq_some_iff.1 h2).1
      omega
    · exact h
theorem d_cat {a b : List Nat} (h : a.length + b.length ≤ 1000000) (k : RD K D0 R l (Q (.str (S (a ++ b))))) : RD K D0 R l (fun H => gAdd K (.str (S a)) (.str (S b)) H Q) :=
  d_addS (by rw [S_len, S_len]; exact Nat.le_trans (Nat.le_trans h (by decide)) line_big) (by rw [S_app]; exact k)
theorem d_len {a : List Nat} (h : a.length ≤ 1000000) (k : RD K D0 R l (Q (.int a.length))) : RD K D0 R l (fun H => gLen K [.str (S a)] H Q) :=
  d_lenS (by rw [S_len]; exact Nat.le_trans (Nat.le_trans h (by decide)) line_big) (by rw [S_len]; exact k)
theorem d_takeS {cs : List Nat} {n : Nat} (h : cs.length ≤ 1000000) (hn : n ≤ cs.length) (k : RD K D0 R l (Q (.str (S (cs.take n))))) : RD K D0 R l (fun H => gSl K (.str (S cs)) none (some (n : Int)) H Q) :=
  d_slS (by rw [S_len]; exact Nat.le_trans (Nat.le_trans h (by decide)) line_big) (by rw [cutS_take hn]; exact k)
theorem d_dropS {cs : List Nat} {n : Nat} (h : cs.length ≤ 1000000) (hn : n ≤ cs.length) (k : RD K D0 R l (Q (.str (S (cs.drop n))))) : RD K D0 R l (fun H => gSl K (.str (S cs)) (some (n : Int)) none H Q) :=
  d_slS (by rw [S_len]; exact Nat.le_trans (Nat.le_trans h (by decide)) line_big) (by rw [cutS_drop hn]; exact k)
/-- signs of a text, each kept or not -/
theorem d_pick {p : Addr} {cs : List Nat} {σ : L2.St} {i : Nat} (hl : cs.length ≤ 1000) (hp : (wipe σ [i])[1]? = some (some (.ref p)))
    (hi : i ≠ 1) (hi2 : i < σ.length) (kk : ∀ (v : V) (ds : List Nat), ds.Sublist cs → RD K D0 (star (pen K p) R) ((v, .list (ds.map fun c => .str (S [c]))) :: l) (Q v)) :
    RD K D0 (star (pen K p) R) l (fun H => wIt K (.str (S cs)) H fun J H1 => LcK (gName i) (tTest (tOp gGt (tG (sp__law_draw K) W0 (tCons (tVar 1) (tCons (tC (.int 3)) tNil))) (tC (.int 0)))) (tVar i) [i] σ Q J H1) := by
  have hw' : ∀ v : V, wipe ((wipe σ [i]).set i (some v)) [i] = wipe σ [i] := fun v => by
    show ((σ.set i none).set i (some v)).set i none = σ.set i none
    rw [List.set_set, List.set_set]
  have h1 : ∀ v : V, ((wipe σ [i]).set i (some v))[1]? = some (some (.ref p)) := fun v => by
    rw [List.getElem?_set_ne hi]; exact hp
  have h2 : ∀ v : V, ((wipe σ [i]).set i (some v))[i]? = some (some v) := fun v => by
    rw [List.getElem?_set_self]
    rw [wipe_length]; exact hi2
  refine d_lcStr (fun n R' l' es => R' = star (pen K p) R ∧ l' = l ∧ ∃ ds : List Nat, es = ds.map (fun c => PyData.str (S [c])) ∧ ds.Sublist (cs.take n)) ?_ ?_ ?_
  · exact ⟨rfl, rfl, [], rfl, List.nil_sublist _⟩
  · rintro n c D R' l' es hc ⟨rfl, rfl, ds, rfl, hs⟩
    rw [S_tl] at hc
    have hdl : ds.length ≤ 1000 := Nat.le_trans hs.length_le (by rw [List.length_take]; omega)
    refine d_name rfl ?_
    refine d_wipe (hw' _) ?_
    refine d_test (d_op (d_g (d_cons (d_var (h1 _) (d_cons (d_C (d_nil ?_)))))))
    refine d_draw2 (by decide) (by decide) fun m m0 m1 => ?_
    refine d_C (d_I0 (d_bl ?_))
    refine d_iteP (fun _ => ?_) (fun _ => ?_)
    · refine d_var (h2 _) ?_
      refine d_item (l' := l') (d := .str (S [c])) (.str _) ?_ ?_ (by walk_at "sub")
      · rw [List.length_map]; exact Nat.lt_of_lt_of_le (by omega) line_big
      · refine ⟨rfl, rfl, ds ++ [c], by rw [List.map_append]; rfl, ?_⟩
        rw [List.take_succ, hc]
        exact hs.append (List.Sublist.refl _)
    · refine d_noItem (l' := l') ?_ (by walk_at "sub")
      refine ⟨rfl, rfl, ds, rfl, hs.trans ?_⟩
      rw [List.take_succ]
      exact List.sublist_append_left _ _
  · rintro v R' l' es ⟨rfl, rfl, ds, rfl, hs⟩
    rw [S_tl, List.take_length] at hs
    exact kk v ds hs
end
section
variable {K : PySem.W.Frag} {vs : List V} {H : Hp} {Q : VK} {E : XK}
theorem len__law_string (h : sp__law_string K vs H Q E) : vs.length = 3 := spPen_len h
theorem len_positions (h : sp_positions K vs H Q E) : vs.length = 2 := spPure_len h
theorem len_contains (h : sp_contains K vs H Q E) : vs.length = 2 := spPure_len h
theorem len_progress_of (h : sp_progress_of K vs H Q E) : vs.length = 2 := spPure_len h
theorem len__law_pen (h : sp__law_pen K vs H Q E) : vs.length = 1 := by
  obtain ⟨_, _, _, _, _, _, rfl, _⟩ := h
  rfl
theorem len_law (h : spLaw K vs H Q E) : vs.length = 1 := by
  obtain ⟨_, _, rfl, _⟩ := h
  rfl
end
end GL

/-! G7: zip over lists, tuples, texts; list of a text; a text many times; isinstance; is of bools. -/
namespace GL
open PySem PySem.Spec L2
open PyProof.Rows hiding St
open SX (S)
theorem vals_back : ∀ {xs : List V} {us : List Value} {j : Nat} {u : Value}, Vals xs us → us[j]? = some u → ∃ x, xs[j]? = some x ∧ RelV x u
  | _, _, j, u, .nil, h => by simp at h
  | _, _, 0, u, .cons r _, h => by
    simp at h
    subst h
    exact ⟨_, rfl, r⟩
  | _, _, j + 1, u, .cons _ t, h => by
    simp at h
    simpa using vals_back t h
/-! ### what zip is asked to walk -/
inductive Sc where
  | lst (a : Addr)
  | tup (a : Addr)
  | txt (z : Str)
def Sc.v : Sc → V
  | .lst a => .ref a
  | .tup a => .ref a
  | .txt z => .str z
def ones (z : Str) : List V := z.cps.toList.map fun c => .str ⟨#[c]⟩
def Sc.has (K : PySem.W.Frag) (H : Hp) : Sc → List V → Prop
  | .lst a, xs => SqL K H a xs
  | .tup a, xs => SqT K H a xs
  | .txt z, xs => xs = ones z
def Sc.cell (it : Addr) (i : Nat) (h : Heap) : Sc → Prop
  | .lst a => h.IsListIter it a i
  | .tup a => h.IsTupleIter it a i
  | .txt z => ∃ t, h.IsStrIter it (strIterType z) z t i
def Sc.below (n : Nat) : Sc → Prop
  | .lst a => a < n
  | .tup a => a < n
  | .txt _ => True
section
variable {X : Cx} {pins : List (Addr × Obj)} {σ : L2.St} {H : Hp} {s : Shared} {A : Around}
theorem Sc.inj (I : Inv X pins σ H s) (c : Sc) {xs ys : List V} (h1 : c.has X.K H xs) (h2 : c.has X.K H ys) : xs = ys := by
  cases c with
  | lst a => exact I.list_inj h1 h2
  | tup a => exact I.tuple_inj h1 h2
  | txt z => exact Eq.trans h1 (Eq.symm h2)
theorem Sc.live (c : Sc) {it : Addr} {i : Nat} {h : Heap} (hc : c.cell it i h) : ∃ o, h.get? it = some o ∧ ∀ v, o.data ≠ .cell v := by
  cases c with
  | lst a => obtain ⟨o, e, _, d⟩ := hc; exact ⟨o, e, fun v q => by rw [d] at q; cases q⟩
  | tup a => obtain ⟨o, e, _, d⟩ := hc; exact ⟨o, e, fun v q => by rw [d] at q; cases q⟩
  | txt z => obtain ⟨t, o, e, _, d⟩ := hc; exact ⟨o, e, fun v q => by rw [d] at q; cases q⟩
theorem Sc.stay (c : Sc) {it : Addr} {i : Nat} {h h' : Heap} (hc : c.cell it i h) (k : ∀ o, h.get? it = some o → h'.get? it = some o) : c.cell it i h' := by
  cases c with
  | lst a => obtain ⟨o, e, r⟩ := hc; exact ⟨o, k o e, r⟩
  | tup a => obtain ⟨o, e, r⟩ := hc; exact ⟨o, k o e, r⟩
  | txt z => obtain ⟨t, o, e, r⟩ := hc; exact ⟨t, o, k o e, r⟩
/-- the source as the library's walks take it -/
structure Drawn1 (X : Cx) (A : Around) (c : Sc) (it n i : Nat) (xs : List V) (h : Heap) (fp : List Addr) (P : Nat → Value → Prop) (T : Nat → Heap → Prop) : Prop where
  d : Draws X.prog X.w A it fp xs.length P T
  st : T i h
  rel : ∀ j v, P j v → ∃ x, xs[j]? = some x ∧ RelV x v
  cell : ∀ j h', T j h' → c.cell it j h'
  mem : it ∈ fp
  lt : ∀ b ∈ fp, b = it ∨ b < n
theorem Sc.draws (hh : A.handled = none) (I : Inv X pins σ H s) (c : Sc) {it n i : Nat} {xs : List V} (hx : c.has X.K H xs) (hb : c.below n) (hn : n ≤ it) (hc : c.cell it i s.heap) : ∃ fp P T, Drawn1 X A c it n i xs s.heap fp P T := by
  cases c with
  | lst a =>
    obtain ⟨its, rv, p, _⟩ := I.list hx
    have e := Draws.list (prog := X.prog) (w := X.w) hh it a (Nat.ne_of_lt (Nat.lt_of_lt_of_le hb hn)) its.toArray
    have el : its.toArray.size = xs.length := by rw [List.size_toArray, rv.length]
    rw [el] at e
    refine ⟨_, _, _, e, ⟨hc, p.isList⟩, fun j v h => ?_, fun j h' t => t.1, List.mem_cons_self, fun b hb' => ?_⟩
    · exact vals_back rv (by simpa using h)
    · simp at hb'
      rcases hb' with rfl | rfl
      · exact .inl rfl
      · exact .inr hb
  | tup a =>
    obtain ⟨its, rv, p, _⟩ := I.tuple hx
    have e := Draws.tuple (prog := X.prog) (w := X.w) hh it a (Nat.ne_of_lt (Nat.lt_of_lt_of_le hb hn)) its.toArray
    have el : its.toArray.size = xs.length := by rw [List.size_toArray, rv.length]
    rw [el] at e
    refine ⟨_, _, _, e, ⟨hc, p⟩, fun j v h => ?_, fun j h' t => t.1, List.mem_cons_self, fun b hb' => ?_⟩
    · exact vals_back rv (by simpa using h)
    · simp at hb'
      rcases hb' with rfl | rfl
      · exact .inl rfl
      · exact .inr hb
  | txt z =>
    obtain ⟨t, hc⟩ := hc
    have e := Draws.text (prog := X.prog) (w := X.w) hh it z t
    have ex : xs = ones z := hx
    have el : z.cps.size = xs.length := by rw [ex]; simp [ones]
    rw [el] at e
    refine ⟨_, _, _, e, hc, fun j v h => ?_, fun j h' q => ⟨t, q⟩, List.mem_cons_self, fun b hb' => .inl (by simpa using hb')⟩
    obtain ⟨c, u, hc', rfl⟩ := h
    refine ⟨.str ⟨#[c]⟩, ?_, ⟨u, rfl⟩⟩
    rw [ex]
    simp [ones, hc']
/-- iter(v) of a source -/
theorem Sc.begins (I : Inv X pins σ H s) (c : Sc) {xs : List V} {u : Value} (hx : c.has X.K H xs) (r : RelV c.v u) :
    ∃ o Hd, Begins u o Hd ∧ Hd s.heap ∧ c.below s.heap.objs.size ∧ ∀ it h, h.get? it = some o → c.cell it 0 h := by
  cases c with
  | lst a =>
    cases (show u = Value.ref a from r)
    obtain ⟨its, rv, p, _⟩ := I.list hx
    exact ⟨_, _, begins_list a its.toArray, p.isList, p.lt, fun it h e => ⟨_, e, rfl, rfl⟩⟩
  | tup a =>
    cases (show u = Value.ref a from r)
    obtain ⟨its, rv, p, _⟩ := I.tuple hx
    obtain ⟨o, e, _⟩ := id p
    exact ⟨_, _, begins_tuple a its.toArray, p, Heap.lt_size e, fun it h e => ⟨_, e, rfl, rfl⟩⟩
  | txt z =>
    obtain ⟨t, q⟩ := (show ∃ t, u = Value.str z t from r)
    subst q
    exact ⟨_, _, begins_text z t, trivial, trivial, fun it h e => ⟨t, _, e, rfl, rfl⟩⟩
end
/-- zip(c1, c2): new pairs, as many as the shorter one has -/
def Itzg (K : PySem.W.Frag) (c1 c2 : Sc) : It :=
  ⟨fun i H => ∃ xs ys : List V, c1.has K H xs ∧ c2.has K H ys ∧ i < xs.length ∧ i < ys.length,
    fun i H v H' => ∃ T x y, v = .ref T ∧ H T = none ∧ H' = upd H T (.tup [x, y]) ∧ (∀ xs, c1.has K H xs → xs[i]? = some x) ∧ ∀ ys, c2.has K H ys → ys[i]? = some y,
    fun i H => ∃ xs ys : List V, c1.has K H xs ∧ c2.has K H ys ∧ i = min xs.length ys.length⟩
abbrev zfp (n : Nat) : List Addr := [n + 4, n + 2, n + 3, n, n + 1]
def zst (c1 c2 : Sc) (n i : Nat) (h : Heap) : Prop := IsZip h (n + 4) (n + 2) (n + 3) .none ∧ IsTupOf2 h (n + 2) (.ref n) (.ref (n + 1)) ∧ (∃ x y, IsTupOf2 h (n + 3) x y) ∧ c1.cell n i h ∧ c2.cell (n + 1) i h
theorem zsep {X : Cx} {A : Around} {c1 c2 : Sc} {n i j : Nat} {xs ys : List V} {h : Heap} {f1 f2 : List Addr} {P1 P2 : Nat → Value → Prop} {T1 T2 : Nat → Heap → Prop} (D1 : Drawn1 X A c1 n n i xs h f1 P1 T1) (D2 : Drawn1 X A c2 (n + 1) n i ys h f2 P2 T2) :
    ZipSep2 (n + 4) (n + 2) (n + 3) n (n + 1) f1 f2 := by
  have ne : ∀ a b : Nat, a ≠ b → (show Addr from a) ≠ (show Addr from b) := fun _ _ h => h
  have o1 : ∀ b : Nat, (b ≠ n ∧ n ≤ b) → (show Addr from b) ∉ f1 := fun b hb q => by
    rcases D1.lt _ q with e | e
    · exact hb.1 e
    · exact absurd (show b < n from e) (by omega)
  have o2 : ∀ b : Nat, (b ≠ n + 1 ∧ n ≤ b) → (show Addr from b) ∉ f2 := fun b hb q => by
    rcases D2.lt _ q with e | e
    · exact hb.1 e
    · exact absurd (show b < n from e) (by omega)
  exact ⟨ne _ _ (by omega), ne _ _ (by omega), ne _ _ (by omega), ne _ _ (by omega), D1.mem, o1 _ (by omega), o1 _ (by omega), ne _ _ (by omega), D2.mem, o2 _ (by omega), o2 _ (by omega), o2 _ (by omega), o1 _ (by omega)⟩
theorem turn_zipg {P : Program} {w : World} {K : PySem.W.Frag} {elts : List Expr} {kk : Nat} {tpos : Pos} {c1 c2 : Sc} {n : Nat} (b1 : c1.below n) (b2 : c2.below n) :
    Turn P w K (.Tuple elts kk tpos) (Itzg K c1 c2) (zfp n) (n + 4) (zst c1 c2 n) where
  mem := List.mem_cons_self
  obj := fun i h st c hc => by
    obtain ⟨hz, hTI, ⟨x, y, hTO⟩, h1, h2⟩ := st
    have q : c = n + 4 ∨ c = n + 2 ∨ c = n + 3 ∨ c = n ∨ c = n + 1 := by simpa using hc
    rcases q with rfl | rfl | rfl | rfl | rfl
    · exact ⟨_, hz, nofun⟩
    · exact ⟨_, hTI, nofun⟩
    · exact ⟨_, hTO, nofun⟩
    · exact c1.live h1
    · exact c2.live h2
  keep := fun i h h' st k => by
    obtain ⟨hz, hTI, ⟨x, y, hTO⟩, h1, h2⟩ := st
    refine ⟨k _ (by simp) _ hz, k _ (by simp) _ hTI, ⟨x, y, k _ (by simp) _ hTO⟩, c1.stay h1 fun o e => k _ (by simp) o e, c2.stay h2 fun o e => k _ (by simp) o e⟩
  item := by
    intro X hP hw hK hc i pins s σ H E I hf st hg
    subst hP hw hK
    have lv : ∀ c, c ∈ zfp n → ∃ o, s.heap.get? c = some o := fun c hcm => (by
      obtain ⟨hz, hTI, ⟨x, y, hTO⟩, h1, h2⟩ := st
      have q : c = n + 4 ∨ c = n + 2 ∨ c = n + 3 ∨ c = n ∨ c = n + 1 := by simpa using hcm
      rcases q with rfl | rfl | rfl | rfl | rfl
      · exact ⟨_, hz⟩
      · exact ⟨_, hTI⟩
      · exact ⟨_, hTO⟩
      · obtain ⟨o, e, _⟩ := c1.live h1; exact ⟨o, e⟩
      · obtain ⟨o, e, _⟩ := c2.live h2; exact ⟨o, e⟩)
    obtain ⟨hz, hTI, ⟨a0, b0, hTO⟩, h1, h2⟩ := st
    obtain ⟨xs, ys, hx, hy, l1, l2⟩ := hg
    have hh : X.A.in1.handled = none := I.ok.hd hc
    obtain ⟨f1, P1, T1, D1⟩ := c1.draws (A := X.A.in1) hh I hx b1 (Nat.le_refl _) h1
    obtain ⟨f2, P2, T2, D2⟩ := c2.draws (A := X.A.in1) hh I hy b2 (Nat.le_succ n) h2
    have W := GoesN.zip2 (elts := elts) (x1 := kk) (pos := tpos) (zsep (j := 0) D1 D2) D1.d D2.d
    refine W.goes i s _ E (Nat.lt_min.2 ⟨l1, l2⟩) ⟨hz, hTI, ⟨_, _, hTO⟩, D1.st, D2.st⟩ fun v h' tk hY st' hk _ => ?_
    obtain ⟨T, a, b, rfl, hT, p1, p2, hTup⟩ := hY
    obtain ⟨x, ex, rx⟩ := D1.rel _ _ p1
    obtain ⟨y, ey, ry⟩ := D2.rel _ _ p2
    have new : ObjOk X.prog X.w (upd H T (.tup [x, y])) h' T (.tup [x, y]) := ⟨by show 2 ≤ sizeLine; decide, [a, b], .cons rx (.cons ry .nil), hTup⟩
    have I1 : Inv X pins σ (upd H T (.tup [x, y])) { s with heap := h', toks := tk } :=
      I.turnedNew (t' := tk) (ch := [n + 4, n + 3, n, n + 1]) hk (fun c hcm => hf c (by
        have q : c = n + 4 ∨ c = n + 3 ∨ c = n ∨ c = n + 1 := by simpa using hcm
        rcases q with rfl | rfl | rfl | rfl <;> simp)) hT new
    refine ⟨.ref T, _, I1, rfl, ⟨T, x, y, rfl, I.hok.fresh hT, rfl, fun zs hz' => by rw [c1.inj I hz' hx]; exact ex, fun zs hz' => by rw [c2.inj I hz' hy]; exact ey⟩, ?_, fun c hcm => ?_⟩
    · obtain ⟨g1, g2, g3, g4, g5⟩ := st'
      exact ⟨g1, g2, g3, D1.cell _ _ g4, D2.cell _ _ g5⟩
    · obtain ⟨o, e⟩ := lv c hcm
      rw [upd_ne (Nat.ne_of_lt (Nat.lt_of_lt_of_le (Heap.lt_size e) hT))]
      exact (hf c hcm).1
  done := by
    intro X hP hw hK hc i pins s σ H E I hf st hg
    subst hP hw hK
    obtain ⟨hz, hTI, ⟨a0, b0, hTO⟩, h1, h2⟩ := st
    obtain ⟨xs, ys, hx, hy, rfl⟩ := hg
    have hh : X.A.in1.handled = none := I.ok.hd hc
    obtain ⟨f1, P1, T1, D1⟩ := c1.draws (A := X.A.in1) hh I hx b1 (Nat.le_refl _) h1
    obtain ⟨f2, P2, T2, D2⟩ := c2.draws (A := X.A.in1) hh I hy b2 (Nat.le_succ n) h2
    have W := GoesN.zip2 (elts := elts) (x1 := kk) (pos := tpos) (zsep (j := 0) D1 D2) D1.d D2.d
    refine W.stops s _ E ⟨hz, hTI, ⟨_, _, hTO⟩, D1.st, D2.st⟩ fun h' tk hk _ => ?_
    exact I.turnedL (t' := tk) (ch := [n + 4, n + 3, n, n + 1]) hk fun c hcm => hf c (by
      have q : c = n + 4 ∨ c = n + 3 ∨ c = n ∨ c = n + 1 := by simpa using hcm
      rcases q with rfl | rfl | rfl | rfl <;> simp)
  self := fun A i s Q E st h => wpAny_pyIter_zip st.1 h
def gZip (K : PySem.W.Frag) (ta : TA) : TI := fun σ H R => ta σ H fun vs H1 => ∃ (c1 c2 : Sc) (xs ys : List V), vs = [c1.v, c2.v] ∧ c1.has K H1 xs ∧ c2.has K H1 ys ∧ R (Itzg K c1 c2) H1
theorem pi_gzip {X : Cx} {e e2 : Expr} {ta : TA} {p pos tpos : Pos} {elts : List Expr} {kk : Nat} (hg : Gl X "zip") (hm : X.mg "zip" = none) (ha : PA X [e, e2] ta)
    (hs : starEach [e, e2] X.env = (false, eval e X.env) :: starEach [e2] X.env := by rfl) (hpl : (backTo pos (starEach [e2] X.env)).any (·.1) = false := by rfl) :
    PI X (.Tuple elts kk tpos) (.Call (.Name "zip" p) [e, e2] [] pos) (gZip X.K ta) := by
  constructor
  intro pins s σ H R I h
  refine Call_ ?_
  refine ld_blt I hg hm PyProof.Rows.boot_zip ?_
  refine PyProof.Rows.callWith_type1 ?_ hs hpl
  apply thn (ha.run pos pins s σ H _ I h)
  rintro us s1 ⟨vs, H1, I1, r1, c1, c2, xs, ys, rfl, hx, hy, q⟩
  obtain ⟨u1, u2, rfl, r1, r2⟩ := vals2 r1
  obtain ⟨o1, Hd1, B1, q1, b1, k1⟩ := c1.begins I1 hx r1
  obtain ⟨o2, Hd2, B2, q2, b2, k2⟩ := c2.begins I1 hy r2
  apply zip_begins2 B1 B2 q1 q2
  intro h' hz hTI hTO e1 e2 hsz hk
  apply wpAny_pyIter_zip hz
  refine ⟨_, zfp s1.heap.objs.size, zst c1 c2 s1.heap.objs.size, Itzg X.K c1 c2, H1, rfl, I1.kept (t' := s1.toks) hk, turn_zipg b1 b2, ⟨hz, hTI, ⟨_, _, hTO⟩, k1 _ _ e1, k2 _ _ e2⟩, fun c hcm => ?_, q⟩
  have hle : s1.heap.objs.size ≤ c := by
    have q : c = s1.heap.objs.size + 4 ∨ c = s1.heap.objs.size + 2 ∨ c = s1.heap.objs.size + 3 ∨ c = s1.heap.objs.size ∨ c = s1.heap.objs.size + 1 := by simpa using hcm
    rcases q with rfl | rfl | rfl | rfl | rfl
    · exact Nat.le_add_right _ _
    · exact Nat.le_add_right _ _
    · exact Nat.le_add_right _ _
    · exact Nat.le_refl _
    · exact Nat.le_add_right _ _
  exact I1.fpOk hle (I1.hok.fresh hle)
/-! ### list(text), text * n, isinstance, is -/
theorem vals_of_get : ∀ {xs : List V} {us : List Value}, xs.length = us.length → (∀ (j : Nat) (v : Value), us[j]? = some v → ∃ x, xs[j]? = some x ∧ RelV x v) → Vals xs us
  | [], [], _, _ => .nil
  | [], _ :: _, h, _ => by simp at h
  | _ :: _, [], h, _ => by simp at h
  | x :: xs, u :: us, h, k => by
    obtain ⟨y, ey, r⟩ := k 0 u rfl
    cases ey
    exact .cons r (vals_of_get (by simpa using h) fun j v e => k (j + 1) v e)
def gListA (K : PySem.W.Frag) : List V → Hp → VK → Prop := fun xs H Q => gList K xs H Q ∨ ∃ z : Str, xs = [.str z] ∧ z.length ≤ sizeLine ∧ ∀ l, H l = none → Q (.ref l) (upd H l (.lst (ones z)))
theorem call_glistA {X : Cx} (hc : X.calm = true) : CallR X (.type "list") (gListA X.K) := by
  intro pins s σ H xs us Q I r h
  rcases h with h | ⟨z, rfl, hz, q⟩
  · exact call_glist pins s σ H xs us Q I r h
  obtain ⟨u, rfl, ru⟩ := vals1 r
  obtain ⟨t, rfl⟩ := (show ∃ t, u = Value.str z t from ru)
  refine call_list_str (I.ok.hd hc) z t (fun h' tk acc c hk hS hacc => ?_) hz
  have hv : Vals (ones z) acc.toList := by
    refine vals_of_get (by rw [show acc.toList.length = acc.size from Array.length_toList, hacc.1]; exact (List.length_map _).trans Array.length_toList) fun j v e => ?_
    obtain ⟨c, u, hc', rfl⟩ := hacc.2 j v (by simpa using e)
    exact ⟨.str ⟨#[c]⟩, by simp [ones, hc'], ⟨u, rfl⟩⟩
  have hn : H s.heap.objs.size = none := I.hok.fresh (Nat.le_refl _)
  have new : ObjOk X.prog X.w (upd H s.heap.objs.size (.lst (ones z))) h' s.heap.objs.size (.lst (ones z)) :=
    ⟨Nat.le_trans (Nat.le_of_eq ((List.length_map _).trans Array.length_toList)) hz, acc.toList, c, hv, by simpa using hS⟩
  exact ⟨.ref _, _, I.laid (t' := tk) hk (Nat.le_refl _) new, rfl, q _ hn⟩
def gMulA : R2 := fun x y H Q => gMul x y H Q ∨ ∃ (z : Str) (n : Int), x = .str z ∧ y = .int n ∧ MulOk z n ∧ Q (.str (Txt.mul z n)) H
theorem op_gmulA {X : Cx} : OpR X (binaryOp .Mult) gMulA := by
  intro pins s σ H x y v u Q I rx ry h
  rcases h with h | ⟨z, n, rfl, rfl, hm, q⟩
  · exact op_gmul pins s σ H x y v u Q I rx ry h
  obtain ⟨t, rfl⟩ := (show ∃ t, v = Value.str z t from rx)
  obtain ⟨t2, rfl⟩ := (show ∃ t, u = Value.int n t from ry)
  exact SB.mul hm fun t' k => ⟨.str _, H, I.tok k, ⟨t', rfl⟩, q⟩
end GL

/-! G8: derived rules for G7's readings. -/
namespace GL
open PySem PySem.Spec L2
open SX (S)
local macro_rules | `(tactic| walk_at "mem") => `(tactic| (first | exact List.Mem.head _ | exact List.Mem.tail _ (List.Mem.head _) | exact List.Mem.tail _ (List.Mem.tail _ (List.Mem.head _)) | ((repeat (first | exact List.Mem.head _ | apply List.Mem.tail)); done)))
local macro_rules | `(tactic| walk_at "inl") => `(tactic| (first | exact InL.int _ | exact InL.str _ | exact InL.bl _ | exact InL.non | (refine InL.mem ?zm; walk_at "mem") | assumption))
local macro_rules | `(tactic| walk_at "inls") => `(tactic| (repeat (first | exact InLs.nil | (refine InLs.cons ?zi ?_; case zi => walk_at "inl"))))
local macro_rules | `(tactic| walk_at "set") => `(tactic| (simp only [wipe, List.set_cons_succ, List.set_cons_zero]; rfl))
local macro_rules | `(tactic| walk_at "tails") => `(tactic| (first | exact sub_refl | exact sub_tail sub_refl | exact sub_tail (sub_tail sub_refl) | exact sub_nil | ((repeat (first | exact sub_refl | apply sub_tail)); done)))
local macro_rules | `(tactic| walk_at "sub") => `(tactic| (first | walk_at "tails" | ((repeat (refine sub_cons ?zi ?_; case zi => walk_at "inl")); walk_at "tails")))
local macro_rules | `(tactic| walk_at "g1") => `(tactic| (first
  | with_reducible refine d_seq ?_
  | with_reducible refine d_asg ?_
  | ((with_reducible refine d_name (σ' := ?zs) ?zh ?_); (case zh => walk_at "set"))
  | ((with_reducible refine d_var (v := ?zs) ?zh ?_); (case zh => rfl))
  | with_reducible refine d_C ?_
  | with_reducible refine d_op ?_
  | with_reducible refine d_cons ?_
  | with_reducible refine d_nil ?_
  | with_reducible refine d_cb ?_
  | with_reducible refine d_g ?_
  | with_reducible refine d_ifS ?_
  | with_reducible refine d_test ?_
  | with_reducible refine d_bl ?_
  | with_reducible refine d_addI ?_
  | with_reducible refine d_I0 ?_
  | with_reducible refine d_ret ?_
  | with_reducible refine d_retN ?_
  | with_reducible refine d_next ?_
  | with_reducible refine d_drop ?_
  | with_reducible refine d_and ?_
  | with_reducible refine d_or ?_
  | with_reducible refine d_not ?_
  | with_reducible refine d_andV ?_
  | with_reducible refine d_orV ?_
  | with_reducible refine d_notV ?_
  | with_reducible refine d_tru ?_
  | with_reducible refine d_truB ?_
  | with_reducible refine d_tif ?_
  | with_reducible refine d_iteT ?_
  | with_reducible refine d_iteF ?_
  | with_reducible refine d_iteNT ?_
  | with_reducible refine d_iteNF ?_
  | with_reducible refine d_eqI ?_
  | with_reducible refine d_neI ?_
  | with_reducible refine d_eqS ?_
  | with_reducible refine d_neS ?_
  | with_reducible refine d_eqB ?_
  | with_reducible refine d_neB ?_
  | with_reducible refine d_isN ?_
  | with_reducible refine d_notN ?_
  | with_reducible refine d_bm ?_
  | with_reducible refine d_tyS ?_
  | with_reducible refine d_tyO ?_
  | with_reducible refine d_find3 ?_
  | with_reducible refine d_tup ?_
  | with_reducible refine d_lst ?_
  | with_reducible refine d_for ?_
  | with_reducible refine d_iRng1 ?_
  | with_reducible refine d_gIt ?_
  | with_reducible refine d_lc ?_
  | with_reducible refine d_yes ?_
  | with_reducible refine d_tSl ?_
  | with_reducible refine d_noPart ?_
  | with_reducible refine d_part ?_
  | with_reducible refine d_int ?_
  | ((with_reducible refine d_wipe ?zh ?_); (case zh => rfl))
  | ((with_reducible refine d_aug (v := ?zs) ?zh ?_); (case zh => rfl))
  | with_reducible refine d_ipI ?_
  | ((with_reducible refine d_set (σ' := ?zs) ?zh ?_); (case zh => walk_at "set"))))
local macro_rules | `(tactic| walk_at "go") => `(tactic| (repeat walk_at "g1"))
def kPar (i j : Nat) (vs : List V) (D : Ends) (σ : L2.St) (H1 : Hp) : Prop := ∃ v w, vs = [v, w] ∧ D.nx ((σ.set i (some v)).set j (some w)) H1
theorem dt_ones {K : PySem.W.Frag} {H : Hp} : ∀ cs : List Nat, DtAll K H (cs.map fun c => V.str ⟨#[c]⟩) (cs.map fun c => PyData.str ⟨#[c]⟩)
  | [] => .nil
  | c :: cs => .cons (.str _) (dt_ones cs)
/-- the name of the data's type (the plain ones) -/
def tyD : PyData → String
  | .none => "NoneType"
  | .bool _ => "bool"
  | .int _ => "int"
  | .str _ => "str"
  | .list _ => "list"
  | .tuple _ => "tuple"
  | _ => ""
theorem Dt.ty {K : PySem.W.Frag} {H : Hp} {x : V} {d : PyData} (h : Dt K H x d) : ∃ t, TyX K H x (.type t) ∧ t = tyD d := by
  cases h with
  | non => exact ⟨_, .base .non, rfl⟩
  | bl b => exact ⟨_, .base (.bl b), rfl⟩
  | int i => exact ⟨_, .base (.int i), rfl⟩
  | str x => exact ⟨_, .base (.str x), rfl⟩
  | lst e _ => exact ⟨_, .base (.lst e), rfl⟩
  | tup e _ =>
    rcases e with (e | ⟨o, e⟩) | ⟨o, its, n, e, c, _⟩
    · exact ⟨_, .base (.tup e), rfl⟩
    · exact ⟨_, .fTuple e, rfl⟩
    · exact ⟨_, .kTuple e c, rfl⟩
section
variable {K : PySem.W.Frag} {D0 : Hp} {R : Res} {l : List (V × PyData)} {σ : L2.St} {D : Ends} {Q : VK}
def kZip (K : PySem.W.Frag) (vs : List V) (H1 : Hp) (Ri : It → Hp → Prop) : Prop := ∃ (c1 c2 : Sc) (xs ys : List V), vs = [c1.v, c2.v] ∧ c1.has K H1 xs ∧ c2.has K H1 ys ∧ Ri (Itzg K c1 c2) H1
theorem d_gZip {ta : TA} {Ri : It → Hp → Prop} (k : RD K D0 R l (fun H => ta σ H fun vs H1 => kZip K vs H1 Ri)) : RD K D0 R l (fun H => gZip K ta σ H Ri) := k
theorem d_gcons {t : TG} {u : TGs} {v : V} {r : List V} {Qn : L2.St → Hp → Prop} (k : RD K D0 R l (fun H => t v σ H fun σ' H' => u r σ' H' Qn)) : RD K D0 R l (fun H => gCons t u (v :: r) σ H Qn) := fun N H A => ⟨v, r, rfl, k N H A⟩
theorem d_gnil {Qn : L2.St → Hp → Prop} (k : RD K D0 R l (Qn σ)) : RD K D0 R l (fun H => gNil [] σ H Qn) := fun N H A => ⟨rfl, k N H A⟩
/-- for a, b in zip(a tuple, a text) -/
theorem d_forZipTS {g : TGs} {tb : TS} {v : V} {z : Str} {ds : List PyData} (hv : InL l v (.tuple ds)) (P : Nat → Res → L2.St → List (V × PyData) → Prop) (hkeep : ∀ i R' σ' l', P i R' σ' l' → InL l' v (.tuple ds)) (h0 : P 0 R σ l)
    (hs : ∀ i d x c R' σ' l', ds[i]? = some d → z.cps.toList[i]? = some c → Dv x d → P i R' σ' l' → RD K D0 R' ((x, d) :: l') (fun H => g [x, .str ⟨#[c]⟩] σ' H fun σ2 H2 => tb { D with nx := Cont K D0 (P (i + 1)), ct := Cont K D0 (P (i + 1)), bk := D.nx } σ2 H2))
    (hd : ∀ R' σ' l', P (min ds.length z.cps.toList.length) R' σ' l' → RD K D0 R' l' (fun H => D.nx σ' H)) :
    RD K D0 R l (fun H => kZip K [v, .str z] H fun J H1 => ForK (gTup K 2 g) tb D σ J H1) := fun N H A => by
  obtain ⟨a, xs, rfl, ha, hd0⟩ := (A.dt hv).tuple
  have hl : ∀ {i R' σ' l' N' H'}, P i R' σ' l' → At K D0 R' l' N' H' → ∃ xs', SqT K H' a xs' ∧ DtAll K (off H' N') xs' ds := fun p A' => by
    obtain ⟨a', xs', e, h', d'⟩ := (A'.dt (hkeep _ _ _ _ p)).tuple
    cases e
    exact ⟨xs', same_sqT off_same h', d'⟩
  have lz : (ones z).length = z.cps.toList.length := List.length_map _
  refine ⟨.tup a, .txt z, xs, ones z, rfl, same_sqT off_same ha, rfl, fun i m σ H => m = min ds.length z.cps.toList.length - i ∧ i ≤ min ds.length z.cps.toList.length ∧ Cont K D0 (P i) σ H, ⟨_, rfl, Nat.zero_le _, R, l, N, h0, A⟩, ?_⟩
  rintro i m σ' H' ⟨rfl, hi, R', l', N', p, A'⟩
  obtain ⟨xs', hq, d'⟩ := hl p A'
  by_cases hlt : i < min ds.length z.cps.toList.length
  · have l1 : i < ds.length := by omega
    have l2 : i < z.cps.toList.length := by omega
    refine .inr ⟨⟨xs', ones z, hq, rfl, by rw [d'.len]; exact l1, by rw [lz]; exact l2⟩, Cont K D0 (P (i + 1)), fun σ2 H2 p => ⟨min ds.length z.cps.toList.length - (i + 1), by omega, rfl, hlt, p⟩, ?_⟩
    rintro u H2 ⟨T, x, y, rfl, hT, rfl, hx, hy⟩
    obtain ⟨d, e1, e2⟩ := d'.get (hx xs' hq)
    have ey := hy (ones z) rfl
    obtain ⟨c, hc⟩ : ∃ c, z.cps.toList[i]? = some c := ⟨_, List.getElem?_eq_getElem l2⟩
    have ey2 : y = .str ⟨#[c]⟩ := by
      rw [show (ones z)[i]? = (z.cps.toList[i]?).map (fun c => V.str ⟨#[c]⟩) from List.getElem?_map .., hc] at ey
      exact (Option.some.inj ey).symm
    subst ey2
    obtain ⟨A2, e⟩ := A'.new (.tup [x, .str ⟨#[c]⟩]) hT
    have e3 : Dt K (off (upd H' T (.tup [x, .str ⟨#[c]⟩])) N') x d := by
      have A3 := (A'.facts e2).new (.tup [x, .str ⟨#[c]⟩]) hT
      exact A3.1.dt (.mem List.mem_cons_self)
    have r := hs i d x c R' σ' l' e1 hc e2.dv p N' _ (A2.facts e3)
    exact ⟨T, [x, .str ⟨#[c]⟩], rfl, .inl (.inl upd_same), rfl, r⟩
  · have e : i = min ds.length z.cps.toList.length := by omega
    subst e
    exact .inl ⟨⟨xs', ones z, hq, rfl, by rw [d'.len, lz]⟩, hd R' σ' l' p N' H' A'⟩
/-! ### list(text), text * n, isinstance, is, a, b = .. -/
theorem d_listT {z : Str} (hz : z.length ≤ sizeLine) (k : ∀ v, RD K D0 R ((v, .list (z.cps.toList.map fun c => .str ⟨#[c]⟩)) :: l) (Q v)) : RD K D0 R l (fun H => gListA K [.str z] H Q) :=
  fun N H A => .inr ⟨z, rfl, hz, RD.new (fun D p _ e => .lst e (dt_ones _)) k N H A⟩
theorem d_mulIA {i j : Int} (c : CMul i j) (k : RD K D0 R l (Q (.int (i * j)))) : RD K D0 R l (fun H => gMulA (.int i) (.int j) H Q) := fun N H A => .inl (d_mulI c k N H A)
theorem mulN {cs : List Nat} {n : Nat} (h : cs.length * n ≤ 1000000) (hn : n ≤ 1000000) : MulOk (S cs) (n : Int) ∧ Txt.mul (S cs) (n : Int) = S (List.replicate n cs).flatten := by
  have hl : (S cs).length = cs.length := S_len cs
  have hc : (n : Int).toNat = n := rfl
  refine ⟨⟨?_, ?_, ?_⟩, ?_⟩
  · have h1 : ¬ ((n : Int) < -(2 ^ 63 : Int)) := by omega
    have h2 : ¬ ((n : Int) ≥ 2 ^ 63) := by omega
    rw [decide_eq_false h1, decide_eq_false h2]
    rfl
  · intro a _
    rw [hl]
    have hm : (cs.length : Int) * (n : Int) ≤ 2 ^ 63 - 1 := by
      have : ((cs.length * n : Nat) : Int) ≤ 1000000 := by omega
      rw [Int.natCast_mul] at this
      omega
    have := Int.le_ediv_of_mul_le (show (0 : Int) < n by omega) hm
    omega
  · intro _ _
    rw [hl, hc]
    have h3 : ¬ (cs.length * n > sizeLine) := Nat.not_lt.2 (Nat.le_trans (Nat.le_trans h (by decide)) line_big)
    exact decide_eq_false h3
  · unfold Txt.mul
    have hf : ∀ (m : Nat) (acc : List Nat), ((List.replicate m (S cs).cps).foldl (· ++ ·) acc.toArray) = (acc ++ (List.replicate m cs).flatten).toArray := by
      intro m
      induction m with
      | zero => intro acc; simp
      | succ m ih =>
        intro acc
        rw [List.replicate_succ, List.foldl_cons, List.replicate_succ, List.flatten_cons]
        have e : acc.toArray ++ (S cs).cps = (acc ++ cs).toArray := by
          show acc.toArray ++ cs.toArray = _
          simp
        rw [e, ih, List.append_assoc]
    rw [hc]
    by_cases h1 : (n : Int) < 1
    · rw [if_pos h1]
      have : n = 0 := by omega
      subst this
      rfl
    · rw [if_neg h1]
      by_cases h2 : ((n : Int) == 1 || (S cs).length == 0) = true
      · rw [if_pos h2]
        rcases Bool.or_eq_true_iff.1 h2 with q | q
        · have q2 : (n : Int) = 1 := by simpa using q
          have : n = 1 := by omega
          subst this
          simp
        · have : cs = [] := by
            rw [hl] at q
            exact List.length_eq_zero_iff.1 (by simpa using q)
          subst this
          simp
      · rw [if_neg h2]
        exact congrArg Str.mk (by simpa using hf n [])
theorem d_mulS {cs : List Nat} {n : Nat} (h : cs.length * n ≤ 1000000) (hn : n ≤ 1000000) (k : RD K D0 R l (Q (.str (S (List.replicate n cs).flatten)))) : RD K D0 R l (fun H => gMulA (.str (S cs)) (.int (n : Int)) H Q) :=
  fun N H A => .inr ⟨S cs, n, rfl, rfl, (mulN h hn).1, by rw [(mulN h hn).2]; exact k N H A⟩
theorem d_isB {a b : Bool} (k : RD K D0 R l (Q (.bl (decide (a = b))))) : RD K D0 R l (fun H => L2.rIsB (.bl a) (.bl b) H Q) := fun N H A => ⟨a, b, rfl, rfl, k N H A⟩
theorem d_notB {a b : Bool} (k : RD K D0 R l (Q (.bl (!decide (a = b))))) : RD K D0 R l (fun H => L2.rNotB (.bl a) (.bl b) H Q) := fun N H A => ⟨a, b, rfl, rfl, k N H A⟩
theorem d_par {i j : Nat} {ta : TA} (k : RD K D0 R l (fun H => ta σ H fun vs H1 => kPar i j vs D σ H1)) : RD K D0 R l (fun H => tPar i j ta D σ H) := k
theorem d_kPar {i j : Nat} {v w : V} (k : RD K D0 R l (fun H => D.nx ((σ.set i (some v)).set j (some w)) H)) : RD K D0 R l (fun H => kPar i j [v, w] D σ H) := fun N H A => ⟨v, w, rfl, k N H A⟩
/-- isinstance(x, T) -/
theorem d_isi {x : V} {d : PyData} {n : String} {b : Bool} (hx : InL l x d) (hk : ∀ t, t = tyD d → PySem.W.kitOne K (.type t) (.type n) = some b) (k : RD K D0 R l (Q (.bl b))) : RD K D0 R l (fun H => rIsi K [x, .ty n] H Q) := fun N H A => by
  obtain ⟨t, ht, e⟩ := (A.dH hx).ty
  exact ⟨x, .ty n, .type t, .type n, b, rfl, .ty n, ht, hk t e, k N H A⟩
theorem d_repr {x : V} {d : PyData} (hx : InL l x d) (h1 : d.showable = true) (h2 : d.depth ≤ 60) (h3 : d.shown.length ≤ sizeLine) (h4 : d.hasDict = false) (k : RD K D0 R l (Q (.str d.shown))) : RD K D0 R l (fun H => rRepr K [x] H Q) :=
  fun N H A => ⟨x, d, rfl, (A.dH hx).dp, h1, h4, h2, h3, k N H A⟩
theorem d_un {r : V → Hp → VK → Prop} {t : TE} (k : RD K D0 R l (fun H => t σ H fun x H1 => r x H1 Q)) : RD K D0 R l (fun H => tUn r t σ H Q) := k
theorem d_negI {i : Int} (k : RD K D0 R l (Q (.int (-i)))) : RD K D0 R l (fun H => gNeg (.int i) H Q) := fun N H A => ⟨i, rfl, k N H A⟩
theorem d_takeA {cs : List Nat} {n : Nat} (h : cs.length ≤ 1000000) (k : RD K D0 R l (Q (.str (S (cs.take n))))) : RD K D0 R l (fun H => gSl K (.str (S cs)) none (some (n : Int)) H Q) := by
  have e : cutS (S cs) none (some (n : Int)) = S (cs.take n) := by
    unfold cutS
    rw [HT.sIx_none, HT.sIx_nat, S_tl, S_len]
    by_cases hn : n ≤ cs.length
    · rw [Nat.min_eq_left hn]
      rfl
    · rw [Nat.min_eq_right (by omega), List.take_of_length_le (show cs.length ≤ n by omega)]
      show S ((cs.drop 0).take (cs.length - 0)) = S cs
      simp
  exact d_slS (by rw [S_len]; exact Nat.le_trans (Nat.le_trans h (by decide)) line_big) (by rw [e]; exact k)
theorem d_lcTup {v : V} {ds : List PyData} {g : TG} {tt : TT} {te : TE} {vs : List Nat} (hv : InL l v (.tuple ds)) (P : Nat → Res → List (V × PyData) → List PyData → Prop) (hkeep : ∀ i R' l' es, P i R' l' es → InL l' v (.tuple ds)) (h0 : P 0 R l [])
    (hs : ∀ i d x D R' l' es, ds[i]? = some d → Dv x d → P i R' l' es → RD K D0 (star (own K D es) R') ((x, d) :: l') (fun H => g x (wipe σ vs) H fun σ2 H2 => kWipe σ2 vs σ H2 fun H2 => tt σ2 H2 fun b H3 =>
      if b = true then te σ2 H3 fun y H4 => kItem D y H4 (ContC K D0 D (P (i + 1))) else ContC K D0 D (P (i + 1)) H3))
    (hd : ∀ v R' l' es, P ds.length R' l' es → RD K D0 R' ((v, .list es) :: l') (Q v)) :
    RD K D0 R l (fun H => wIt K v H fun J H1 => LcK g tt te vs σ Q J H1) := fun N H A => by
  obtain ⟨a, xs, rfl, ha, hd0⟩ := (A.dt hv).tuple
  have hl : ∀ {i D R' l' es N' H'}, P i R' l' es → At K D0 (star (own K D es) R') l' N' H' → ∃ xs', SqT K H' a xs' ∧ DtAll K (off H' N') xs' ds := fun p A' => by
    obtain ⟨a', xs', e, h', d'⟩ := (A'.dt (hkeep _ _ _ _ p)).tuple
    cases e
    exact ⟨xs', same_sqT off_same h', d'⟩
  refine .inr (.inl ⟨a, rfl, ⟨xs, same_sqT off_same ha⟩, fun D hD => ⟨fun i m H => m = ds.length - i ∧ i ≤ ds.length ∧ ContC K D0 D (P i) H, ⟨_, rfl, Nat.zero_le _, R, l, [], _, h0, A.newOwn hD .nil⟩, ?_⟩⟩)
  rintro i m H' ⟨rfl, hi, R', l', es, N', p, A'⟩
  obtain ⟨xs', hq, d'⟩ := hl p A'
  by_cases hlt : i < ds.length
  · have hx : i < xs'.length := by rw [d'.len]; exact hlt
    refine .inr ⟨⟨xs', xs'[i], hq, by simp [hx]⟩, ContC K D0 D (P (i + 1)), fun H2 p => ⟨ds.length - (i + 1), by omega, rfl, hlt, p⟩, ?_⟩
    rintro x H2 ⟨rfl, hy⟩
    obtain ⟨d, e1, e2⟩ := d'.get (hy xs' hq)
    exact hs i d x D R' l' es e1 e2.dv p N' _ (A'.facts e2)
  · have e : i = ds.length := by omega
    subst e
    obtain ⟨N2, A2⟩ := A'.freeze
    exact .inl ⟨⟨xs', hq, by rw [d'.len]; exact Nat.le_refl _⟩, hd (.ref D) R' l' es p N2 H' A2⟩
/-- signs of a text, each kept or not: any test that draws alone -/
theorem d_pickG {p : Addr} {cs : List Nat} {i j : Nat} {tt : TT} (ht : ∀ (R2 : Res) (σ2 : L2.St) (l2 : List (V × PyData)) (Qb : Bool → Hp → Prop), σ2[j]? = some (some (.ref p)) → (∀ b, RD K D0 (star R2 (star (pen K p) R)) l2 (Qb b)) → RD K D0 (star R2 (star (pen K p) R)) l2 (fun H => tt σ2 H Qb))
    (hl : cs.length ≤ 1000) (hp : (wipe σ [i])[j]? = some (some (.ref p))) (hi : i ≠ j) (hi2 : i < σ.length) (kk : ∀ (v : V) (ds : List Nat), ds.Sublist cs → RD K D0 (star (pen K p) R) ((v, .list (ds.map fun c => .str (S [c]))) :: l) (Q v)) :
    RD K D0 (star (pen K p) R) l (fun H => wIt K (.str (S cs)) H fun J H1 => LcK (gName i) tt (tVar i) [i] σ Q J H1) := by
  have hw' : ∀ v : V, wipe ((wipe σ [i]).set i (some v)) [i] = wipe σ [i] := fun v => by
    show ((σ.set i none).set i (some v)).set i none = σ.set i none
    rw [List.set_set, List.set_set]
  have h1 : ∀ v : V, ((wipe σ [i]).set i (some v))[j]? = some (some (.ref p)) := fun v => by
    rw [List.getElem?_set_ne hi]; exact hp
  have h2 : ∀ v : V, ((wipe σ [i]).set i (some v))[i]? = some (some v) := fun v => by
    rw [List.getElem?_set_self]
    rw [wipe_length]; exact hi2
  refine d_lcStr (fun n R' l' es => R' = star (pen K p) R ∧ l' = l ∧ ∃ ds : List Nat, es = ds.map (fun c => PyData.str (S [c])) ∧ ds.Sublist (cs.take n)) ?_ ?_ ?_
  · exact ⟨rfl, rfl, [], rfl, List.nil_sublist _⟩
  · rintro n c D R' l' es hc ⟨rfl, rfl, ds, rfl, hs⟩
    rw [S_tl] at hc
    have hdl : ds.length ≤ 1000 := Nat.le_trans hs.length_le (by rw [List.length_take]; omega)
    refine d_name rfl ?_
    refine d_wipe (hw' _) ?_
    refine ht _ _ _ _ (h1 _) fun b => ?_
    refine d_ite (fun _ => ?_) (fun _ => ?_)
    · refine d_var (h2 _) ?_
      refine d_item (l' := l') (d := .str (S [c])) (.str _) ?_ ?_ (by walk_at "sub")
      · rw [List.length_map]; exact Nat.lt_of_lt_of_le (by omega) line_big
      · refine ⟨rfl, rfl, ds ++ [c], by rw [List.map_append]; rfl, ?_⟩
        rw [List.take_succ, hc]
        exact hs.append (List.Sublist.refl _)
    · refine d_noItem (l' := l') ?_ (by walk_at "sub")
      refine ⟨rfl, rfl, ds, rfl, hs.trans ?_⟩
      rw [List.take_succ]
      exact List.sublist_append_left _ _
  · rintro v R' l' es ⟨rfl, rfl, ds, rfl, hs⟩
    rw [S_tl, List.take_length] at hs
    exact kk v ds hs
theorem d_positions {log pat : List Nat} {E : XK} (h1 : log.length ≤ 1000000) (h2 : pat.length ≤ 1000000) (k1 : ¬ pat.Sublist log → RD K D0 R l (Q .non))
    (k2 : ∀ (v : V) (ps : List Nat) (i : Nat), (∃ a, v = .ref a) → Gr log pat ps i → pat.Sublist log → RD K D0 R ((v, .tuple (ps.map fun (k : Nat) => .int k)) :: l) (Q v)) : RD K D0 R l (fun H => sp_positions K [.str (S log), .str (S pat)] H Q E) := by
  refine d_pure [.str (S log), .str (S pat)] (.cons (.str _) (.cons (.str _) .nil)) rfl ⟨log, pat, rfl, h1, h2⟩ fun v d hd hv => ?_
  obtain ⟨log', pat', e, h⟩ := hd
  cases e
  rcases h with ⟨rfl, hn⟩ | ⟨ps, i, rfl, hg, hs⟩
  · cases hv
    exact RD.forget (k1 hn)
  · exact k2 v ps i hv hg hs
theorem cutS_mid {cs : List Nat} {a b : Nat} : cutS (S cs) (some (a : Int)) (some (b : Int)) = S ((cs.drop a).take (b - a)) := by
  unfold cutS
  rw [HT.sIx_nat, HT.sIx_nat, S_tl, S_len]
  have e : (cs.drop (min a cs.length)).take (min b cs.length - min a cs.length) = (cs.drop a).take (b - a) := by
    by_cases ha : a ≤ cs.length
    · rw [Nat.min_eq_left ha]
      by_cases hb : b ≤ cs.length
      · rw [Nat.min_eq_left hb]
      · rw [Nat.min_eq_right (by omega), List.take_of_length_le (by rw [List.length_drop]; omega), List.take_of_length_le (by rw [List.length_drop]; omega)]
    · have h1 : min a cs.length = cs.length := Nat.min_eq_right (by omega)
      rw [h1, List.drop_of_length_le (Nat.le_refl _), List.drop_of_length_le (show cs.length ≤ a by omega)]
      simp
  rw [e]
theorem d_midS {cs : List Nat} {a b : Nat} (h : cs.length ≤ 1000000) (k : RD K D0 R l (Q (.str (S ((cs.drop a).take (b - a)))))) : RD K D0 R l (fun H => gSl K (.str (S cs)) (some (a : Int)) (some (b : Int)) H Q) :=
  d_slS (by rw [S_len]; exact Nat.le_trans (Nat.le_trans h (by decide)) line_big) (by rw [cutS_mid]; exact k)
theorem d_atS {cs : List Nat} {i : Int} {c : Nat} (h : cs.length ≤ 1000000) (hi : atI cs i = some c) (k : RD K D0 R l (Q (.str (S [c])))) : RD K D0 R l (fun H => rIx K (.str (S cs)) (.int i) H Q) :=
  d_ixS (by rw [S_len]; exact Nat.le_trans (Nat.le_trans h (by decide)) line_big) (by rw [S_tl]; exact hi) k
theorem depth_signs (cs : List Nat) : (PyData.list (cs.map fun c => PyData.str (S [c]))).depth ≤ 60 := by
  have h : PyData.depthAll (cs.map fun c => PyData.str (S [c])) = 0 := by
    induction cs with
    | nil => simp only [List.map_nil, PyData.depthAll]
    | cons c cs ih => simp only [List.map_cons, PyData.depthAll, PyData.depth, ih]; rfl
  simp only [PyData.depth, h]
  omega
theorem eqv_signs (cs : List Nat) : PyData.eqvAll (cs.map fun c => PyData.str (S [c])) (cs.map fun c => PyData.str (S [c])) = true := by
  induction cs with
  | nil => simp only [List.map_nil, PyData.eqvAll]
  | cons c cs ih => simp only [List.map_cons, PyData.eqvAll, PyData.eqv, ih, beq_self_eq_true, Bool.and_self]
end
end GL

/-! G9: own exceptions over ValueError with a field: what the head tells of them, raise, except as, the field. -/
namespace GL
open PySem PySem.Spec L2
open PyProof.Rows hiding St
/-! ### more that the head tells -/
def hookX (n : Nat) (fa : List He.Fa) (fn : List He.DefD) (ex : PySem.W.Frag → Bool) : PySem.W.Hook where
  α := He.AlD × Bool
  obs := fun s => (He.obsDG n fa fn s.heap.get?, ex (He.frG s.heap.get? (He.asD s.heap.get? n)))
  val := fun _ => (He.valD fn, true)
  says := fun _ h => ∃ K : PySem.W.Frag, K.In h ∧ He.SaysD fa fn K ∧ ex K = true
  of := fun _ _ e => ⟨_, He.frG_in, congrArg Prod.fst e, congrArg Prod.snd e⟩
  keeps := fun _ _ _ ⟨K, hK, c⟩ k => ⟨K, PySem.W.Frag.In.keeps hK k, c⟩
def obsX (n : Nat) (fa : List He.Fa) (fn : List He.DefD) (ex : PySem.W.Frag → Bool) (g : Addr → Option Obj) : He.AlD × Bool := (He.obsDG n fa fn g, ex (He.frG g (He.asD g n)))
theorem obsX_eq {n : Nat} {fa : List He.Fa} {fn : List He.DefD} {ex : PySem.W.Frag → Bool} {g : Addr → Option Obj} {s : Shared} (h : ∀ a, g a = s.heap.get? a) : obsX n fa fn ex g = (hookX n fa fn ex).obs s := by
  have e : g = s.heap.get? := funext h
  rw [e]
  rfl
def clsVE (K : PySem.W.Frag) (C : Addr) : Bool := match K.lookup C with
  | some ⟨.type "type", _, .cls cd, sl⟩ => (match cd.mro, sl.toList with
    | .ref D :: bm, [_, _, _, _, some (.builtin n), _] => (D == C && n == "ValueError.__new__") && ((!cd.hasDel && cd.hasDict) && PySem.HandSPX.refsVE bm)
    | _, _ => false)
  | _ => false
theorem clsVE_ok {K : PySem.W.Frag} {C : Addr} (h : clsVE K C = true) :
    ∃ nm q N bs bm sn sub ab col dd k0 k1 k2 k3 k5, K.lookup C = some (excClassObj nm q C N bs bm true sn sub ab col dd k0 k1 k2 k3 k5 "ValueError.__new__") ∧ PySem.HandSPX.refsVE bm = true := by
  unfold clsVE at h
  split at h
  · rename_i dd cd sl ho
    split at h
    · rename_i D bm k0 k1 k2 k3 n k5 e1 e2
      obtain ⟨nm, bs, mro, ns, qn, hd, sn, sub, ab, col, del⟩ := cd
      obtain ⟨sl⟩ := sl
      dsimp only at e1 e2 h
      subst e1 e2
      simp only [Bool.and_eq_true, beq_iff_eq, Bool.not_eq_true'] at h
      obtain ⟨⟨rfl, rfl⟩, ⟨rfl, rfl⟩, hb⟩ := h
      exact ⟨nm, qn, ns, bs, bm, sn, sub, ab, col, dd, k0, k1, k2, k3, k5, ho, hb⟩
    · cases h
  · cases h
/-- the class x (at C), over ValueError, keeps its one argument in the field n -/
structure ExT (K : PySem.W.Frag) (C fI : Addr) (n : Str) : Prop where
  T : OexC K C
  X : XfC K C
  no : PySem.W.findIn K (.ref C) n = some none
  iC : PySem.W.findIn K (.ref C) "__init__" = some (some (.ref fI))
  tI : PySem.W.typeIn K (.ref fI) = some (.type "function")
  te : PySem.W.exmOne K (.ref C) (.ref C) = some true
def exT (x n : Str) (K : PySem.W.Frag) : Bool :=
  (clsVE K (He.ga K x) && (xfB K (He.ga K x) && PySem.W.keepIn K (.ref (He.ga K x)))) &&
  ((decide (PySem.W.findIn K (.ref (He.ga K x)) "__setattr__" = some (some (.builtin "object.__setattr__"))) && decide (PySem.W.typeIn K (.ref (He.ga K x)) = some (.type "type"))) &&
  ((decide (PySem.W.findIn K (.ref (He.ga K x)) n = some none) && decide (PySem.W.findIn K (.ref (He.ga K x)) "__init__" = some (some (.ref (He.ma K (He.ga K x) "__init__"))))) &&
  (decide (PySem.W.typeIn K (.ref (He.ma K (He.ga K x) "__init__")) = some (.type "function")) && decide (PySem.W.exmOne K (.ref (He.ga K x)) (.ref (He.ga K x)) = some true))))
theorem exT_ok {K : PySem.W.Frag} {x n : Str} (h : exT x n K = true) : ExT K (He.ga K x) (He.ma K (He.ga K x) "__init__") n := by
  unfold exT at h
  simp only [Bool.and_eq_true, decide_eq_true_eq] at h
  obtain ⟨⟨h1, h2, h3⟩, ⟨h4, h5⟩, ⟨h6, h7⟩, h8, h9⟩ := h
  have X := xfB_ok h2
  exact ⟨⟨clsVE_ok h1, h4, X.exC, h5, h3⟩, X, h6, h7, h8, h9⟩
/-! ### its __init__ -/
def spInit (C : Addr) (n : Str) : Sp := fun vs H Q _ => ∃ a y, vs = [.ref a, y] ∧ H a = some (exo a C none) ∧ ∀ dx, H dx = none → dx ≠ a → Q .non (upd (upd H dx (exd dx [(n, y)])) a (exo a C (some dx)))
section
variable {P : Program} {w : World} {K : PySem.W.Frag} {mg : Str → Option Value} {base : Heap} {f C fI : Addr} {fd : FuncData} {n : Str}
theorem pure_init {vs : List V} {H : Hp} {Q : VK} {E : XK} {s1 s2 : Str} (T : ExT K C fI n) (h : spInit C n vs H Q E) :
    tOst K n (tVar 0) (tVar 1) { nx := fun _ H' => Q .non H', rt := Q } (start [s1, s2] vs) H := by
  obtain ⟨a, y, rfl, ha, k⟩ := h
  exact ⟨y, rfl, .ref a, rfl, a, C, rfl, T.T, T.no, .inl ⟨ha, fun dx hd ne => k dx hd ne⟩⟩
theorem len_init {vs : List V} {H : Hp} {Q : VK} {E : XK} (h : spInit C n vs H Q E) : vs.length = 2 := by
  obtain ⟨_, _, rfl, _⟩ := h
  rfl
end
section
variable {X : Cx} {C fI : Addr} {n x : Str} {W : WX} {fdI : FuncData} {ps : List Str} {e : Expr} {ta : TA} {p pos pos2 : Pos} {k : Nat}
def tRz (C : Addr) (n : Str) (W : WX) (ta : TA) : TS := fun _ σ H => tMkO C (spInit C n) [] ta σ H fun cls d H' => W cls d σ H'
theorem g_raise (T : ExT X.K C fI n) (F1 : FnOk X.prog X.w X.K X.mg X.base CX0 k fI fdI ps (spInit C n)) (hr : Room (k + 1) X.A) (hb : Binds X.K fdI ps []) (hc : X.calm = true) (tk : Takes X W) (hg : Gl X x) (hm : X.mg x = some (.ref C)) (ha : PA X [e] ta)
    (hdb : (x == ("__debug__" : Str)) = false := by decide) (he : starEach [e] X.env = (false, eval e X.env) :: starEach [] X.env := by rfl) (hpl : (backTo pos (starEach [] X.env)).any (·.1) = false := by rfl) :
    PS X (.Raise (some (.Call (.Name x p) [e] [] pos)) none pos2) (tRz C n W ta) :=
  ps_raise hc tk (pmk_oex T.T T.iC T.tI F1 hr hb .nil pass0 hg hm ha hdb he hpl)
end
/-! ### derived -/
/-- at dx: an exception's own fields -/
def xdo (dx : Addr) (fs : List (Str × V)) : Res where
  h := fun N D H => (∀ b, N b ↔ b = dx) ∧ H dx = some (.xd fs)
  st := fun ⟨e, h⟩ _ k => ⟨e, (k dx ((e dx).2 rfl)).trans h⟩
section
variable {K : PySem.W.Frag} {D0 : Hp} {R : Res} {l : List (V × PyData)} {σ : L2.St} {D : Ends} {Q : VK}
theorem At.newX {N : Addr → Prop} {H : Hp} (A : At K D0 R l N H) {p : Addr} {fs : List (Str × V)} (hp : H p = none) : At K D0 (star (xdo p fs) R) l (fun b => b = p ∨ N b) (upd H p (.xd fs)) := by
  have away : ∀ b, N b → b ≠ p := fun b hb z => A.nn b hb (z ▸ hp)
  have sm : Same (off H N) (off (upd H p (.xd fs)) fun b => b = p ∨ N b) := fun b u h => by
    by_cases hb : N b
    · unfold off at h
      rw [if_pos hb] at h
      cases h
    · rw [off_ne hb] at h
      have nb : b ≠ p := ne_of_none h hp
      have nn : ¬ (b = p ∨ N b) := fun z => z.elim nb hb
      rw [off_ne nn, upd_ne nb]
      exact h
  have rest : R.h N (off (upd H p (.xd fs)) fun b => b = p ∨ N b) (upd H p (.xd fs)) := R.st A.r sm fun b hb => upd_ne (away b hb)
  refine ⟨?_, ⟨fun b => b = p, N, fun b => Iff.rfl, fun b x y => away b y x, ⟨fun b => Iff.rfl, upd_same⟩, rest⟩, A.d0.trans sm, fun q hq => (A.f q hq).mono sm⟩
  intro b hb
  by_cases z : b = p
  · rw [z]
    exact ⟨_, upd_same, fun _ z => by cases z⟩
  · rw [upd_ne z]
    exact A.nt b (hb.resolve_left z)
theorem At.xd {N : Addr → Prop} {H : Hp} {p : Addr} {fs : List (Str × V)} (A : At K D0 (star (xdo p fs) R) l N H) : H p = some (.xd fs) := by
  obtain ⟨_, _, _, _, ⟨_, h⟩, _⟩ := A.r
  exact h
/-- the exception is forgotten -/
theorem At.dropX {N : Addr → Prop} {H : Hp} {p : Addr} {fs : List (Str × V)} (A : At K D0 (star (xdo p fs) R) l N H) : ∃ N', At K D0 R l N' H := by
  obtain ⟨N1, N2, e, dj, ⟨e1, hx⟩, h2⟩ := A.r
  have sm : Same (off H N) (off H N2) := fun b u h => by
    by_cases hb : N b
    · unfold off at h
      rw [if_pos hb] at h
      cases h
    · rw [off_ne hb] at h
      rw [off_ne fun z => hb ((e b).2 (.inr z))]
      exact h
  exact ⟨N2, fun b hb => A.nt b ((e b).2 (.inr hb)), R.st h2 sm fun _ _ => rfl, A.d0.trans sm, fun q hq => (A.f q hq).mono sm⟩
theorem RD.dropX {p : Addr} {fs : List (Str × V)} {T : Hp → Prop} (k : RD K D0 R l T) : RD K D0 (star (xdo p fs) R) l T := fun N H A => by
  obtain ⟨N', A'⟩ := A.dropX
  exact k N' H A'
def kRz (C : Addr) (n : Str) (vs : List V) (H1 : Hp) (Q : XK) : Prop := vs.length ≤ 1000 ∧ ∀ a, H1 a = none → spInit C n (.ref a :: (vs ++ [])) (upd H1 a (exo a C none))
  (fun v H2 => v = .non ∧ ∃ (d : Addr) (fs : List (Str × V)), H2 a = some (exo a C (some d)) ∧ H2 d = some (exd d fs) ∧ H1 d = none ∧ Q (.ref C) (some d) (upd (del H2 a) d (.xd fs))) (fun _ _ _ => False)
theorem d_rz {C : Addr} {n : Str} {W : WX} {ta : TA} (k : RD K D0 R l (fun H => ta σ H fun vs H1 => kRz C n vs H1 fun cls d H' => W cls d σ H')) : RD K D0 R l (fun H => tRz C n W ta D σ H) := k
theorem d_kRz {C : Addr} {n : Str} {v : V} {Qx : XK} (k : ∀ d, RD K D0 (star (xdo d [(n, v)]) R) l (Qx (.ref C) (some d))) : RD K D0 R l (fun H => kRz C n [v] H Qx) := fun N H A => by
  refine ⟨Nat.le_of_lt (show 1 < 1000 by decide), fun a ha => ⟨a, v, rfl, upd_same, fun dx hd ne => ⟨rfl, dx, [(n, v)], upd_same, ?_, ?_, ?_⟩⟩⟩
  · rw [upd_ne ne, upd_same]
  · rw [upd_ne ne] at hd
    exact hd
  · have hd' : H dx = none := by rw [upd_ne ne] at hd; exact hd
    have e : upd (del (upd (upd (upd H a (exo a C none)) dx (exd dx [(n, v)])) a (exo a C (some dx))) a) dx (.xd [(n, v)]) = upd H dx (.xd [(n, v)]) := by
      funext b
      by_cases h1 : b = dx
      · rw [h1, upd_same, upd_same]
      · rw [upd_ne h1, upd_ne h1]
        by_cases h2 : b = a
        · rw [h2, del_same, ha]
        · rw [del_ne h2, upd_ne h2, upd_ne h1, upd_ne h2]
    rw [e]
    exact k dx _ _ (A.newX hd')
/-- e.n in the suite -/
theorem d_xf {a C dd : Addr} {n : Str} {v : V} {te : TE} (h : ∀ {N H}, At K D0 (star (xdo dd [(n, v)]) R) l N H → True) (k : RD K D0 (star (xdo dd [(n, v)]) R) l (Q v)) (hx : ∀ {Q' : VK}, RD K D0 (star (xdo dd [(n, v)]) R) l (Q' (.ref a)) → RD K D0 (star (xdo dd [(n, v)]) R) l (fun H => te σ H Q')) :
    RD K D0 (star (xdo dd [(n, v)]) R) l (fun H => tXf a (.ref C) (some dd) C n te σ H Q) :=
  hx (Q' := fun x H1 => x = .ref a ∧ Value.ref C = .ref C ∧ ∃ (d2 : Addr) (fs : List (Str × V)) (v : V), some dd = some d2 ∧ H1 d2 = some (.xd fs) ∧ fs.lookup n = some v ∧ Q v H1)
    fun N H A => ⟨rfl, rfl, dd, [(n, v)], v, rfl, A.xd, by simp [List.lookup], k N H A⟩
end
end GL

/-! G10: repr of data or of an empty dict; try in readings. -/
namespace GL
open PySem PySem.Spec L2
open PyProof.Rows hiding St
def gShow (K : PySem.W.Frag) : List V → Hp → VK → Prop := fun vs H Q => rRepr K vs H Q ∨ ∃ a, vs = [.ref a] ∧ H a = some (.dK []) ∧ Q (.str "{}") H
theorem call_show {X : Cx} (hg : NoG X.A) (hu : X.A.units + 64 < cLine) : CallR X (.builtin "repr") (gShow X.K) := by
  intro pins s σ H xs us Q I r h
  rcases h with h | ⟨a, rfl, ha, q⟩
  · exact call_repr hg hu pins s σ H xs us Q I r h
  obtain ⟨u, rfl, ru⟩ := vals1 r
  cases (show u = Value.ref a from ru)
  obtain ⟨_, hm, vs, kv, o, es, ep, e1, e2, e3, e4⟩ := (show ObjOk X.prog X.w H s.heap a (.dK []) from I.hok a _ ha)
  have ev : vs = [] := by cases kv; rfl
  subst ev
  have ee : es.toList = [] := by
    have z := e4.2.1
    generalize es.toList = es' at z ⊢
    cases es' with
    | nil => rfl
    | cons x r => cases z
  have rd : Reads s.heap (.ref a) (.dict []) [a] := .dict (kvs := []) (as := []) (bs := []) e1 e2.1 e3 (by rw [ee]; exact ReadsAll.nil) (by rw [ee]; exact ReadsAll.nil)
  have sh : (PyData.dict []).shown = "{}" := by decide +kernel
  have dz : (PyData.dict []).depth ≤ 60 := by decide +kernel
  refine repr_of_reads' rd (by decide +kernel) (fun _ z => ?_) hg (by omega) (fun _ _ z => z) (fun h' t tk k => ?_) (by rw [sh]; exact Nat.le_trans (by decide) line_big)
  · have z' : sysModules = a := by simpa using z
    rw [← z'] at hm
    simp at hm
  · rw [sh]
    exact ⟨.str "{}", H, I.kept (t' := tk) k, ⟨t, rfl⟩, q⟩
def tTry (K : PySem.W.Frag) (C : Addr) (i : Nat) (tb : WX → TS) (ts : Addr → Value → Option Addr → TS) (W : WX) : TS := fun D σ H => tb (wAs K (.ref C) i ts W D) D σ H
/-- at p: this object, and nothing else is said of it -/
def fxo (p : Addr) (o : HO) : Res where
  h := fun N D H => (∀ b, N b ↔ b = p) ∧ H p = some o
  st := fun ⟨e, h⟩ _ k => ⟨e, (k p ((e p).2 rfl)).trans h⟩
section
variable {K : PySem.W.Frag} {D0 : Hp} {R : Res} {l : List (V × PyData)} {σ : L2.St} {D : Ends} {Q : VK}
theorem d_try {C : Addr} {i : Nat} {tb : WX → TS} {ts : Addr → Value → Option Addr → TS} {W : WX} (k : RD K D0 R l (fun H => tb (wAs K (.ref C) i ts W D) D σ H)) : RD K D0 R l (fun H => tTry K C i tb ts W D σ H) := k
theorem d_caught {C d : Addr} {i : Nat} {ts : Addr → Value → Option Addr → TS} {W : WX} (te : PySem.W.exmOne K (.ref C) (.ref C) = some true)
    (k : ∀ a, RD K D0 R l (fun H => ts a (.ref C) (some d) { nx := fun σ' H' => D.nx (σ'.set i none) H', rt := D.rt, bk := fun σ' H' => D.bk (σ'.set i none) H', ct := fun σ' H' => D.ct (σ'.set i none) H' } (σ.set i (some (.ref a))) H)) :
    RD K D0 R l (fun H => wAs K (.ref C) i ts W D (.ref C) (some d) σ H) := fun N H A => ⟨true, te, fun _ a _ => k a N H A, fun z => by cases z⟩
def kXf (a : Addr) (cls : Value) (d : Option Addr) (C : Addr) (f : Str) (x : V) (H1 : Hp) (Q : VK) : Prop := x = .ref a ∧ cls = .ref C ∧ ∃ (dd : Addr) (fs : List (Str × V)) (v : V), d = some dd ∧ H1 dd = some (.xd fs) ∧ fs.lookup f = some v ∧ Q v H1
theorem d_tXf {a : Addr} {cls : Value} {d : Option Addr} {C : Addr} {f : Str} {te : TE} (k : RD K D0 R l (fun H => te σ H fun x H1 => kXf a cls d C f x H1 Q)) : RD K D0 R l (fun H => tXf a cls d C f te σ H Q) := k
theorem d_kXf {a C dd : Addr} {n : Str} {v : V} (k : RD K D0 (star (xdo dd [(n, v)]) R) l (Q v)) : RD K D0 (star (xdo dd [(n, v)]) R) l (fun H => kXf a (.ref C) (some dd) C n (.ref a) H Q) :=
  fun N H A => ⟨rfl, rfl, dd, [(n, v)], v, rfl, A.xd, by simp [List.lookup], k N H A⟩
theorem d_show {v : V} {z : Str} (h : ∀ (N : Addr → Prop) (H : Hp) (Q' : VK), At K D0 R l N H → Q' (.str z) H → gShow K [v] H Q') (k : RD K D0 R l (Q (.str z))) : RD K D0 R l (fun H => gShow K [v] H Q) := fun N H A => h N H Q A (k N H A)
theorem d_ty {v : V} {t n : String} {b : Bool} (h : ∀ (N : Addr → Prop) (H : Hp), At K D0 R l N H → TyX K H v (.type t)) (hk : PySem.W.kitOne K (.type t) (.type n) = some b) (k : RD K D0 R l (Q (.bl b))) : RD K D0 R l (fun H => rIsi K [v, .ty n] H Q) :=
  fun N H A => ⟨v, .ty n, .type t, .type n, b, rfl, .ty n, h N H A, hk, k N H A⟩
theorem At.newF {N : Addr → Prop} {H : Hp} (A : At K D0 R l N H) {p : Addr} {o : HO} (ho : NotTup o) (hp : H p = none) : At K D0 (star (fxo p o) R) l (fun b => b = p ∨ N b) (upd H p o) := by
  have away : ∀ b, N b → b ≠ p := fun b hb z => A.nn b hb (z ▸ hp)
  have sm : Same (off H N) (off (upd H p o) fun b => b = p ∨ N b) := fun b u h => by
    by_cases hb : N b
    · unfold off at h
      rw [if_pos hb] at h
      cases h
    · rw [off_ne hb] at h
      have nb : b ≠ p := ne_of_none h hp
      have nn : ¬ (b = p ∨ N b) := fun z => z.elim nb hb
      rw [off_ne nn, upd_ne nb]
      exact h
  have rest : R.h N (off (upd H p o) fun b => b = p ∨ N b) (upd H p o) := R.st A.r sm fun b hb => upd_ne (away b hb)
  refine ⟨?_, ⟨fun b => b = p, N, fun b => Iff.rfl, fun b x y => away b y x, ⟨fun b => Iff.rfl, upd_same⟩, rest⟩, A.d0.trans sm, fun q hq => (A.f q hq).mono sm⟩
  intro b hb
  by_cases z : b = p
  · rw [z]
    exact ⟨_, upd_same, ho⟩
  · rw [upd_ne z]
    exact A.nt b (hb.resolve_left z)
theorem At.fx {N : Addr → Prop} {H : Hp} {p : Addr} {o : HO} (A : At K D0 (star (fxo p o) R) l N H) : H p = some o := by
  obtain ⟨_, _, _, _, ⟨_, h⟩, _⟩ := A.r
  exact h
theorem At.second {N : Addr → Prop} {H : Hp} {P S : Res} (A : At K D0 (star P (star S R)) l N H) : ∃ N', S.h N' (off H N) H := by
  obtain ⟨_, _, _, _, _, _, N2, _, _, h, _⟩ := A.r
  exact ⟨_, h⟩
theorem At.third {N : Addr → Prop} {H : Hp} {P S U : Res} (A : At K D0 (star P (star S (star U R))) l N H) : ∃ N', U.h N' (off H N) H := by
  obtain ⟨_, _, _, _, _, _, _, _, _, _, _, N2, _, _, h, _⟩ := A.r
  exact ⟨_, h⟩
/-- {} -/
theorem d_dnewP {P : Res} (k : ∀ q, RD K D0 (star P (star (fxo q (.dK [])) R)) l (Q (.ref q))) : RD K D0 (star P R) l (fun H => tDNewK σ H Q) := fun N H A q hq => RD.rot (k q) _ _ (A.newF (fun _ z => by cases z) hq)
/-- a list that is only indexed -/
theorem d_newV {P : Res} {vs : List V} (hl : vs.length ≤ sizeLine) (k : ∀ a, RD K D0 (star P (star (fxo a (.lst vs)) R)) l (Q (.ref a))) : RD K D0 (star P R) l (fun H => kLst vs H Q) := fun N H A => ⟨hl, fun a ha => RD.rot (k a) _ _ (A.newF (fun _ z => by cases z) ha)⟩
theorem d_ixV {P : Res} {a : Addr} {vs : List V} {n : Int} {v : V} (hv : atI vs n = some v) (k : RD K D0 (star P (star (fxo a (.lst vs)) R)) l (Q v)) : RD K D0 (star P (star (fxo a (.lst vs)) R)) l (fun H => rIx K (.ref a) (.int n) H Q) := fun N H A => by
  obtain ⟨_, _, h⟩ := A.second
  exact .inl ⟨a, vs, n, v, rfl, rfl, SqL.of h, hv, k N H A⟩
end
end GL

/-! I1: is_log: all of a comprehension. -/
namespace GL
open PySem PySem.Spec L2
open PyProof.Rows hiding St
open SX (S)
local macro_rules | `(tactic| walk_at "mem") => `(tactic| (first | exact List.Mem.head _ | exact List.Mem.tail _ (List.Mem.head _) | exact List.Mem.tail _ (List.Mem.tail _ (List.Mem.head _)) | ((repeat (first | exact List.Mem.head _ | apply List.Mem.tail)); done)))
local macro_rules | `(tactic| walk_at "inl") => `(tactic| (first | exact InL.int _ | exact InL.str _ | exact InL.bl _ | exact InL.non | (refine InL.mem ?zm; walk_at "mem") | assumption))
local macro_rules | `(tactic| walk_at "inls") => `(tactic| (repeat (first | exact InLs.nil | (refine InLs.cons ?zi ?_; case zi => walk_at "inl"))))
local macro_rules | `(tactic| walk_at "set") => `(tactic| (simp only [wipe, List.set_cons_succ, List.set_cons_zero]; rfl))
local macro_rules | `(tactic| walk_at "tails") => `(tactic| (first | exact sub_refl | exact sub_tail sub_refl | exact sub_tail (sub_tail sub_refl) | exact sub_nil | ((repeat (first | exact sub_refl | apply sub_tail)); done)))
local macro_rules | `(tactic| walk_at "sub") => `(tactic| (first | walk_at "tails" | ((repeat (refine sub_cons ?zi ?_; case zi => walk_at "inl")); walk_at "tails")))
local macro_rules | `(tactic| walk_at "g1") => `(tactic| (first
  | with_reducible refine d_seq ?_
  | with_reducible refine d_asg ?_
  | ((with_reducible refine d_name (σ' := ?zs) ?zh ?_); (case zh => walk_at "set"))
  | ((with_reducible refine d_var (v := ?zs) ?zh ?_); (case zh => rfl))
  | with_reducible refine d_C ?_
  | with_reducible refine d_op ?_
  | with_reducible refine d_cons ?_
  | with_reducible refine d_nil ?_
  | with_reducible refine d_cb ?_
  | with_reducible refine d_g ?_
  | with_reducible refine d_ifS ?_
  | with_reducible refine d_test ?_
  | with_reducible refine d_bl ?_
  | with_reducible refine d_addI ?_
  | with_reducible refine d_I0 ?_
  | with_reducible refine d_ret ?_
  | with_reducible refine d_retN ?_
  | with_reducible refine d_next ?_
  | with_reducible refine d_drop ?_
  | with_reducible refine d_and ?_
  | with_reducible refine d_or ?_
  | with_reducible refine d_not ?_
  | with_reducible refine d_andV ?_
  | with_reducible refine d_orV ?_
  | with_reducible refine d_notV ?_
  | with_reducible refine d_tru ?_
  | with_reducible refine d_truB ?_
  | with_reducible refine d_tif ?_
  | with_reducible refine d_iteT ?_
  | with_reducible refine d_iteF ?_
  | with_reducible refine d_iteNT ?_
  | with_reducible refine d_iteNF ?_
  | with_reducible refine d_eqI ?_
  | with_reducible refine d_neI ?_
  | with_reducible refine d_eqS ?_
  | with_reducible refine d_neS ?_
  | with_reducible refine d_eqB ?_
  | with_reducible refine d_neB ?_
  | with_reducible refine d_isN ?_
  | with_reducible refine d_notN ?_
  | with_reducible refine d_bm ?_
  | with_reducible refine d_tyS ?_
  | with_reducible refine d_tyO ?_
  | with_reducible refine d_find3 ?_
  | with_reducible refine d_tup ?_
  | with_reducible refine d_lst ?_
  | with_reducible refine d_for ?_
  | with_reducible refine d_iRng1 ?_
  | with_reducible refine d_gIt ?_
  | with_reducible refine d_lc ?_
  | with_reducible refine d_yes ?_
  | with_reducible refine d_tSl ?_
  | with_reducible refine d_noPart ?_
  | with_reducible refine d_part ?_
  | with_reducible refine d_int ?_
  | ((with_reducible refine d_wipe ?zh ?_); (case zh => rfl))
  | ((with_reducible refine d_aug (v := ?zs) ?zh ?_); (case zh => rfl))
  | with_reducible refine d_ipI ?_
  | ((with_reducible refine d_set (σ' := ?zs) ?zh ?_); (case zh => walk_at "set"))))
local macro_rules | `(tactic| walk_at "go") => `(tactic| (repeat walk_at "g1"))
def goodB (cs : List Nat) (k : Nat) : Bool := cs.all fun c => decide (c ∈ ([97, 98, 99] : List Nat).take k)
theorem goodB_iff {cs : List Nat} {k : Nat} : goodB cs k = true ↔ ∀ c ∈ cs, c ∈ ([97, 98, 99] : List Nat).take k := by
  simp [goodB]
def notStrT : List String := ["NoneType", "int", "bool", "tuple", "list", "dict"]
theorem notStr {K : PySem.W.Frag} {t : String} (h : t ∈ notStrT) : PySem.W.kitOne K (.type t) (.type "str") = some false := by
  simp only [notStrT, List.mem_cons, List.not_mem_nil, or_false] at h
  rcases h with rfl | rfl | rfl | rfl | rfl | rfl <;> rfl
def sp_is_log (K : PySem.W.Frag) : Sp := fun vs H Q E => ∃ (v : V) (k : Nat) (D0 : Hp) (F : Res) (l : List (V × PyData)) (N : Addr → Prop), vs = [v, .int k] ∧ At K D0 F l N H ∧
  ((∃ cs : List Nat, v = .str (S cs) ∧ cs.length ≤ 1000000 ∧ RD K D0 F l (Q (.bl (goodB cs k)))) ∨
   (∃ t, t ∈ notStrT ∧ (∀ (N : Addr → Prop) (H : Hp), At K D0 F l N H → TyX K H v (.type t)) ∧ RD K D0 F l (Q (.bl false))))
def t_is_log (K : PySem.W.Frag) (W : WX) : TS := (tRet (tAndV (tCB (rIsi K) (tCons (tVar 0) (tCons (tC (.ty "str")) tNil))) (tCB (rAll K) (tCons (tLc (gIt K (tVar 0)) (gName 2) tYes (tOp (gIn K false) (tVar 2) (tSl (gSl K) (tC (.str "abc")) tNoPart (tPart (tVar 1)))) [2]) tNil))))

section
variable {K : PySem.W.Frag} {W : WX} {D0 : Hp} {R : Res} {l : List (V × PyData)} {Q : VK} {vs : List V} {H : Hp} {E : XK}
theorem d_all {x : V} {bs : List Bool} (hx : InL l x (.list (bs.map .bool))) (k : RD K D0 R l (Q (.bl (bs.all id)))) : RD K D0 R l (fun H => L2.rAll K [x] H Q) := fun N H A => by
  obtain ⟨p, xs, rfl, hp, hd⟩ := (A.dt hx).list
  obtain rfl := hd.bls
  exact ⟨p, bs, rfl, SqL.of (off_same p _ hp), k N H A⟩
theorem len_is_log (h : sp_is_log K vs H Q E) : vs.length = 2 := by
  obtain ⟨_, _, _, _, _, _, rfl, _⟩ := h
  rfl
theorem pure_is_log (h : sp_is_log K vs H Q E) : t_is_log K W { nx := fun _ H' => Q .non H', rt := Q } (start ["value", "signs", "letter"] vs) H := by
  obtain ⟨v, k, D0, F, l, N, rfl, A, h⟩ := h
  refine (?_ : RD K D0 F l (fun H => t_is_log K W _ [some v, some (.int k), none] H)) N H A
  unfold t_is_log
  rcases h with ⟨cs, rfl, hl, kY⟩ | ⟨t, ht, hty, kN⟩
  · walk_at "go"
    refine d_isi (d := .str (S cs)) (InL.str _) (b := true) (fun t e => by subst e; rfl) ?_
    walk_at "go"
    refine d_lcStr (fun i R' l' es => R' = F ∧ l' = l ∧ es = (cs.take i).map fun c => PyData.bool (decide (c ∈ ([97, 98, 99] : List Nat).take k))) ⟨rfl, rfl, rfl⟩ ?_ ?_
    · rintro i c D R' l' es hc ⟨rfl, rfl, rfl⟩
      rw [S_tl] at hc
      have hi := (List.getElem?_eq_some_iff.1 hc).1
      walk_at "go"
      rw [abc_S]
      refine d_takeA (by decide) ?_
      refine d_inSg ?_
      rw [S_tl]
      refine d_item (l' := l') (d := .bool (decide (c ∈ ([97, 98, 99] : List Nat).take k))) (.bl _) ?_ ⟨rfl, rfl, ?_⟩ (by walk_at "sub")
      · rw [List.length_map, List.length_take]
        exact Nat.lt_of_lt_of_le (by omega) line_big
      · rw [List.take_succ, hc, List.map_append]; rfl
    · rintro v R' l' es ⟨rfl, rfl, rfl⟩
      rw [S_tl, List.take_length]
      refine d_all (bs := cs.map fun c => decide (c ∈ ([97, 98, 99] : List Nat).take k)) (.mem (by rw [List.map_map]; exact List.Mem.head _)) ?_
      have e : (cs.map fun c => decide (c ∈ ([97, 98, 99] : List Nat).take k)).all id = goodB cs k := by
        rw [List.all_map]; rfl
      rw [e]
      exact RD.forget kY
  · walk_at "go"
    refine d_ty hty (notStr ht) ?_
    walk_at "go"
    exact kN
theorem d_isLogS {cs : List Nat} {k : Nat} (hl : cs.length ≤ 1000000) (kk : RD K D0 R l (Q (.bl (goodB cs k)))) : RD K D0 R l (fun H => sp_is_log K [.str (S cs), .int k] H Q E) :=
  fun N H A => ⟨.str (S cs), k, D0, R, l, N, rfl, A, .inl ⟨cs, rfl, hl, kk⟩⟩
theorem d_isLogN {v : V} {t : String} {k : Nat} (ht : t ∈ notStrT) (hty : ∀ (N : Addr → Prop) (H : Hp), At K D0 R l N H → TyX K H v (.type t)) (kk : RD K D0 R l (Q (.bl false))) : RD K D0 R l (fun H => sp_is_log K [v, .int k] H Q E) :=
  fun N H A => ⟨v, k, D0, R, l, N, rfl, A, .inr ⟨t, ht, hty, kk⟩⟩
end
end GL

/-! L01: logs required. -/
namespace L01
open PySem PySem.Spec L2 GL
open PyProof.Rows hiding St
open SX (S)
local macro_rules | `(tactic| walk_at "mem") => `(tactic| (first | exact List.Mem.head _ | exact List.Mem.tail _ (List.Mem.head _) | exact List.Mem.tail _ (List.Mem.tail _ (List.Mem.head _)) | ((repeat (first | exact List.Mem.head _ | apply List.Mem.tail)); done)))
local macro_rules | `(tactic| walk_at "inl") => `(tactic| (first | exact InL.int _ | exact InL.str _ | exact InL.bl _ | exact InL.non | (refine InL.mem ?zm; walk_at "mem") | assumption))
local macro_rules | `(tactic| walk_at "inls") => `(tactic| (repeat (first | exact InLs.nil | (refine InLs.cons ?zi ?_; case zi => walk_at "inl"))))
local macro_rules | `(tactic| walk_at "set") => `(tactic| (simp only [wipe, List.set_cons_succ, List.set_cons_zero]; rfl))
local macro_rules | `(tactic| walk_at "tails") => `(tactic| (first | exact sub_refl | exact sub_tail sub_refl | exact sub_tail (sub_tail sub_refl) | exact sub_nil | ((repeat (first | exact sub_refl | apply sub_tail)); done)))
local macro_rules | `(tactic| walk_at "sub") => `(tactic| (first | walk_at "tails" | ((repeat (refine sub_cons ?zi ?_; case zi => walk_at "inl")); walk_at "tails")))
local macro_rules | `(tactic| walk_at "g1") => `(tactic| (first
  | with_reducible refine d_seq ?_
  | with_reducible refine d_asg ?_
  | ((with_reducible refine d_name (σ' := ?zs) ?zh ?_); (case zh => walk_at "set"))
  | ((with_reducible refine d_var (v := ?zs) ?zh ?_); (case zh => rfl))
  | with_reducible refine d_C ?_
  | with_reducible refine d_op ?_
  | with_reducible refine d_cons ?_
  | with_reducible refine d_nil ?_
  | with_reducible refine d_cb ?_
  | with_reducible refine d_g ?_
  | with_reducible refine d_ifS ?_
  | with_reducible refine d_test ?_
  | with_reducible refine d_bl ?_
  | with_reducible refine d_addI ?_
  | with_reducible refine d_I0 ?_
  | with_reducible refine d_ret ?_
  | with_reducible refine d_retN ?_
  | with_reducible refine d_next ?_
  | with_reducible refine d_drop ?_
  | with_reducible refine d_and ?_
  | with_reducible refine d_or ?_
  | with_reducible refine d_not ?_
  | with_reducible refine d_andV ?_
  | with_reducible refine d_orV ?_
  | with_reducible refine d_notV ?_
  | with_reducible refine d_tru ?_
  | with_reducible refine d_truB ?_
  | with_reducible refine d_tif ?_
  | with_reducible refine d_iteT ?_
  | with_reducible refine d_iteF ?_
  | with_reducible refine d_iteNT ?_
  | with_reducible refine d_iteNF ?_
  | with_reducible refine d_eqI ?_
  | with_reducible refine d_neI ?_
  | with_reducible refine d_eqS ?_
  | with_reducible refine d_neS ?_
  | with_reducible refine d_eqB ?_
  | with_reducible refine d_neB ?_
  | with_reducible refine d_isN ?_
  | with_reducible refine d_notN ?_
  | with_reducible refine d_bm ?_
  | with_reducible refine d_tyS ?_
  | with_reducible refine d_tyO ?_
  | with_reducible refine d_find3 ?_
  | with_reducible refine d_tup ?_
  | with_reducible refine d_lst ?_
  | with_reducible refine d_for ?_
  | with_reducible refine d_iRng1 ?_
  | with_reducible refine d_gIt ?_
  | with_reducible refine d_lc ?_
  | with_reducible refine d_yes ?_
  | with_reducible refine d_tSl ?_
  | with_reducible refine d_noPart ?_
  | with_reducible refine d_part ?_
  | with_reducible refine d_int ?_
  | ((with_reducible refine d_wipe ?zh ?_); (case zh => rfl))
  | ((with_reducible refine d_aug (v := ?zs) ?zh ?_); (case zh => rfl))
  | with_reducible refine d_ipI ?_
  | ((with_reducible refine d_set (σ' := ?zs) ?zh ?_); (case zh => walk_at "set"))))
local macro_rules | `(tactic| walk_at "go") => `(tactic| (repeat walk_at "g1"))
local macro_rules | `(tactic| walk_at "g1") => `(tactic| (first
  | with_reducible refine d_try ?_
  | with_reducible refine d_rz ?_
  | with_reducible refine d_tXf ?_
))
def good (cs : List Nat) (k : Nat) : Prop := ∀ c ∈ cs, c ∈ ([97, 98, 99] : List Nat).take k
def oddT : List String := ["NoneType", "int", "bool", "tuple", "list", "dict"]
theorem odd_str {K : PySem.W.Frag} {t : String} (h : t ∈ oddT) : PySem.W.kitOne K (.type t) (.type "str") = some false := by
  simp only [oddT, List.mem_cons, List.not_mem_nil, or_false] at h
  rcases h with rfl | rfl | rfl | rfl | rfl | rfl <;> rfl
def sp_require_log (K : PySem.W.Frag) : Sp := fun vs H Q E => ∃ (v : V) (k : Nat) (D0 : Hp) (F : Res) (l : List (V × PyData)) (N : Addr → Prop), vs = [v, .int k] ∧ 1 ≤ k ∧ k ≤ 3 ∧ At K D0 F l N H ∧
  ((∃ cs : List Nat, v = .str (S cs) ∧ cs.length ≤ 1000000 ∧ (good cs k → RD K D0 F l (Q v)) ∧ (¬ good cs k → ∀ d, RD K D0 (star (xdo d [("value", v)]) F) l (E (.ref (He.ga K "NotALog")) (some d)))) ∨
   (∃ t, t ∈ oddT ∧ (∀ (N : Addr → Prop) (H : Hp), At K D0 F l N H → TyX K H v (.type t)) ∧ ∀ d, RD K D0 (star (xdo d [("value", v)]) F) l (E (.ref (He.ga K "NotALog")) (some d))))
def sp__law_raised (K : PySem.W.Frag) : Sp := fun vs H Q _ => ∃ (v : V) (k : Nat) (D0 : Hp) (F : Res) (l : List (V × PyData)) (N : Addr → Prop) (z : Str), vs = [v, .int k] ∧ 1 ≤ k ∧ k ≤ 3 ∧ At K D0 F l N H ∧
  (∀ (N : Addr → Prop) (H : Hp) (Q' : VK), At K D0 F l N H → Q' (.str z) H → gShow K [v] H Q') ∧
  ((∃ cs : List Nat, v = .str (S cs) ∧ cs.length ≤ 1000000 ∧ (good cs k → ∀ u, RD K D0 F ((u, .tuple [.str "log", .str (S cs)]) :: l) (Q u)) ∧ (¬ good cs k → ∀ u, RD K D0 F ((u, .tuple [.str "not", .bool true]) :: l) (Q u))) ∨
   (∃ t, t ∈ oddT ∧ (∀ (N : Addr → Prop) (H : Hp), At K D0 F l N H → TyX K H v (.type t)) ∧ ∀ u, RD K D0 F ((u, .tuple [.str "not", .bool true]) :: l) (Q u)))
def t_require_log (K : PySem.W.Frag) (W : WX) : TS := (tSeq (tIfS (tNot (tTru K (tG (sp_is_log K) W (tCons (tVar 0) (tCons (tVar 1) tNil))))) (tRz (He.ga K "NotALog") "value" W (tCons (tVar 0) tNil)) tNext)
  (tRet (tVar 0)))

def t__law_raised (K : PySem.W.Frag) (W : WX) : TS := (tSeq (tAsg (tC .non) (gName 2))
  (tSeq (tTry K (He.ga K "NotALog") 3 (fun W1 => (tAsg (tTup (tCons (tC (.str "log")) (tCons (tG (sp_require_log K) W1 (tCons (tVar 0) (tCons (tVar 1) tNil))) tNil))) (gName 2))) (fun a cls d => (tAsg (tTup (tCons (tC (.str "not")) (tCons (tOp (gEq K) (tCB (gShow K) (tCons (tXf a cls d (He.ga K "NotALog") "value" (tVar 3)) tNil)) (tCB (gShow K) (tCons (tVar 0) tNil))) tNil))) (gName 2))) W)
  (tRet (tVar 2))))

def t_law (K : PySem.W.Frag) (W : WX) : TS := (tSeq (tAsg (tG (sp__law_pen K) W (tCons (tVar 0) tNil)) (gName 1))
  (tSeq (tFor (iRng1 (tCons (tC (.int 10)) tNil)) (gName 2) (tSeq (tAsg (tOp (gAdd K) (tC (.int 1)) (tG (sp__law_draw K) W (tCons (tVar 1) (tCons (tC (.int 3)) tNil)))) (gName 3))
  (tSeq (tAsg (tOp gMulA (tG (sp__law_string K) W (tCons (tVar 1) (tCons (tVar 3) (tCons (tC (.int 30)) tNil)))) (tOp (rIx K) (tLst (tCons (tC (.int 1)) (tCons (tC (.int 1)) (tCons (tC (.int 1)) (tCons (tC (.int 20)) tNil))))) (tG (sp__law_draw K) W (tCons (tVar 1) (tCons (tC (.int 4)) tNil))))) (gName 4))
  (tSeq (tIfS (tTest (tOp (gEq K) (tG (sp__law_draw K) W (tCons (tVar 1) (tCons (tC (.int 3)) tNil))) (tC (.int 0)))) (tSeq (tAsg (tG (sp__law_draw K) W (tCons (tVar 1) (tCons (tOp (gAdd K) (tCB (gLen K) (tCons (tVar 4) tNil)) (tC (.int 1))) tNil))) (gName 5))
  (tAsg (tOp (gAdd K) (tOp (gAdd K) (tSl (gSl K) (tVar 4) tNoPart (tPart (tVar 5))) (tOp (rIx K) (tC (.str "abcdABC -\n0")) (tG (sp__law_draw K) W (tCons (tVar 1) (tCons (tC (.int 11)) tNil))))) (tSl (gSl K) (tVar 4) (tPart (tVar 5)) tNoPart)) (gName 4))) tNext)
  (tSeq (tIfS (tTest (tOp (gEq K) (tG (sp__law_draw K) W (tCons (tVar 1) (tCons (tC (.int 6)) tNil))) (tC (.int 0)))) (tAsg (tOp (rIx K) (tLst (tCons (tC .non) (tCons (tC (.int 0)) (tCons (tC (.bl true)) (tCons (tTup tNil) (tCons (tTup (tCons (tC (.str "a")) tNil)) (tCons (tLst (tCons (tC (.str "a")) (tCons (tC (.str "b")) tNil))) (tCons tDNewK (tCons (tC (.str "ab")) (tCons (tOp gPow (tC (.int 10)) (tC (.int 20))) tNil)))))))))) (tG (sp__law_draw K) W (tCons (tVar 1) (tCons (tC (.int 9)) tNil)))) (gName 4)) tNext)
  (tSeq (tAsg (tCB (gShow K) (tCons (tVar 4) tNil)) (gName 6))
  (tSeq (tAsg (tAndV (tCB (rIsi K) (tCons (tVar 4) (tCons (tC (.ty "str")) tNil))) (tOp (gEq K) (tLc (gIt K (tVar 4)) (gName 8) (tTest (tOp (gIn K true) (tVar 8) (tSl (gSl K) (tC (.str "abc")) tNoPart (tPart (tVar 3))))) (tVar 8) [8]) (tLst tNil))) (gName 7))
  (tIfS (tOr (tTest (tOp (gNe K) (tG (sp__law_raised K) W (tCons (tVar 4) (tCons (tVar 3) tNil))) (tIf (tTru K (tVar 7)) (tTup (tCons (tC (.str "log")) (tCons (tVar 4) tNil))) (tTup (tCons (tC (.str "not")) (tCons (tC (.bl true)) tNil)))))) (tTest (tOp (gNe K) (tCB (gShow K) (tCons (tVar 4) tNil)) (tVar 6)))) (tRet (tC (.bl false))) tNext))))))))
  (tRet (tC (.bl true)))))

def t_rest (K : PySem.W.Frag) (W : WX) : TS := (tSeq (tAsg (tCB (gShow K) (tCons (tVar 4) tNil)) (gName 6))
  (tSeq (tAsg (tAndV (tCB (rIsi K) (tCons (tVar 4) (tCons (tC (.ty "str")) tNil))) (tOp (gEq K) (tLc (gIt K (tVar 4)) (gName 8) (tTest (tOp (gIn K true) (tVar 8) (tSl (gSl K) (tC (.str "abc")) tNoPart (tPart (tVar 3))))) (tVar 8) [8]) (tLst tNil))) (gName 7))
  (tIfS (tOr (tTest (tOp (gNe K) (tG (sp__law_raised K) W (tCons (tVar 4) (tCons (tVar 3) tNil))) (tIf (tTru K (tVar 7)) (tTup (tCons (tC (.str "log")) (tCons (tVar 4) tNil))) (tTup (tCons (tC (.str "not")) (tCons (tC (.bl true)) tNil)))))) (tTest (tOp (gNe K) (tCB (gShow K) (tCons (tVar 4) tNil)) (tVar 6)))) (tRet (tC (.bl false))) tNext)))

def t_mid (K : PySem.W.Frag) (W : WX) : TS := (tSeq (tIfS (tTest (tOp (gEq K) (tG (sp__law_draw K) W (tCons (tVar 1) (tCons (tC (.int 6)) tNil))) (tC (.int 0)))) (tAsg (tOp (rIx K) (tLst (tCons (tC .non) (tCons (tC (.int 0)) (tCons (tC (.bl true)) (tCons (tTup tNil) (tCons (tTup (tCons (tC (.str "a")) tNil)) (tCons (tLst (tCons (tC (.str "a")) (tCons (tC (.str "b")) tNil))) (tCons tDNewK (tCons (tC (.str "ab")) (tCons (tOp gPow (tC (.int 10)) (tC (.int 20))) tNil)))))))))) (tG (sp__law_draw K) W (tCons (tVar 1) (tCons (tC (.int 9)) tNil)))) (gName 4)) tNext)
  (tSeq (tAsg (tCB (gShow K) (tCons (tVar 4) tNil)) (gName 6))
  (tSeq (tAsg (tAndV (tCB (rIsi K) (tCons (tVar 4) (tCons (tC (.ty "str")) tNil))) (tOp (gEq K) (tLc (gIt K (tVar 4)) (gName 8) (tTest (tOp (gIn K true) (tVar 8) (tSl (gSl K) (tC (.str "abc")) tNoPart (tPart (tVar 3))))) (tVar 8) [8]) (tLst tNil))) (gName 7))
  (tIfS (tOr (tTest (tOp (gNe K) (tG (sp__law_raised K) W (tCons (tVar 4) (tCons (tVar 3) tNil))) (tIf (tTru K (tVar 7)) (tTup (tCons (tC (.str "log")) (tCons (tVar 4) tNil))) (tTup (tCons (tC (.str "not")) (tCons (tC (.bl true)) tNil)))))) (tTest (tOp (gNe K) (tCB (gShow K) (tCons (tVar 4) tNil)) (tVar 6)))) (tRet (tC (.bl false))) tNext))))

section
variable {K : PySem.W.Frag} {W : WX} {D0 : Hp} {R : Res} {l : List (V × PyData)} {Q : VK} {vs : List V} {H : Hp} {E : XK}
theorem len_require_log (h : sp_require_log K vs H Q E) : vs.length = 2 := by
  obtain ⟨_, _, _, _, _, _, rfl, _⟩ := h
  rfl
theorem len__law_raised (h : sp__law_raised K vs H Q E) : vs.length = 2 := by
  obtain ⟨_, _, _, _, _, _, _, rfl, _⟩ := h
  rfl
theorem pure_require_log (h : sp_require_log K vs H Q E) : t_require_log K (fun cls d _ H => E cls d H) { nx := fun _ H' => Q .non H', rt := Q } (start ["value", "signs"] vs) H := by
  obtain ⟨v, k, D0, F, l, N, rfl, k1, k3, A, h⟩ := h
  refine (?_ : RD K D0 F l (fun H => t_require_log K (fun cls d _ H => E cls d H) _ [some v, some (.int k)] H)) N H A
  unfold t_require_log
  rcases h with ⟨cs, rfl, hl, kY, kN⟩ | ⟨t, ht, hty, kN⟩
  · walk_at "go"
    refine d_isLogS hl ?_
    walk_at "go"
    cases hg : goodB cs k with
    | true =>
      walk_at "go"
      exact kY (goodB_iff.1 hg)
    | false =>
      walk_at "go"
      refine d_kRz fun d => ?_
      exact kN (fun z => by rw [goodB_iff.2 z] at hg; cases hg) d
  · walk_at "go"
    refine d_isLogN ht hty ?_
    walk_at "go"
    refine d_kRz fun d => ?_
    exact kN d
theorem pure__law_raised {fI : Addr} (T : ExT K (He.ga K "NotALog") fI "value") (h : sp__law_raised K vs H Q E) : t__law_raised K W { nx := fun _ H' => Q .non H', rt := Q } (start ["value", "k", "found", "e"] vs) H := by
  obtain ⟨v, k, D0, F, l, N, z, rfl, k1, k3, A, hsh, h⟩ := h
  refine (?_ : RD K D0 F l (fun H => t__law_raised K W _ [some v, some (.int k), none, none] H)) N H A
  unfold t__law_raised
  have bad : ∀ (d : Addr), (∀ u, RD K D0 F ((u, .tuple [.str "not", .bool true]) :: l) (Q u)) → RD K D0 (star (xdo d [("value", v)]) F) l (fun H' =>
      wAs K (.ref (He.ga K "NotALog")) 3 (fun a cls d => (tAsg (tTup (tCons (tC (.str "not")) (tCons (tOp (gEq K) (tCB (gShow K) (tCons (tXf a cls d (He.ga K "NotALog") "value" (tVar 3)) tNil)) (tCB (gShow K) (tCons (tVar 0) tNil))) tNil))) (gName 2))) W
        { nx := tRet (tVar 2) { nx := fun _ H' => Q .non H', rt := Q }, rt := Q } (.ref (He.ga K "NotALog")) (some d) [some v, some (.int k), some .non, none] H') := fun d kk => by
    refine d_caught T.te fun a => ?_
    walk_at "go"
    refine d_kXf ?_
    walk_at "go"
    have hsh' : ∀ (N : Addr → Prop) (H : Hp) (Q' : VK), At K D0 (star (xdo d [("value", v)]) F) l N H → Q' (.str z) H → gShow K [v] H Q' := fun N H Q' A q => by
      obtain ⟨N', A'⟩ := A.dropX
      exact hsh N' H Q' A' q
    refine d_show hsh' ?_
    walk_at "go"
    refine d_show hsh' ?_
    walk_at "go"
    rw [decide_eq_true rfl]
    refine d_newT (ds := [.str "not", .bool true]) (by decide) (by walk_at "inls") fun u => ?_
    walk_at "go"
    exact RD.dropX (kk u)
  walk_at "go"
  rcases h with ⟨cs, rfl, hl, kY, kN⟩ | ⟨t, ht, hty, kN⟩
  · refine fun N H A => ⟨.str (S cs), k, D0, F, l, N, rfl, k1, k3, A, .inl ⟨cs, rfl, hl, fun hg => ?_, fun hg d => bad d (kN hg)⟩⟩
    walk_at "go"
    refine d_newT (ds := [.str "log", .str (S cs)]) (show 2 ≤ sizeLine by decide) (by walk_at "inls") fun u => ?_
    walk_at "go"
    exact kY hg u
  · exact fun N H A => ⟨v, k, D0, F, l, N, rfl, k1, k3, A, .inr ⟨t, ht, hty, fun d => bad d kN⟩⟩
theorem eqv_nil (ds : List Nat) : PyData.eqv (.list (ds.map fun c => PyData.str (S [c]))) (.list []) = decide (ds = []) := by
  cases ds with
  | nil => simp [PyData.eqv, PyData.eqvAll]
  | cons c r => simp [PyData.eqv, PyData.eqvAll]
theorem depth_log (s : Str) : (PyData.tuple [.str "log", .str s]).depth ≤ 60 := by simp [PyData.depth, PyData.depthAll]
theorem eqv_log (s : Str) : PyData.eqv (.tuple [.str "log", .str s]) (.tuple [.str "log", .str s]) = true := by simp [PyData.eqv, PyData.eqvAll]
def menu : List Nat := [97, 98, 99, 100, 65, 66, 67, 32, 45, 10, 48]
theorem menu_S : ("abcdABC -\n0" : Str) = S menu := by decide +kernel
theorem at_some {cs : List Nat} {i : Int} (h1 : -(cs.length : Int) ≤ i) (h2 : i < cs.length) : ∃ x, atI cs i = some x := by
  unfold atI ixN
  by_cases h0 : 0 ≤ i
  · rw [if_pos h0, if_pos h2]
    exact ⟨_, List.getElem?_eq_getElem (by omega)⟩
  · rw [if_neg h0, if_pos h1]
    exact ⟨_, List.getElem?_eq_getElem (by omega)⟩
theorem menu_lt : ∀ c ∈ menu, c < 16 ^ 8 := by decide
theorem at_mem {cs : List Nat} {i : Int} {x : Nat} (h : atI cs i = some x) : x ∈ cs := by
  unfold atI at h
  obtain ⟨j, _, e⟩ := Option.bind_eq_some_iff.1 h
  exact List.mem_of_getElem? e
theorem signs_lt {k : Nat} {cs : List Nat} (hk : k ≤ 3) (h : Signs k cs) : ∀ c ∈ cs, c < 16 ^ 8 := fun c hc => by
  have := h c hc
  omega
theorem shown_str {cs : List Nat} (h : cs.length ≤ 1000) (hb : ∀ c ∈ cs, c < 16 ^ 8) : (PyData.str (S cs)).shown.length ≤ sizeLine := by
  have e := PySem.StrLaws.reprText_len (S cs) (by rw [S_tl]; exact hb)
  rw [S_len cs] at e
  have e2 : (PyData.str (S cs)).shown = reprText (S cs) := by rw [PyData.shown]
  rw [e2]
  exact Nat.le_trans (by omega) line_big
theorem small_ok {d : PyData} (h : d.shown.length ≤ 1000) : d.shown.length ≤ sizeLine := Nat.le_trans (Nat.le_trans h (by decide)) line_big
theorem ty_of {v : V} {d : PyData} {N : Addr → Prop} {H : Hp} (h : InL l v d) (A : At K D0 R l N H) : TyX K H v (.type (tyD d)) := by
  obtain ⟨t, ht, rfl⟩ := (A.dH h).ty
  exact ht
theorem d_raised {v : V} {k : Nat} {z : Str} (k1 : 1 ≤ k) (k3 : k ≤ 3) (hsh : ∀ (N : Addr → Prop) (H : Hp) (Q' : VK), At K D0 R l N H → Q' (.str z) H → gShow K [v] H Q')
    (h : (∃ cs : List Nat, v = .str (S cs) ∧ cs.length ≤ 1000000 ∧ (good cs k → ∀ u, RD K D0 R ((u, .tuple [.str "log", .str (S cs)]) :: l) (Q u)) ∧ (¬ good cs k → ∀ u, RD K D0 R ((u, .tuple [.str "not", .bool true]) :: l) (Q u))) ∨
      (∃ t, t ∈ oddT ∧ (∀ (N : Addr → Prop) (H : Hp), At K D0 R l N H → TyX K H v (.type t)) ∧ ∀ u, RD K D0 R ((u, .tuple [.str "not", .bool true]) :: l) (Q u))) : RD K D0 R l (fun H => sp__law_raised K [v, .int k] H Q E) :=
  fun N H A => ⟨v, k, D0, R, l, N, z, rfl, k1, k3, A, hsh, h⟩
theorem show_data {v : V} {d : PyData} (hx : InL l v d) (h1 : d.showable = true) (h2 : d.depth ≤ 60) (h3 : d.shown.length ≤ sizeLine) (h4 : d.hasDict = false) :
    ∀ (N : Addr → Prop) (H : Hp) (Q' : VK), At K D0 R l N H → Q' (.str d.shown) H → gShow K [v] H Q' := fun N H Q' A q => .inl ⟨v, d, rfl, (A.dH hx).dp, h1, h4, h2, h3, q⟩
theorem rest_ok {D : Ends} {a p : Addr} {i : Int} {k : Nat} {v : V} {z : Str} {v5 v6 v7 v8 : Option V} {R0 : Res} (k1 : 1 ≤ k) (k3 : k ≤ 3)
    (hsh : ∀ (l' : List (V × PyData)), (∀ q ∈ l, InL l' q.1 q.2) → ∀ (N : Addr → Prop) (H : Hp) (Q' : VK), At K D0 (star (pen K p) R0) l' N H → Q' (.str z) H → gShow K [v] H Q')
    (hv : (∃ cs : List Nat, v = .str (S cs) ∧ cs.length ≤ 1000) ∨ ∃ t, t ∈ oddT ∧ ∀ (l' : List (V × PyData)), (∀ q ∈ l, InL l' q.1 q.2) → ∀ (N : Addr → Prop) (H : Hp), At K D0 (star (pen K p) R0) l' N H → TyX K H v (.type t))
    (hD : ∀ (l' : List (V × PyData)) (w5 w6 w7 w8 : Option V), RD K D0 (star (pen K p) R0) l' (fun H => D.nx [some (.ref a), some (.ref p), some (.int i), some (.int k), some v, w5, w6, w7, w8] H)) :
    RD K D0 (star (pen K p) R0) l (fun H => t_rest K W D [some (.ref a), some (.ref p), some (.int i), some (.int k), some v, v5, v6, v7, v8] H) := by
  unfold t_rest
  walk_at "go"
  refine d_show (hsh l fun q hq => .mem hq) ?_
  walk_at "go"
  rcases hv with ⟨cs, rfl, hl⟩ | ⟨t, ht, hty⟩
  · refine d_isi (d := .str (S cs)) (InL.str _) (b := true) (fun t e => by subst e; rfl) ?_
    walk_at "go"
    rw [abc_S]
    refine d_lcStr (fun i R' l' es => R' = star (pen K p) R0 ∧ l' = l ∧ ∃ ds : List Nat, es = ds.map (fun c => PyData.str (S [c])) ∧ (ds = [] ↔ ∀ c ∈ cs.take i, c ∈ ([97, 98, 99] : List Nat).take k) ∧ ds.length ≤ i) ?_ ?_ ?_
    · exact ⟨rfl, rfl, [], rfl, ⟨fun _ c hc => by simp at hc, fun _ => rfl⟩, Nat.le_refl _⟩
    · rintro j c D2 R' l' es hc ⟨rfl, rfl, ds, rfl, hds, hdl⟩
      rw [S_tl] at hc
      have hj := (List.getElem?_eq_some_iff.1 hc).1
      walk_at "go"
      refine d_takeA (by decide) ?_
      refine d_notInSg ?_
      rw [S_tl]
      walk_at "go"
      by_cases hm : c ∈ ([97, 98, 99] : List Nat).take k
      · refine d_iteN (by simp [hm]) ?_
        refine d_noItem (l' := l') ?_ (by walk_at "sub")
        refine ⟨rfl, rfl, ds, rfl, hds.trans ⟨fun h b hb => ?_, fun h b hb => h b (by rw [List.take_succ]; exact List.mem_append_left _ hb)⟩, by omega⟩
        rw [List.take_succ, hc] at hb
        rcases List.mem_append.1 hb with q | q
        · exact h b q
        · have e : b = c := by simpa using q
          rw [e]
          exact hm
      · refine d_iteY (by simp [hm]) ?_
        walk_at "go"
        refine d_item (l' := l') (d := .str (S [c])) (.str _) ?_ ?_ (by walk_at "sub")
        · rw [List.length_map]
          exact Nat.lt_of_lt_of_le (by omega) line_big
        · refine ⟨rfl, rfl, ds ++ [c], by rw [List.map_append]; rfl, ⟨fun h => by simp at h, fun h => absurd (h c (by rw [List.take_succ, hc]; simp)) hm⟩, by rw [List.length_append]; simp; omega⟩
    · rintro v1 R' l' es ⟨rfl, rfl, ds, rfl, hds, hdl⟩
      rw [S_tl, List.take_length] at hds
      walk_at "go"
      refine d_newL (ds := []) (by decide) (by walk_at "inls") fun v2 => ?_
      walk_at "go"
      refine d_eq (d := .list (ds.map fun c => PyData.str (S [c]))) (e := .list []) (InL.mem (List.Mem.tail _ (List.Mem.head _))) (InL.mem (List.Mem.head _)) (depth_signs _) ?_
      rw [eqv_nil]
      walk_at "go"
      refine d_raised (z := z) k1 k3 (hsh _ fun q hq => .mem (List.mem_cons_of_mem _ (List.mem_cons_of_mem _ hq))) (.inl ⟨cs, rfl, by omega, fun hg u => ?_, fun hg u => ?_⟩)
      · have e : ds = [] := hds.2 hg
        subst e
        rw [decide_eq_true rfl]
        walk_at "go"
        refine d_newT (ds := [.str "log", .str (S cs)]) (show 2 ≤ sizeLine by decide) (by walk_at "inls") fun u2 => ?_
        walk_at "go"
        refine d_ne (d := .tuple [.str "log", .str (S cs)]) (e := .tuple [.str "log", .str (S cs)]) (InL.mem (List.Mem.tail _ (List.Mem.head _))) (InL.mem (List.Mem.head _)) (depth_log _) ?_
        rw [eqv_log]
        walk_at "go"
        refine d_show (hsh _ fun q hq => .mem (List.mem_cons_of_mem _ (List.mem_cons_of_mem _ (List.mem_cons_of_mem _ (List.mem_cons_of_mem _ hq))))) ?_
        walk_at "go"
        refine d_iteN (by simp) ?_
        walk_at "go"
        exact hD _ _ _ _ _
      · have e : ds ≠ [] := fun z => hg (hds.1 z)
        rw [decide_eq_false e]
        walk_at "go"
        refine d_newT (ds := [.str "not", .bool true]) (show 2 ≤ sizeLine by decide) (by walk_at "inls") fun u2 => ?_
        walk_at "go"
        refine d_ne (d := .tuple [.str "not", .bool true]) (e := .tuple [.str "not", .bool true]) (InL.mem (List.Mem.tail _ (List.Mem.head _))) (InL.mem (List.Mem.head _)) (by decide +kernel) ?_
        rw [show PyData.eqv (.tuple [.str "not", .bool true]) (.tuple [.str "not", .bool true]) = true by decide +kernel]
        walk_at "go"
        refine d_show (hsh _ fun q hq => .mem (List.mem_cons_of_mem _ (List.mem_cons_of_mem _ (List.mem_cons_of_mem _ (List.mem_cons_of_mem _ hq))))) ?_
        walk_at "go"
        refine d_iteN (by simp) ?_
        walk_at "go"
        exact hD _ _ _ _ _
  · refine d_ty (hty l fun q hq => .mem hq) (odd_str ht) ?_
    walk_at "go"
    refine d_raised k1 k3 (hsh l fun q hq => .mem hq) (.inr ⟨t, ht, fun N H A => hty l (fun q hq => .mem hq) N H A, fun u => ?_⟩)
    walk_at "go"
    refine d_newT (ds := [.str "not", .bool true]) (show 2 ≤ sizeLine by decide) (by walk_at "inls") fun u2 => ?_
    walk_at "go"
    refine d_ne (d := .tuple [.str "not", .bool true]) (e := .tuple [.str "not", .bool true]) (InL.mem (List.Mem.tail _ (List.Mem.head _))) (InL.mem (List.Mem.head _)) (by decide +kernel) ?_
    rw [show PyData.eqv (.tuple [.str "not", .bool true]) (.tuple [.str "not", .bool true]) = true by decide +kernel]
    walk_at "go"
    refine d_show (hsh _ fun q hq => .mem (List.mem_cons_of_mem _ (List.mem_cons_of_mem _ hq))) ?_
    walk_at "go"
    refine d_iteN (by simp) ?_
    walk_at "go"
    exact hD _ _ _ _ _
theorem mid_ok {D : Ends} {a p : Addr} {i : Int} {k : Nat} {cs : List Nat} {v5 v6 v7 v8 : Option V} {R0 : Res} (k1 : 1 ≤ k) (k3 : k ≤ 3) (hl : cs.length ≤ 1000) (hb : ∀ c ∈ cs, c < 16 ^ 8)
    (hD : ∀ (R1 : Res) (l' : List (V × PyData)) (v w5 w6 w7 w8 : Option V), RD K D0 (star (pen K p) R1) l' (fun H => D.nx [some (.ref a), some (.ref p), some (.int i), some (.int k), v, w5, w6, w7, w8] H)) :
    RD K D0 (star (pen K p) R0) l (fun H => t_mid K W D [some (.ref a), some (.ref p), some (.int i), some (.int k), some (.str (S cs)), v5, v6, v7, v8] H) := by
  unfold t_mid
  walk_at "go"
  refine d_draw (by decide) (by decide) fun o o0 o1 => ?_
  walk_at "go"
  refine d_iteP (fun _ => ?_) (fun _ => ?_)
  · walk_at "go"
    refine d_newT (ds := []) (by decide) (by walk_at "inls") fun u1 => ?_
    walk_at "go"
    refine d_newT (ds := [.str "a"]) (show 1 ≤ sizeLine by decide) (by walk_at "inls") fun u2 => ?_
    walk_at "go"
    refine d_newL (ds := [.str "a", .str "b"]) (show 2 ≤ sizeLine by decide) (by walk_at "inls") fun u3 => ?_
    refine d_cons ?_
    refine d_dnewP fun q => ?_
    walk_at "go"
    refine d_I (show CPow 10 20 from ⟨by decide, by decide, by decide⟩) ?_
    walk_at "go"
    refine d_newV (by show 9 ≤ sizeLine; decide) fun u => ?_
    walk_at "go"
    refine d_draw (by decide) (by decide) fun n n0 n1 => ?_
    walk_at "go"
    have fin : ∀ (v : V) (z : Str), atI [V.non, V.int 0, V.bl true, u1, u2, u3, V.ref q, V.str "ab", V.int (10 ^ Int.toNat 20)] n = some v →
        (∀ (l' : List (V × PyData)), (∀ x ∈ (u3, PyData.list [.str "a", .str "b"]) :: (u2, PyData.tuple [.str "a"]) :: (u1, PyData.tuple []) :: l, InL l' x.1 x.2) → ∀ (N : Addr → Prop) (H : Hp) (Q' : VK), At K D0 (star (pen K p) (star (fxo u (.lst [V.non, V.int 0, V.bl true, u1, u2, u3, V.ref q, V.str "ab", V.int (10 ^ Int.toNat 20)])) (star (fxo q (.dK [])) R0))) l' N H → Q' (.str z) H → gShow K [v] H Q') →
        ((∃ cs : List Nat, v = .str (S cs) ∧ cs.length ≤ 1000) ∨ ∃ t, t ∈ oddT ∧ ∀ (l' : List (V × PyData)), (∀ x ∈ (u3, PyData.list [.str "a", .str "b"]) :: (u2, PyData.tuple [.str "a"]) :: (u1, PyData.tuple []) :: l, InL l' x.1 x.2) → ∀ (N : Addr → Prop) (H : Hp), At K D0 (star (pen K p) (star (fxo u (.lst [V.non, V.int 0, V.bl true, u1, u2, u3, V.ref q, V.str "ab", V.int (10 ^ Int.toNat 20)])) (star (fxo q (.dK [])) R0))) l' N H → TyX K H v (.type t)) →
        RD K D0 (star (pen K p) (star (fxo u (.lst [V.non, V.int 0, V.bl true, u1, u2, u3, V.ref q, V.str "ab", V.int (10 ^ Int.toNat 20)])) (star (fxo q (.dK [])) R0))) ((u3, PyData.list [.str "a", .str "b"]) :: (u2, PyData.tuple [.str "a"]) :: (u1, PyData.tuple []) :: l)
          (fun H2 => rIx K (V.ref u) (V.int n) H2 fun x H1 => gName 4 x [some (V.ref a), some (V.ref p), some (V.int i), some (V.int k), some (V.str (S cs)), v5, v6, v7, v8] H1 fun σ2 H2 => t_rest K W D σ2 H2) := fun v z hv hs ht => by
      refine d_ixV hv ?_
      refine d_name (σ' := [some (.ref a), some (.ref p), some (.int i), some (.int k), some v, v5, v6, v7, v8]) rfl ?_
      exact rest_ok (z := z) k1 k3 hs ht fun l' w5 w6 w7 w8 => hD _ _ _ _ _ _ _
    have m1 : ∀ {l' : List (V × PyData)}, (∀ x ∈ (u3, PyData.list [.str "a", .str "b"]) :: (u2, PyData.tuple [.str "a"]) :: (u1, PyData.tuple []) :: l, InL l' x.1 x.2) → InL l' u1 (.tuple []) := fun h => h _ (List.Mem.tail _ (List.Mem.tail _ (List.Mem.head _)))
    have m2 : ∀ {l' : List (V × PyData)}, (∀ x ∈ (u3, PyData.list [.str "a", .str "b"]) :: (u2, PyData.tuple [.str "a"]) :: (u1, PyData.tuple []) :: l, InL l' x.1 x.2) → InL l' u2 (.tuple [.str "a"]) := fun h => h _ (List.Mem.tail _ (List.Mem.head _))
    have m3 : ∀ {l' : List (V × PyData)}, (∀ x ∈ (u3, PyData.list [.str "a", .str "b"]) :: (u2, PyData.tuple [.str "a"]) :: (u1, PyData.tuple []) :: l, InL l' x.1 x.2) → InL l' u3 (.list [.str "a", .str "b"]) := fun h => h _ (List.Mem.head _)
    have hn : n = 0 ∨ n = 1 ∨ n = 2 ∨ n = 3 ∨ n = 4 ∨ n = 5 ∨ n = 6 ∨ n = 7 ∨ n = 8 := by omega
    rcases hn with rfl | rfl | rfl | rfl | rfl | rfl | rfl | rfl | rfl
    · exact fin .non _ rfl (fun l' hl' => show_data .non rfl (by decide +kernel) (small_ok (by decide +kernel)) rfl) (.inr ⟨"NoneType", by simp [oddT], fun l' hl' N H A => .base .non⟩)
    · exact fin (.int 0) _ rfl (fun l' hl' => show_data (.int _) (by decide +kernel) (by decide +kernel) (small_ok (by decide +kernel)) rfl) (.inr ⟨"int", by simp [oddT], fun l' hl' N H A => .base (.int _)⟩)
    · exact fin (.bl true) _ rfl (fun l' hl' => show_data (.bl _) rfl (by decide +kernel) (small_ok (by decide +kernel)) rfl) (.inr ⟨"bool", by simp [oddT], fun l' hl' N H A => .base (.bl _)⟩)
    · exact fin u1 _ rfl (fun l' hl' => show_data (m1 hl') (by decide +kernel) (by decide +kernel) (small_ok (by decide +kernel)) rfl) (.inr ⟨"tuple", by simp [oddT], fun l' hl' N H A => ty_of (m1 hl') A⟩)
    · exact fin u2 _ rfl (fun l' hl' => show_data (m2 hl') (by decide +kernel) (by decide +kernel) (small_ok (by decide +kernel)) rfl) (.inr ⟨"tuple", by simp [oddT], fun l' hl' N H A => ty_of (m2 hl') A⟩)
    · exact fin u3 _ rfl (fun l' hl' => show_data (m3 hl') (by decide +kernel) (by decide +kernel) (small_ok (by decide +kernel)) rfl) (.inr ⟨"list", by simp [oddT], fun l' hl' N H A => ty_of (m3 hl') A⟩)
    · exact fin (.ref q) "{}" rfl (fun l' hl' N H Q' A hq => .inr ⟨q, rfl, by obtain ⟨_, _, h⟩ := A.third; exact h, hq⟩) (.inr ⟨"dict", by simp [oddT], fun l' hl' N H A => .base (.dK (by obtain ⟨_, _, h⟩ := A.third; exact h))⟩)
    · exact fin (.str "ab") _ rfl (fun l' hl' => show_data (.str _) rfl (by decide +kernel) (small_ok (by decide +kernel)) rfl) (.inl ⟨[97, 98], by rw [show ("ab" : Str) = S [97, 98] by decide +kernel], by decide⟩)
    · exact fin (.int (10 ^ Int.toNat 20)) _ rfl (fun l' hl' => show_data (.int _) (by decide +kernel) (by decide +kernel) (small_ok (by decide +kernel)) rfl) (.inr ⟨"int", by simp [oddT], fun l' hl' N H A => .base (.int _)⟩)
  · refine d_next ?_
    refine rest_ok (z := (PyData.str (S cs)).shown) k1 k3 (fun l' hl' => show_data (.str _) rfl (dep0 (by simp only [PyData.depth])) (shown_str hl hb) rfl) (.inl ⟨cs, rfl, hl⟩) fun l' w5 w6 w7 w8 => hD _ _ _ _ _ _ _
theorem pure_law (h : spLaw K vs H Q E) : t_law K W { nx := fun _ H' => Q .non H', rt := Q } (start ["script", "pen", "turn", "k", "value", "at", "before", "good", "sign"] vs) H := by
  obtain ⟨a, ns, rfl, hS, hl, kk⟩ := h
  refine law_start (Q := Q) (a := a) (i := 1) rfl hS hl fun p => ?_
  walk_at "go"
  refine d_rng1 (j := 10) (by decide) (by decide) ?_
  refine d_forRange (fun _ R' σ' l' => (∃ R0, R' = star (pen K p) R0) ∧ ∃ v2 v3 v4 v5 v6 v7 v8 : Option V, σ' = [some (.ref a), some (.ref p), v2, v3, v4, v5, v6, v7, v8]) ?_ ?_ ?_
  · exact ⟨⟨_, rfl⟩, none, none, none, none, none, none, none, rfl⟩
  · rintro i R' σ' l' hi ⟨⟨R0, rfl⟩, v2, v3, v4, v5, v6, v7, v8, rfl⟩
    walk_at "go"
    refine d_draw (by decide) (by decide) fun k' k0 k2 => ?_
    obtain ⟨k', rfl⟩ := Int.eq_ofNat_of_zero_le k0
    walk_at "go"
    rw [show (1 + (k' : Int)) = ((1 + k' : Nat) : Int) by omega]
    have k1 : 1 ≤ 1 + k' := by omega
    have k3 : 1 + k' ≤ 3 := by omega
    generalize 1 + k' = k at k1 k3 ⊢
    refine d_string (k := k) (m := 30) k1 k3 (by decide) fun one h1 s1 => ?_
    walk_at "go"
    refine d_newL (ds := [.int 1, .int 1, .int 1, .int 20]) (by show 4 ≤ sizeLine; decide) (by walk_at "inls") fun vl => ?_
    walk_at "go"
    refine d_draw (by decide) (by decide) fun n n0 n1 => ?_
    walk_at "go"
    obtain ⟨m, hm, hd⟩ : ∃ m : Nat, m ≤ 20 ∧ atI [PyData.int 1, .int 1, .int 1, .int 20] n = some (.int m) := by
      have : n = 0 ∨ n = 1 ∨ n = 2 ∨ n = 3 := by omega
      rcases this with rfl | rfl | rfl | rfl
      · exact ⟨1, by decide, rfl⟩
      · exact ⟨1, by decide, rfl⟩
      · exact ⟨1, by decide, rfl⟩
      · exact ⟨20, by decide, rfl⟩
    refine d_ixL (InL.mem (List.Mem.head _)) hd fun v hv => ?_
    obtain rfl : v = .int m := hv
    have hll : one.length * m ≤ 600 := Nat.mul_le_mul h1 hm
    refine d_mulS (by omega) (by omega) ?_
    have hlog : (List.replicate m one).flatten.length ≤ 600 := by
      rw [List.length_flatten, List.map_replicate, List.sum_replicate_nat, Nat.mul_comm]
      exact hll
    have hb : ∀ c ∈ (List.replicate m one).flatten, c < 16 ^ 8 := fun c hc => by
      obtain ⟨r, hr, hc⟩ := List.mem_flatten.1 hc
      rw [List.eq_of_mem_replicate hr] at hc
      exact signs_lt k3 s1 c hc
    generalize (List.replicate m one).flatten = log at hlog hb ⊢
    walk_at "go"
    have hD : ∀ (R1 : Res) (l' : List (V × PyData)) (v w5 w6 w7 w8 : Option V), RD K (fun _ => none) (star (pen K p) R1) l' (Cont K (fun _ => none) (fun R' σ' l' => (∃ R0, R' = star (pen K p) R0) ∧ ∃ v2 v3 v4 v5 v6 v7 v8 : Option V, σ' = [some (.ref a), some (.ref p), v2, v3, v4, v5, v6, v7, v8]) [some (.ref a), some (.ref p), some (.int (0 + i)), some (.int k), v, w5, w6, w7, w8]) :=
      fun R1 l' v w5 w6 w7 w8 => d_end (l' := l') ⟨⟨R1, rfl⟩, _, _, _, _, _, _, _, rfl⟩ (by walk_at "sub")
    refine d_draw (by decide) (by decide) fun o o0 o1 => ?_
    walk_at "go"
    refine d_iteP (fun _ => ?_) (fun _ => ?_)
    · walk_at "go"
      refine d_len (by omega) ?_
      walk_at "go"
      refine d_draw (by omega) (by omega) fun x x0 x1 => ?_
      obtain ⟨x, rfl⟩ := Int.eq_ofNat_of_zero_le x0
      walk_at "go"
      refine d_takeA (by omega) ?_
      walk_at "go"
      refine d_draw (by decide) (by decide) fun c c0 c1 => ?_
      rw [menu_S]
      obtain ⟨y, hy⟩ := at_some (cs := menu) (i := c) (by have : menu.length = 11 := rfl; omega) (by have : menu.length = 11 := rfl; omega)
      refine d_atS (by decide) hy ?_
      walk_at "go"
      refine d_cat (by rw [List.length_take, List.length_singleton]; omega) ?_
      walk_at "go"
      refine d_dropS (by omega) (by omega) ?_
      walk_at "go"
      refine d_cat (by rw [List.length_append, List.length_take, List.length_drop, List.length_singleton]; omega) ?_
      refine d_name (σ' := [some (.ref a), some (.ref p), some (.int (0 + i)), some (.int k), some (.str (S (log.take x ++ [y] ++ log.drop x))), some (.int x), v6, v7, v8]) rfl ?_
      have hlen : (log.take x ++ [y] ++ log.drop x).length ≤ 1000 := by
        rw [List.length_append, List.length_append, List.length_take, List.length_drop, List.length_singleton]
        omega
      have hb2 : ∀ c ∈ log.take x ++ [y] ++ log.drop x, c < 16 ^ 8 := fun c hc => by
        rcases List.mem_append.1 hc with h | h
        · rcases List.mem_append.1 h with h | h
          · exact hb c (List.mem_of_mem_take h)
          · obtain rfl : c = y := by simpa using h
            exact menu_lt _ (at_mem hy)
        · exact hb c (List.mem_of_mem_drop h)
      exact mid_ok k1 k3 hlen hb2 hD
    · refine d_next ?_
      exact mid_ok k1 k3 (by omega) hb hD
  · rintro R' σ' l' ⟨⟨R0, rfl⟩, v2, v3, v4, v5, v6, v7, v8, rfl⟩
    walk_at "go"
    exact fun N H A => kk H
end
end L01

/-! D01: each def of the text keeps its promise; the head. -/
namespace D01
open PySem PySem.Spec L2 GL
open PyProof.Rows hiding St
open L01
def top (i : Nat) : Stmt := PySem.Challenge.pw_gaprules_k01_logs_required.main.body.getD i (.Pass ⟨0, 0, 0, 0⟩)
abbrev s__law_pen : Stmt := (top 7)
abbrev N__law_pen : List Str := ["script"]
theorem sc__law_pen : FnScope N__law_pen ["script"] (defScope s__law_pen) := ⟨rfl, rfl, rfl, by decide +kernel, rfl, by decide +kernel, by decide +kernel⟩
abbrev s__law_fresh : Stmt := (top 8)
abbrev N__law_fresh : List Str := ["pen", "at", "cell", "p", "state", "found", "turn"]
theorem sc__law_fresh : FnScope N__law_fresh ["pen"] (defScope s__law_fresh) := ⟨rfl, rfl, rfl, by decide +kernel, rfl, by decide +kernel, by decide +kernel⟩
abbrev s__law_draw : Stmt := (top 9)
abbrev N__law_draw : List Str := ["pen", "many", "digit"]
theorem sc__law_draw : FnScope N__law_draw ["pen", "many"] (defScope s__law_draw) := ⟨rfl, rfl, rfl, by decide +kernel, rfl, by decide +kernel, by decide +kernel⟩
abbrev s__law_string : Stmt := (top 10)
abbrev N__law_string : List Str := ["pen", "signs", "most", "step"]
theorem sc__law_string : FnScope N__law_string ["pen", "signs", "most"] (defScope s__law_string) := ⟨rfl, rfl, rfl, by decide +kernel, rfl, by decide +kernel, by decide +kernel⟩
abbrev s_is_log : Stmt := (top 5)
abbrev N_is_log : List Str := ["value", "signs", "letter"]
theorem sc_is_log : FnScope N_is_log ["value", "signs"] (defScope s_is_log) := ⟨rfl, rfl, rfl, by decide +kernel, rfl, by decide +kernel, by decide +kernel⟩
abbrev s_require_log : Stmt := (top 4)
abbrev N_require_log : List Str := ["value", "signs"]
theorem sc_require_log : FnScope N_require_log ["value", "signs"] (defScope s_require_log) := ⟨rfl, rfl, rfl, by decide +kernel, rfl, by decide +kernel, by decide +kernel⟩
abbrev s__law_raised : Stmt := (top 11)
abbrev N__law_raised : List Str := ["value", "k", "found", "e"]
theorem sc__law_raised : FnScope N__law_raised ["value", "k"] (defScope s__law_raised) := ⟨rfl, rfl, rfl, by decide +kernel, rfl, by decide +kernel, by decide +kernel⟩
abbrev s_law : Stmt := (top 12)
abbrev N_law : List Str := ["script", "pen", "turn", "k", "value", "at", "before", "good", "sign"]
theorem sc_law : FnScope N_law ["script"] (defScope s_law) := ⟨rfl, rfl, rfl, by decide +kernel, rfl, by decide +kernel, by decide +kernel⟩
abbrev s_NotALog___init__ : Stmt := (inClass (top 1) 0)
theorem sc_NotALog___init__ : FnScope ["self", "value"] ["self", "value"] (defScope s_NotALog___init__) := ⟨rfl, rfl, rfl, by decide +kernel, rfl, by decide +kernel, by decide +kernel⟩
section
variable {P : Program} {w : World} {K : PySem.W.Frag} {mg : Str → Option Value} {base : Heap}
theorem oki_NotALog {fd : FuncData} (F : FunD K "__init__" "NotALog.__init__" (defArgs s_NotALog___init__) (defBody s_NotALog___init__) (defScope s_NotALog___init__) [] [] (He.ma K (He.ga K "NotALog") "__init__") fd) (T : ExT K (He.ga K "NotALog") (He.ma K (He.ga K "NotALog") "__init__") "value") : FnOk P w K mg base CX0 1 (He.ma K (He.ga K "NotALog") "__init__") fd ["self", "value"] (spInit (He.ga K "NotALog") "value") :=
  F.ok sc_NotALog___init__ (fun vs H Q E h => len_init h) (fun cdv A outer s H vs Q E hr h => ⟨tOst K "value" (tVar 0) (tVar 1), PSs.nox (pss_one (ps_ost (pv 0) (pv 1))), pure_init T h⟩)
theorem ok__law_pen {f : Addr} {fd : FuncData} (F : FunD K "_law_pen" "_law_pen" (defArgs s__law_pen) (defBody s__law_pen) (defScope s__law_pen) [] [] f fd)
    (b_list : mg "list" = none) : Gn P w K mg base 1 f 1 (sp__law_pen K) :=
  gn_ok F sc__law_pen (fun _ _ _ _ _ _ us hl => match us, hl with | [_], _ => rfl) (fun vs H Q E h => len__law_pen h) (fun cdv A outer s H vs Q E hg hr h => ⟨t__law_pen K (fun cls d _ H => E cls d H), (pss_one (ps_ret (pe_lst (pa_cons (pe_callTy call_glist (by rfl) b_list (by decide +kernel) (pa_cons (pe_slice sl_g (pv 0) po_none (po_some pe_int)) pa_nil)) (pa_cons pe_int (pa_cons pe_int pa_nil)))))), pure__law_pen h⟩)
theorem ok__law_fresh {f : Addr} {fd : FuncData} (F : FunD K "_law_fresh" "_law_fresh" (defArgs s__law_fresh) (defBody s__law_fresh) (defScope s__law_fresh) [] [] f fd)
    (b_len : mg "len" = none)
    (b_range : mg "range" = none) : Gn P w K mg base 1 f 1 (sp__law_fresh K) :=
  gn_ok F sc__law_fresh (fun _ _ _ _ _ _ us hl => match us, hl with | [_], _ => rfl) (fun vs H Q E h => len__law_fresh h) (fun cdv A outer s H vs Q E hg hr h => ⟨t__law_fresh K (fun cls d _ H => E cls d H), (pss_cons (ps_set (i := 1) sc__law_fresh.nd rfl (by first | exact Or.inl rfl | exact Or.inr rfl) (pe_ix ix_seq (pv 0) pe_int (fun _ _ => rfl)))
  (pss_cons (ps_asg (pe_op op_gadd (pv 1) pe_int) (pg_sub (pv 0) pe_int set_list))
  (pss_cons (ps_set (i := 2) sc__law_fresh.nd rfl (by first | exact Or.inl rfl | exact Or.inr rfl) pe_int)
  (pss_cons (ps_if (pt_cmpR (op_gne hr.units) (pe_ix ix_seq (pv 0) pe_int (fun _ _ => rfl)) (pe_lst pa_nil) (nomark _)) (pss_one (ps_set (i := 2) sc__law_fresh.nd rfl (by first | exact Or.inl rfl | exact Or.inr rfl) (pe_ix ix_seq (pe_ix ix_seq (pv 0) pe_int (fun _ _ => rfl)) (pe_op op_mod (pv 1) (pe_callB call_len (by rfl) b_len PySem.boot_len (pa_cons (pe_ix ix_seq (pv 0) pe_int (fun _ _ => rfl)) pa_nil))) (fun _ _ => rfl)))) pss_nil)
  (pss_cons (ps_if (PW.pt (pw_and (pt_cmpR op_lt (pv 1) (pe_callB call_len (by rfl) b_len PySem.boot_len (pa_cons (pe_ix ix_seq (pv 0) pe_int (fun _ _ => rfl)) pa_nil)) (nomark _)) (pw_and1 (pt_cmpR op_ge (pv 2) (pe_op op_pow pe_int pe_int) (nomark _))))) (pss_one (ps_ret (pe_op op_sub (pv 2) (pe_op op_pow pe_int pe_int)))) pss_nil)
  (pss_cons (ps_set (i := 3) sc__law_fresh.nd rfl (by first | exact Or.inl rfl | exact Or.inr rfl) pe_int)
  (pss_cons (ps_set (i := 4) sc__law_fresh.nd rfl (by first | exact Or.inl rfl | exact Or.inr rfl) (pe_op op_mod (pe_op op_gadd (pe_op op_gadd (pe_op op_gmul (pv 2) pe_int) (pe_op op_gmul pe_int (pv 1))) pe_int) (pv 3)))
  (pss_cons (ps_set (i := 5) sc__law_fresh.nd rfl (by first | exact Or.inl rfl | exact Or.inr rfl) (pv 4))
  (pss_cons (ps_for (L2.passes_of rfl) rfl (pi_range1 rfl b_range (pa_cons pe_int pa_nil)) (pg_name (i := 6) sc__law_fresh.nd rfl (by first | exact Or.inl rfl | exact Or.inr rfl)) (pss_cons (ps_set (i := 4) sc__law_fresh.nd rfl (by first | exact Or.inl rfl | exact Or.inr rfl) (pe_op op_mod (pe_op op_gadd (pe_op op_gadd (pe_op op_gmul (pv 4) (pv 4)) (pe_op op_gmul (pe_op op_gmul pe_int (pe_op op_gadd (pv 6) pe_int)) (pe_op op_gadd (pv 1) pe_int))) (pv 2)) (pv 3)))
  (pss_one (ps_set (i := 5) sc__law_fresh.nd rfl (by first | exact Or.inl rfl | exact Or.inr rfl) (pe_op op_gadd (pe_op op_gmul (pv 5) (pv 3)) (pv 4))))))
  (pss_one (ps_ret (pv 5)))))))))))), pure__law_fresh h⟩)
theorem ok__law_draw {f : Addr} {fd : FuncData} (F : FunD K "_law_draw" "_law_draw" (defArgs s__law_draw) (defBody s__law_draw) (defScope s__law_draw) [] [] f fd)
    (G__law_fresh : Gn P w K mg base 1 (He.ga K "_law_fresh") 1 (sp__law_fresh K))
    (k__law_fresh : PySem.W.keepIn K (.ref (He.ga K "_law_fresh")) = true)
    (m__law_fresh : mg "_law_fresh" = some (.ref (He.ga K "_law_fresh"))) : Gn P w K mg base 2 f 2 (sp__law_draw K) :=
  gn_ok F sc__law_draw (fun _ _ _ _ _ _ us hl => match us, hl with | [_, _], _ => rfl) (fun vs H Q E h => len__law_draw h) (fun cdv A outer s H vs Q E hg hr h => ⟨t__law_draw K (fun cls d _ H => E cls d H), (pss_cons (ps_if (pt_cmpR op_lt (pe_ix ix_seq (pv 0) pe_int (fun _ _ => rfl)) (pv 1) (nomark _)) (pss_one (ps_asg (g_call G__law_fresh hg (hr.mono (by decide)) (L2.takes_of rfl rfl rfl rfl) rfl m__law_fresh k__law_fresh (pa_cons (pv 0) pa_nil)) (pg_sub (pv 0) pe_int set_list))) pss_nil)
  (pss_cons (ps_set (i := 2) sc__law_draw.nd rfl (by first | exact Or.inl rfl | exact Or.inr rfl) (pe_op op_mod (pe_ix ix_seq (pv 0) pe_int (fun _ _ => rfl)) (pv 1)))
  (pss_cons (ps_asg (pe_op op_fdiv (pe_ix ix_seq (pv 0) pe_int (fun _ _ => rfl)) (pv 1)) (pg_sub (pv 0) pe_int set_list))
  (pss_one (ps_ret (pv 2)))))), pure__law_draw h⟩)
theorem ok__law_string {f : Addr} {fd : FuncData} (F : FunD K "_law_string" "_law_string" (defArgs s__law_string) (defBody s__law_string) (defScope s__law_string) [] [] f fd)
    (G__law_draw : Gn P w K mg base 2 (He.ga K "_law_draw") 2 (sp__law_draw K))
    (b_range : mg "range" = none)
    (k__law_draw : PySem.W.keepIn K (.ref (He.ga K "_law_draw")) = true)
    (m__law_draw : mg "_law_draw" = some (.ref (He.ga K "_law_draw"))) : Gn P w K mg base 3 f 3 (sp__law_string K) :=
  gn_ok F sc__law_string (fun _ _ _ _ _ _ us hl => match us, hl with | [_, _, _], _ => rfl) (fun vs H Q E h => len__law_string h) (fun cdv A outer s H vs Q E hg hr h => ⟨t__law_string K (fun cls d _ H => E cls d H), (pss_one (ps_ret (pe_bm PySem.F.plainAttrs_str PySem.F.slot_str_join PySem.F.type_str_join mt_join pe_str (pa_cons (pe_lc (own := [("step", 3)]) (g := (gName 3)) rfl sc__law_string.nd (pi_range1 rfl b_range (pa_cons (g_call G__law_draw hg (hr.mono (by decide)) (L2.takes_of rfl rfl rfl rfl) rfl m__law_draw k__law_draw (pa_cons (pv 0) (pa_cons (pe_op op_gadd (pv 2) pe_int) pa_nil))) pa_nil)) (blkOk_by (own := [("step", 3)]) (N := N__law_string) (sc := defScope s__law_string) (by decide +kernel)) (fun _ _ _ _ _ => (pg_name (i := 3) sc__law_string.nd rfl (by first | exact Or.inl rfl | exact Or.inr rfl))) (fun _ _ _ _ _ => pts_nil) (fun _ _ _ _ _ => (pe_ix ix_seq pe_str (g_call G__law_draw hg (hr.mono (by decide)) takes0 rfl m__law_draw k__law_draw (pa_cons (pv 0) (pa_cons (pv 1) pa_nil))) (fun _ _ => rfl)))) pa_nil)))), pure__law_string h⟩)
theorem ok_is_log {f : Addr} {fd : FuncData} (F : FunD K "is_log" "is_log" (defArgs s_is_log) (defBody s_is_log) (defScope s_is_log) [] [] f fd)
    (b_all : mg "all" = none)
    (b_isinstance : mg "isinstance" = none)
    (b_str : mg "str" = none)
    (m_SIGNS : ∃ t, mg "SIGNS" = some (.str "abc" t)) : Gn P w K mg base 1 f 2 (sp_is_log K) :=
  gn_ok F sc_is_log (fun _ _ _ _ _ _ us hl => match us, hl with | [_, _], _ => rfl) (fun vs H Q E h => len_is_log h) (fun cdv A outer s H vs Q E hg hr h => ⟨t_is_log K (fun cls d _ H => E cls d H), (pss_one (ps_ret (pe_and (pe_callB call_isi (by rfl) b_isinstance PyProof.Rows.boot_isinstance (pa_cons (pv 0) (pa_cons (pe_bltn (u := .type "str") (by rfl) b_str (by decide +kernel) rfl) pa_nil))) (pe_one (pe_callB (cr_all rfl) (by rfl) b_all (by decide +kernel) (pa_cons (pe_lc (own := [("letter", 2)]) (g := (gName 2)) rfl sc_is_log.nd (pi_g (pv 0)) (blkOk_by (own := [("letter", 2)]) (N := N_is_log) (sc := defScope s_is_log) (by decide +kernel)) (fun _ _ _ _ _ => (pg_name (i := 2) sc_is_log.nd rfl (by first | exact Or.inl rfl | exact Or.inr rfl))) (fun _ _ _ _ _ => pts_nil) (fun _ _ _ _ _ => (pe_cmpR (op_gin hr.units) (pv 2) (pe_slice sl_g (pe_glob rfl m_SIGNS.choose_spec ⟨_, rfl⟩) po_none (po_some (pv 1))) rfl))) pa_nil)))))), pure_is_log h⟩)
theorem ok_require_log {f : Addr} {fd : FuncData} {fdi_NotALog : FuncData} (F : FunD K "require_log" "require_log" (defArgs s_require_log) (defBody s_require_log) (defScope s_require_log) [] [] f fd)
    (B_NotALog : Binds K fdi_NotALog ["self", "value"] [])
    (G_is_log : Gn P w K mg base 1 (He.ga K "is_log") 2 (sp_is_log K))
    (I_NotALog : FnOk P w K mg base CX0 1 (He.ma K (He.ga K "NotALog") "__init__") fdi_NotALog ["self", "value"] (spInit (He.ga K "NotALog") "value"))
    (T_NotALog : ExT K (He.ga K "NotALog") (He.ma K (He.ga K "NotALog") "__init__") "value")
    (k_is_log : PySem.W.keepIn K (.ref (He.ga K "is_log")) = true)
    (m_NotALog : mg "NotALog" = some (.ref (He.ga K "NotALog")))
    (m_is_log : mg "is_log" = some (.ref (He.ga K "is_log"))) : Gn P w K mg base 3 f 2 (sp_require_log K) :=
  gn_ok F sc_require_log (fun _ _ _ _ _ _ us hl => match us, hl with | [_, _], _ => rfl) (fun vs H Q E h => len_require_log h) (fun cdv A outer s H vs Q E hg hr h => ⟨t_require_log K (fun cls d _ H => E cls d H), (pss_cons (ps_if (pt_not (pt_truth (g_call G_is_log hg (hr.mono (by decide)) (L2.takes_of rfl rfl rfl rfl) rfl m_is_log k_is_log (pa_cons (pv 0) (pa_cons (pv 1) pa_nil))) (by intro _; rfl))) (pss_one (g_raise T_NotALog I_NotALog (hr.mono (by decide)) B_NotALog rfl (L2.takes_of rfl rfl rfl rfl) rfl m_NotALog (pa_cons (pv 0) pa_nil))) pss_nil)
  (pss_one (ps_ret (pv 0)))), pure_require_log h⟩)
theorem ok__law_raised {f : Addr} {fd : FuncData} (F : FunD K "_law_raised" "_law_raised" (defArgs s__law_raised) (defBody s__law_raised) (defScope s__law_raised) [] [] f fd)
    (G_require_log : Gn P w K mg base 3 (He.ga K "require_log") 2 (sp_require_log K))
    (T_NotALog : ExT K (He.ga K "NotALog") (He.ma K (He.ga K "NotALog") "__init__") "value")
    (b_repr : mg "repr" = none)
    (k_require_log : PySem.W.keepIn K (.ref (He.ga K "require_log")) = true)
    (m_NotALog : mg "NotALog" = some (.ref (He.ga K "NotALog")))
    (m_require_log : mg "require_log" = some (.ref (He.ga K "require_log"))) : Gn P w K mg base 4 f 2 (sp__law_raised K) :=
  gn_ok F sc__law_raised (fun _ _ _ _ _ _ us hl => match us, hl with | [_, _], _ => rfl) (fun vs H Q E h => len__law_raised h) (fun cdv A outer s H vs Q E hg hr h => ⟨t__law_raised K (fun cls d _ H => E cls d H), (pss_cons (ps_set (i := 2) sc__law_raised.nd rfl (by first | exact Or.inl rfl | exact Or.inr rfl) pe_non)
  (pss_cons (ps_try_as (i := 3) (tb := (fun W1 => (tAsg (tTup (tCons (tC (.str "log")) (tCons (tG (sp_require_log K) W1 (tCons (tVar 0) (tCons (tVar 1) tNil))) tNil))) (gName 2)))) (ts := (fun a cls d => (tAsg (tTup (tCons (tC (.str "not")) (tCons (tOp (gEq K) (tCB (gShow K) (tCons (tXf a cls d (He.ga K "NotALog") "value" (tVar 3)) tNil)) (tCB (gShow K) (tCons (tVar 0) tNil))) tNil))) (gName 2)))) (Wout := (fun cls d _ H => E cls d H)) rfl rfl sc__law_raised.nd rfl rfl ⟨rfl, by decide, .inl m_NotALog⟩ (L2.takes_of rfl rfl rfl rfl) (fun W1 pn xe tk1 pas1 => (pss_one (ps_set (i := 2) sc__law_raised.nd rfl (by first | exact Or.inl rfl | exact Or.inr rfl) (pe_tup (pa_cons pe_str (pa_cons (g_call G_require_log hg (hr.mono (by decide)) tk1 rfl m_require_log k_require_log (pa_cons (pv 0) (pa_cons (pv 1) pa_nil))) pa_nil)))))) (fun a oe cls d pn hz hf => (pss_one (ps_set (i := 2) sc__law_raised.nd rfl (by first | exact Or.inl rfl | exact Or.inr rfl) (pe_tup (pa_cons pe_str (pa_cons (pe_cmpR (op_geq hr.units) (pe_callB (call_show hg hr.units) (by rfl) b_repr (by decide +kernel) (pa_cons (pe_xf T_NotALog.X T_NotALog.no hz hf (pv 3)) pa_nil)) (pe_callB (call_show hg hr.units) (by rfl) b_repr (by decide +kernel) (pa_cons (pv 0) pa_nil)) (nomark _)) pa_nil)))))))
  (pss_one (ps_ret (pv 2))))), pure__law_raised T_NotALog h⟩)
theorem ok_law {f : Addr} {fd : FuncData} (F : FunD K "law" "law" (defArgs s_law) (defBody s_law) (defScope s_law) [] [] f fd)
    (G__law_draw : Gn P w K mg base 2 (He.ga K "_law_draw") 2 (sp__law_draw K))
    (G__law_pen : Gn P w K mg base 1 (He.ga K "_law_pen") 1 (sp__law_pen K))
    (G__law_raised : Gn P w K mg base 4 (He.ga K "_law_raised") 2 (sp__law_raised K))
    (G__law_string : Gn P w K mg base 3 (He.ga K "_law_string") 3 (sp__law_string K))
    (b_isinstance : mg "isinstance" = none)
    (b_len : mg "len" = none)
    (b_range : mg "range" = none)
    (b_repr : mg "repr" = none)
    (b_str : mg "str" = none)
    (k__law_draw : PySem.W.keepIn K (.ref (He.ga K "_law_draw")) = true)
    (k__law_pen : PySem.W.keepIn K (.ref (He.ga K "_law_pen")) = true)
    (k__law_raised : PySem.W.keepIn K (.ref (He.ga K "_law_raised")) = true)
    (k__law_string : PySem.W.keepIn K (.ref (He.ga K "_law_string")) = true)
    (m__law_draw : mg "_law_draw" = some (.ref (He.ga K "_law_draw")))
    (m__law_pen : mg "_law_pen" = some (.ref (He.ga K "_law_pen")))
    (m__law_raised : mg "_law_raised" = some (.ref (He.ga K "_law_raised")))
    (m__law_string : mg "_law_string" = some (.ref (He.ga K "_law_string"))) : Gn P w K mg base 5 f 1 (spLaw K) :=
  gn_ok F sc_law (fun _ _ _ _ _ _ us hl => match us, hl with | [_], _ => rfl) (fun vs H Q E h => len_law h) (fun cdv A outer s H vs Q E hg hr h => ⟨t_law K (fun cls d _ H => E cls d H), (pss_cons (ps_set (i := 1) sc_law.nd rfl (by first | exact Or.inl rfl | exact Or.inr rfl) (g_call G__law_pen hg (hr.mono (by decide)) (L2.takes_of rfl rfl rfl rfl) rfl m__law_pen k__law_pen (pa_cons (pv 0) pa_nil)))
  (pss_cons (ps_for (L2.passes_of rfl) rfl (pi_range1 rfl b_range (pa_cons pe_int pa_nil)) (pg_name (i := 2) sc_law.nd rfl (by first | exact Or.inl rfl | exact Or.inr rfl)) (pss_cons (ps_set (i := 3) sc_law.nd rfl (by first | exact Or.inl rfl | exact Or.inr rfl) (pe_op op_gadd pe_int (g_call G__law_draw hg (hr.mono (by decide)) (L2.takes_of rfl rfl rfl rfl) rfl m__law_draw k__law_draw (pa_cons (pv 1) (pa_cons pe_int pa_nil)))))
  (pss_cons (ps_set (i := 4) sc_law.nd rfl (by first | exact Or.inl rfl | exact Or.inr rfl) (pe_op op_gmulA (g_call G__law_string hg (hr.mono (by decide)) (L2.takes_of rfl rfl rfl rfl) rfl m__law_string k__law_string (pa_cons (pv 1) (pa_cons (pv 3) (pa_cons pe_int pa_nil)))) (pe_ix ix_seq (pe_lst (pa_cons pe_int (pa_cons pe_int (pa_cons pe_int (pa_cons pe_int pa_nil))))) (g_call G__law_draw hg (hr.mono (by decide)) (L2.takes_of rfl rfl rfl rfl) rfl m__law_draw k__law_draw (pa_cons (pv 1) (pa_cons pe_int pa_nil))) (fun _ _ => rfl))))
  (pss_cons (ps_if (pt_cmpR (op_geq hr.units) (g_call G__law_draw hg (hr.mono (by decide)) (L2.takes_of rfl rfl rfl rfl) rfl m__law_draw k__law_draw (pa_cons (pv 1) (pa_cons pe_int pa_nil))) pe_int (nomark _)) (pss_cons (ps_set (i := 5) sc_law.nd rfl (by first | exact Or.inl rfl | exact Or.inr rfl) (g_call G__law_draw hg (hr.mono (by decide)) (L2.takes_of rfl rfl rfl rfl) rfl m__law_draw k__law_draw (pa_cons (pv 1) (pa_cons (pe_op op_gadd (pe_callB call_len (by rfl) b_len PySem.boot_len (pa_cons (pv 4) pa_nil)) pe_int) pa_nil))))
  (pss_one (ps_set (i := 4) sc_law.nd rfl (by first | exact Or.inl rfl | exact Or.inr rfl) (pe_op op_gadd (pe_op op_gadd (pe_slice sl_g (pv 4) po_none (po_some (pv 5))) (pe_ix ix_seq pe_str (g_call G__law_draw hg (hr.mono (by decide)) (L2.takes_of rfl rfl rfl rfl) rfl m__law_draw k__law_draw (pa_cons (pv 1) (pa_cons pe_int pa_nil))) (fun _ _ => rfl))) (pe_slice sl_g (pv 4) (po_some (pv 5)) po_none))))) pss_nil)
  (pss_cons (ps_if (pt_cmpR (op_geq hr.units) (g_call G__law_draw hg (hr.mono (by decide)) (L2.takes_of rfl rfl rfl rfl) rfl m__law_draw k__law_draw (pa_cons (pv 1) (pa_cons pe_int pa_nil))) pe_int (nomark _)) (pss_one (ps_set (i := 4) sc_law.nd rfl (by first | exact Or.inl rfl | exact Or.inr rfl) (pe_ix ix_seq (pe_lst (pa_cons pe_non (pa_cons pe_int (pa_cons pe_bl (pa_cons (pe_tup pa_nil) (pa_cons (pe_tup (pa_cons pe_str pa_nil)) (pa_cons (pe_lst (pa_cons pe_str (pa_cons pe_str pa_nil))) (pa_cons pe_dnewK (pa_cons pe_str (pa_cons (pe_op op_pow pe_int pe_int) pa_nil)))))))))) (g_call G__law_draw hg (hr.mono (by decide)) (L2.takes_of rfl rfl rfl rfl) rfl m__law_draw k__law_draw (pa_cons (pv 1) (pa_cons pe_int pa_nil))) (fun _ _ => rfl)))) pss_nil)
  (pss_cons (ps_set (i := 6) sc_law.nd rfl (by first | exact Or.inl rfl | exact Or.inr rfl) (pe_callB (call_show hg hr.units) (by rfl) b_repr (by decide +kernel) (pa_cons (pv 4) pa_nil)))
  (pss_cons (ps_set (i := 7) sc_law.nd rfl (by first | exact Or.inl rfl | exact Or.inr rfl) (pe_and (pe_callB call_isi (by rfl) b_isinstance PyProof.Rows.boot_isinstance (pa_cons (pv 4) (pa_cons (pe_bltn (u := .type "str") (by rfl) b_str (by decide +kernel) rfl) pa_nil))) (pe_one (pe_cmpR (op_geq hr.units) (pe_lc (own := [("sign", 8)]) (g := (gName 8)) rfl sc_law.nd (pi_g (pv 4)) (blkOk_by (own := [("sign", 8)]) (N := N_law) (sc := defScope s_law) (by decide +kernel)) (fun _ _ _ _ _ => (pg_name (i := 8) sc_law.nd rfl (by first | exact Or.inl rfl | exact Or.inr rfl))) (fun _ _ _ _ _ => (pts_one (pt_cmpR (op_gnotin hr.units) (pv 8) (pe_slice sl_g pe_str po_none (po_some (pv 3))) rfl))) (fun _ _ _ _ _ => (pv 8))) (pe_lst pa_nil) (nomark _)))))
  (pss_one (ps_if (PW.pt (pw_or (pt_cmpR (op_gne hr.units) (g_call G__law_raised hg (hr.mono (by decide)) (L2.takes_of rfl rfl rfl rfl) rfl m__law_raised k__law_raised (pa_cons (pv 4) (pa_cons (pv 3) pa_nil))) (pe_ifExp (pt_truth (pv 7) (by intro _; rfl)) (pe_tup (pa_cons pe_str (pa_cons (pv 4) pa_nil))) (pe_tup (pa_cons pe_str (pa_cons pe_bl pa_nil)))) (nomark _)) (pw_or1 (pt_cmpR (op_gne hr.units) (pe_callB (call_show hg hr.units) (by rfl) b_repr (by decide +kernel) (pa_cons (pv 4) pa_nil)) (pv 6) (nomark _))))) (pss_one (ps_ret pe_bl)) pss_nil)))))))))
  (pss_one (ps_ret pe_bl)))), pure_law h⟩)
end
def d__law_pen : He.DefD := ⟨("_law_pen", none), "_law_pen", "_law_pen", defArgs s__law_pen, defBody s__law_pen, defScope s__law_pen, [], []⟩
def d__law_fresh : He.DefD := ⟨("_law_fresh", none), "_law_fresh", "_law_fresh", defArgs s__law_fresh, defBody s__law_fresh, defScope s__law_fresh, [], []⟩
def d__law_draw : He.DefD := ⟨("_law_draw", none), "_law_draw", "_law_draw", defArgs s__law_draw, defBody s__law_draw, defScope s__law_draw, [], []⟩
def d__law_string : He.DefD := ⟨("_law_string", none), "_law_string", "_law_string", defArgs s__law_string, defBody s__law_string, defScope s__law_string, [], []⟩
def d_is_log : He.DefD := ⟨("is_log", none), "is_log", "is_log", defArgs s_is_log, defBody s_is_log, defScope s_is_log, [], []⟩
def d_require_log : He.DefD := ⟨("require_log", none), "require_log", "require_log", defArgs s_require_log, defBody s_require_log, defScope s_require_log, [], []⟩
def d__law_raised : He.DefD := ⟨("_law_raised", none), "_law_raised", "_law_raised", defArgs s__law_raised, defBody s__law_raised, defScope s__law_raised, [], []⟩
def d_law : He.DefD := ⟨("law", none), "law", "law", defArgs s_law, defBody s_law, defScope s_law, [], []⟩
def d_NotALog___init__ : He.DefD := ⟨("NotALog", some "__init__"), "__init__", "NotALog.__init__", defArgs s_NotALog___init__, defBody s_NotALog___init__, defScope s_NotALog___init__, [], []⟩
def fn : List He.DefD := [d__law_pen, d__law_fresh, d__law_draw, d__law_string, d_is_log, d_require_log, d__law_raised, d_law, d_NotALog___init__]
def ex (K : PySem.W.Frag) : Bool := exT "NotALog" "value" K
def fa : List He.Fa := [.free "list", .free "len", .free "range", .glo "_law_fresh", .glo "_law_draw", .free "all", .free "isinstance", .free "str", .str "SIGNS" "abc", .glo "NotALog", .glo "is_log", .free "repr", .glo "require_log", .glo "_law_pen", .glo "_law_raised", .glo "_law_string", .glo "law"]
abbrev R : PySem.W.OpenRow := PySem.W.OpenLaw.row PySem.Challenge.rw_gaprules_k01_logs_required
abbrev hk : PySem.W.Hook := hookX 4 fa fn ex
def ob (s : PySem.W.SharedT) : He.AlD × Bool := obsX 4 fa fn ex (HandSHeadRun.getT s)
theorem ob_eq (s : PySem.W.SharedT) : ob s = hk.obs s.abs := obsX_eq (HandSHeadRun.getT_eq s)
def loose : List Str := ["NotALog", "SIGNS", "require_log", "is_log", "_law_pen", "_law_fresh", "_law_draw", "_law_string", "_law_raised"]
theorem run (w : World) : HandSHeadRun.RunEq R (PySem.W.view R.prog [12]) hk ob 600 loose w := by
  intro os
  kernel_rfl
theorem facts {P : Program} {w : World} {K : PySem.W.Frag} {h : Heap} {mg : Str → Option Value} {f : Addr} (X : K.In h) (G : h.Ns mainGlobals mg) (hfa : mg ("law" : Str) = some (.ref f)) (c : He.SaysD fa fn K) (hx : ex K = true) :
    ∀ base : Heap, K.In base → base.Ns mainGlobals mg → Gn P w K mg base 5 f 1 (spLaw K) := by
  obtain ⟨fd__law_pen, F__law_pen⟩ := c.def_ 0 (d := d__law_pen) rfl
  obtain ⟨fd__law_fresh, F__law_fresh⟩ := c.def_ 1 (d := d__law_fresh) rfl
  obtain ⟨fd__law_draw, F__law_draw⟩ := c.def_ 2 (d := d__law_draw) rfl
  obtain ⟨fd__law_string, F__law_string⟩ := c.def_ 3 (d := d__law_string) rfl
  obtain ⟨fd_is_log, F_is_log⟩ := c.def_ 4 (d := d_is_log) rfl
  obtain ⟨fd_require_log, F_require_log⟩ := c.def_ 5 (d := d_require_log) rfl
  obtain ⟨fd__law_raised, F__law_raised⟩ := c.def_ 6 (d := d__law_raised) rfl
  obtain ⟨fd_law, F_law⟩ := c.def_ 7 (d := d_law) rfl
  obtain ⟨fdi_NotALog, Fi_NotALog⟩ := c.def_ 8 (d := d_NotALog___init__) rfl
  unfold ex at hx
  have T_NotALog : ExT K (He.ga K "NotALog") (He.ma K (He.ga K "NotALog") "__init__") "value" := exT_ok hx
  have e := hfa.symm.trans (He.glo_ok X G (c.fact 16 (f := .glo "law") rfl))
  cases e
  intro base _ _
  have G__law_pen : Gn P w K mg base 1 (He.ga K "_law_pen") 1 (sp__law_pen K) := ok__law_pen F__law_pen (He.free_ok X G (c.fact 0 (f := .free "list") rfl))
  have G__law_fresh : Gn P w K mg base 1 (He.ga K "_law_fresh") 1 (sp__law_fresh K) := ok__law_fresh F__law_fresh (He.free_ok X G (c.fact 1 (f := .free "len") rfl)) (He.free_ok X G (c.fact 2 (f := .free "range") rfl))
  have G__law_draw : Gn P w K mg base 2 (He.ga K "_law_draw") 2 (sp__law_draw K) := ok__law_draw F__law_draw G__law_fresh F__law_fresh.kp (He.glo_ok X G (c.fact 3 (f := .glo "_law_fresh") rfl))
  have G__law_string : Gn P w K mg base 3 (He.ga K "_law_string") 3 (sp__law_string K) := ok__law_string F__law_string G__law_draw (He.free_ok X G (c.fact 2 (f := .free "range") rfl)) F__law_draw.kp (He.glo_ok X G (c.fact 4 (f := .glo "_law_draw") rfl))
  have G_is_log : Gn P w K mg base 1 (He.ga K "is_log") 2 (sp_is_log K) := ok_is_log F_is_log (He.free_ok X G (c.fact 5 (f := .free "all") rfl)) (He.free_ok X G (c.fact 6 (f := .free "isinstance") rfl)) (He.free_ok X G (c.fact 7 (f := .free "str") rfl)) (He.str_ok X G (c.fact 8 (f := .str "SIGNS" "abc") rfl))
  have G_require_log : Gn P w K mg base 3 (He.ga K "require_log") 2 (sp_require_log K) := ok_require_log F_require_log (Fi_NotALog.bindsN fun _ _ _ _ _ _ us hl => match us, hl with | [_, _], _ => rfl) G_is_log (oki_NotALog Fi_NotALog T_NotALog) T_NotALog F_is_log.kp (He.glo_ok X G (c.fact 9 (f := .glo "NotALog") rfl)) (He.glo_ok X G (c.fact 10 (f := .glo "is_log") rfl))
  have G__law_raised : Gn P w K mg base 4 (He.ga K "_law_raised") 2 (sp__law_raised K) := ok__law_raised F__law_raised G_require_log T_NotALog (He.free_ok X G (c.fact 11 (f := .free "repr") rfl)) F_require_log.kp (He.glo_ok X G (c.fact 9 (f := .glo "NotALog") rfl)) (He.glo_ok X G (c.fact 12 (f := .glo "require_log") rfl))
  have G_law : Gn P w K mg base 5 (He.ga K "law") 1 (spLaw K) := ok_law F_law G__law_draw G__law_pen G__law_raised G__law_string (He.free_ok X G (c.fact 6 (f := .free "isinstance") rfl)) (He.free_ok X G (c.fact 1 (f := .free "len") rfl)) (He.free_ok X G (c.fact 2 (f := .free "range") rfl)) (He.free_ok X G (c.fact 11 (f := .free "repr") rfl)) (He.free_ok X G (c.fact 7 (f := .free "str") rfl)) F__law_draw.kp F__law_pen.kp F__law_raised.kp F__law_string.kp (He.glo_ok X G (c.fact 4 (f := .glo "_law_draw") rfl)) (He.glo_ok X G (c.fact 13 (f := .glo "_law_pen") rfl)) (He.glo_ok X G (c.fact 14 (f := .glo "_law_raised") rfl)) (He.glo_ok X G (c.fact 15 (f := .glo "_law_string") rfl))
  exact G_law
end D01
open PySem PySem.W PySem.Calls PyProof.Rows
theorem PySem.Challenge.cw_gaprules_k01_logs_required_holds : PySem.Challenge.rw_gaprules_k01_logs_required.Holds := by
  w_on; o_law
  refine HandSHeadRun.head_any (r := OpenLaw.row PySem.Challenge.rw_gaprules_k01_logs_required) (q := view (OpenLaw.row PySem.Challenge.rw_gaprules_k01_logs_required).prog [12]) (H := D01.hk) (ob := D01.ob) (M := 600) (loose := D01.loose) (d := HandSHeadRun.topDef (OpenLaw.row PySem.Challenge.rw_gaprules_k01_logs_required).prog 12) (kwd := []) D01.ob_eq
    (by kernel_rfl) (fun s => by kernel_rfl) D01.run (by kernel_rfl) (by kernel_rfl) (by kernel_rfl) (by rfl) (by first | assumption | decide +kernel) (by decide +kernel) ⟨rfl, rfl, rfl, rfl, rfl, by decide +kernel⟩ ?hw ?hc
  case hw => w_witness2
  case hc =>
    refine GL.g_walk (l := PySem.Challenge.rw_gaprules_k01_logs_required) (n := 63) (k := 5) rfl (by decide) (by kernel_rfl) ⟨rfl, by decide, by decide⟩ ?_
    intro w mg fa h Y G hmg0
    obtain ⟨K, KX, c, hx⟩ := Y
    have hmg : mg ("law" : PySem.Str) = some (.ref fa) := by
      have e : (HandSHeadRun.topDef (OpenLaw.row PySem.Challenge.rw_gaprules_k01_logs_required).prog 12).name = ("law" : PySem.Str) := by kernel_rfl
      rw [← e]
      exact hmg0
    exact ⟨K, GL.spLaw K, KX, fun H a ns hl _ hS => ⟨a, ns, rfl, hS, hl, fun _ => rfl⟩, D01.facts (P := (PySem.Challenge.rw_gaprules_k01_logs_required).prog) (w := w) KX G hmg c hx⟩

