import PyProof.Rows.All
import Wide.All
import OpenK.AllK
import Wide.FinOn
import PyProof.ListStr
import PyProof.ReprRoads
import HandS.ForMost
import HandS.More
import HandS.Defaults
import HandS.IsInst
import HandS.Walk
import HandS.Style
import HandS.HeadEnd
import HandS.Head0
import HandS.Head1
import HandS.Head2
import HandS.HeadHook1
import HandS.HeadHook2
import KE.KStateDown
import KE.GoesEnum
import PySem.Challenge.RW_doorlots_k01_colours_of_any_kind
set_option Elab.async false
set_option linter.all false
set_option maxRecDepth 100000
set_option maxHeartbeats 2000000
namespace Gd
open PySem PySem.Spec PyProof.Rows L2
/-! ### promises of defs that are called while no list is being written out (repr of a list asks who writes lists around it) -/
abbrev Free (A : Around) : Prop := A.guards = some []
/-- a promise as in the layer, kept wherever nothing is being written out around -/
structure FnG (P : Program) (w : World) (K : PySem.W.Frag) (mg : Str → Option Value) (base : Heap) (CX : CXT) (k : Nat)
    (f : Addr) (fd : FuncData) (ps : List Str) (sp : Sp) : Prop where
  ar : ∀ (vs : List V) (H : Hp) (Q : VK) (E : XK), sp vs H Q E → vs.length = ps.length
  go : ∀ (A : Around) (above : List Env) (s : Shared) (H : Hp) (ag : Args) (us : List Value) (vs : List V) (Q : VK) (E : XK), Free A → Room k A → Env0 P w K mg base A above s H →
    BindsTo s fd ag (ps.zip us) → Vals vs us → sp vs H Q E → codeAny (model P w) A (.call (.ref f) ag) (CR CX above P w H s Q E) s
section
variable {P : Program} {w : World} {K : PySem.W.Frag} {mg : Str → Option Value} {base : Heap} {CX : CXT} {k : Nat} {f : Addr} {fd : FuncData} {ps : List Str} {sp : Sp}
theorem FnG.of (F : FnOk P w K mg base CX k f fd ps sp) : FnG P w K mg base CX k f fd ps sp :=
  ⟨F.len, fun A o s H ag us vs Q E _ hr e b r h => F.run A o s H ag us vs Q E hr e b r h⟩
theorem FnG.up {j : Nat} (F : FnG P w K mg base CX j f fd ps sp) (h : j ≤ k) : FnG P w K mg base CX k f fd ps sp :=
  ⟨F.ar, fun A o s H ag us vs Q E g hr e b r q => F.go A o s H ag us vs Q E g (hr.mono h) e b r q⟩
end
/-- a body in the frame X, from the arguments vs, gives what Q wants -/
abbrev Does (X : Cx) (N : List Str) (body : List Stmt) (vs : List V) (H : Hp) (Q : VK) : Prop := ∃ t, PSs X body t ∧ t { nx := fun _ => Q .non, rt := Q } (start N vs) H
/-- the rule for a def, the body's around told to be free -/
theorem fun_g {P : Program} {w : World} {K : PySem.W.Frag} {mg : Str → Option Value} {base : Heap} {CX : CXT} {k : Nat} {f : Addr} {fd : FuncData} {ps N : List Str} {sp : Sp}
    {nm qual : Str} {params : Arguments} {body : List Stmt} {scope : Scope} {dvs : List V} {kws : List (Str × V)}
    (F : FunD K nm qual params body scope dvs kws f fd) (S : FnScope N ps scope)
    (ar : ∀ (vs : List V) (H : Hp) (Q : VK) (E : XK), sp vs H Q E → vs.length = ps.length)
    (hb : ∀ (cdv : Value) (A : Around) (above : List Env) (s : Shared) (H : Hp) (vs : List V) (Q : VK) (E : XK), Free A → Room k (A.deeper (envOfC qual scope s.heap.objs.size f cdv)) → sp vs H Q E →
      Does (cxOf CX P w K mg base N qual scope f cdv A above s H E) N body vs H Q) :
    FnG P w K mg base CX (k + 1) f fd ps sp := by
  obtain ⟨_, _, _, _, _, _, _, cdv, _, _, rfl, at_, code, _, _⟩ := F.ex
  refine ⟨ar, fun A outer s H ag us vs Q E free room e0 bd rel want => ?_⟩
  have down : ∀ b o, base.get? b = some o → s.heap.get? b = some o := fun b o e => (e0.bs b o e).1
  have kin : K.In s.heap := e0.mod.kin.keeps down
  refine codeAny_call_function room.depth (kin _ _ at_) rfl S.co S.gen rfl (PySem.W.codeRec_of kin code) (bd _ _ _ _ ?_)
  refine wpAny_newFunctionEnv_cells S.kind (fun y hy => ?_) fun env he s1 x => ?_
  · obtain ⟨n, v⟩ := y
    exact (S.par n (List.of_mem_zip hy).1).imp id fun c => ⟨c, PySem.W.cellsFrom_some _ _ _ (.inl c)⟩
  subst he
  refine ⟨(e0.mod.nolimit.keeps down).keeps x.toInCall.keep, codeAny_func ?_⟩
  obtain ⟨t, ht, hq⟩ := hb cdv A outer s H vs Q E free (room.deeper _) want
  have I := inv_start (CX := CX) (E := E) S room.hd e0 (ar _ _ _ _ want) rel x
  refine wpAny_mono (ht.run [] s1 (start N vs) H _ I hq) (fun fl s' hs => ?_) fun _ _ z => z
  cases fl with
  | ret u =>
    obtain ⟨v, _, H', J, rv, q⟩ := hs
    exact ⟨v, H', J.os, J.bare, J.base, J.hok, rv, q⟩
  | next =>
    obtain ⟨_, H', J, q⟩ := hs
    exact ⟨V.non, H', J.os, J.bare, J.base, J.hok, rfl, q⟩
  | brk => obtain ⟨_, _, _, q⟩ := hs; exact q.elim
  | cont => obtain ⟨_, _, _, q⟩ := hs; exact q.elim
section
variable {X : Cx} {CX : CXT} {k : Nat} {f C : Addr} {fd : FuncData} {ps ks : List Str} {sp : Sp} {dvs : List V} {ds : List Value} {E : XK} {x : Str} {p pos : Pos} {e : Expr} {es : List Expr} {kws : List Keyword} {t tk : TA}
  {g : List Value → List Value → List Value} {gV : List V → List V → List V}
theorem go_g {pins : List (Addr × Obj)} {σ : L2.St} {H : Hp} {s : Shared} {Q : VK} {us : List Value} {vs : List V} {ag : Args} (F : FnG X.prog X.w X.K X.mg X.base CX k f fd ps sp) (fr : Free X.A) (hr : Room k X.A)
    (hx : Passes CX X E) (I : Inv X pins σ H s) (hb : BindsTo s fd ag (ps.zip us)) (r : Vals vs us) (h : sp vs H Q E) : wpAny (model X.prog X.w) X.A (call (.ref f) ag.pos ag.kw) (EP X pins σ Q) X.xe s := by
  refine wpAny_call (codeAny_mono (F.go X.A X.stack s H ag us vs Q E fr hr I.env0 hb r h) fun r s' hq => ?_)
  match r, hq with
  | .error z, hq => exact hx pins σ H s z s' I hq
  | .ok (.ret _), hq => exact I.after hq
end
end Gd
namespace Gd
open PySem PySem.Spec PyProof.Rows L2
section
variable {X : Cx} {CX : CXT} {k n : Nat} {f C : Addr} {fd : FuncData} {ps ks : List Str} {sp : Sp} {dvs : List V} {ds : List Value} {E : XK} {x : Str} {p pos : Pos} {e : Expr} {es : List Expr} {kws : List Keyword} {t tk : TA}
  {g : List Value → List Value → List Value} {gV : List V → List V → List V}
/-- f(e, ..) of a def with a promise of this kind -/
theorem pe_g (F : FnG X.prog X.w X.K X.mg X.base CX k f fd ps sp) (fr : Free X.A) (hr : Room k X.A) (gl : Gl X x) (at_ : X.mg x = some (.ref f))
    (kp : PySem.W.keepIn X.K (.ref f) = true) (bd : Binds X.K fd ps ds) (rd : Vals dvs ds) (hx : Passes CX X E) (ha : PA X (e :: es) t)
    (n1 : (x == ("__debug__" : Str)) = false := by decide) (n2 : starEach (e :: es) X.env = (false, eval e X.env) :: starEach es X.env := by rfl)
    (n3 : (backTo pos (starEach es X.env)).any (·.1) = false := by rfl) : PE X (.Call (.Name x p) (e :: es) [] pos) (tCall sp dvs E t) := by
  refine ⟨fun pins s σ H Q I h => wpAny_Call_Name_kw (ld_glob I gl at_ ?_ n1)⟩
  refine PySem.W.callWith_K (h₀ := X.base) I.ok.mod.kin kp (thn (ha.run pos pins s σ H _ I h) fun us s1 hh => ?_) n2 n3
  obtain ⟨vs, H1, J, r, q⟩ := hh
  have r2 : Vals (vs ++ dvs) (us ++ ds) := r.append rd
  exact ⟨J.kIn, go_g (ag := ⟨us, []⟩) F fr hr hx J (bd s1 us J.kIn (r2.length.symm.trans (F.ar _ _ _ _ q))) r2 q⟩
theorem pe_g0 (F : FnG X.prog X.w X.K X.mg X.base CX k f fd ps sp) (fr : Free X.A) (hr : Room k X.A) (gl : Gl X x) (at_ : X.mg x = some (.ref f))
    (kp : PySem.W.keepIn X.K (.ref f) = true) (bd : Binds X.K fd ps ds) (rd : Vals dvs ds) (hx : Passes CX X E)
    (n1 : (x == ("__debug__" : Str)) = false := by decide) : PE X (.Call (.Name x p) [] [] pos) (tCall sp dvs E tNil) := by
  refine ⟨fun pins s σ H Q I h => wpAny_Call_Name_kw (ld_glob I gl at_ ?_ n1)⟩
  refine PySem.W.callWith_K0 I.kIn kp (go_g (ag := ⟨[], []⟩) F fr hr hx I (bd s [] I.kIn (rd.length.symm.trans (F.ar _ _ _ _ h))) rd h)
/-- f(k = v, ..), nothing by position -/
theorem pe_gk0 (F : FnG X.prog X.w X.K X.mg X.base CX k f fd ps sp) (fr : Free X.A) (hr : Room k X.A) (gl : Gl X x) (at_ : X.mg x = some (.ref f))
    (kp : PySem.W.keepIn X.K (.ref f) = true) (bd : KBn X.K fd ps 0 ks g gV) (hx : Passes CX X E) (hk : PK X kws tk)
    (n0 : (backToKw pos (keywordEach kws X.env)).all (·.1.isSome) = true := by rfl) (nk : (backToKw pos (keywordEach kws X.env)).filterMap (·.1) = ks := by rfl)
    (n1 : (x == ("__debug__" : Str)) = false := by decide)
    (n3 : ((backTo pos (starEach [] X.env)).any (·.1) || (backToKw pos (keywordEach kws X.env)).any (·.1.isNone)) = false := by rfl) :
    PE X (.Call (.Name x p) [] kws pos) (tCallN 0 ks.length sp gV E tNil tk) := by
  refine ⟨fun pins s σ H Q I h => wpAny_Call_Name_kw (ld_glob I gl at_ ?_ n1)⟩
  refine PySem.W.callWith_KW0 (h₀ := X.base) I.ok.mod.kin kp n0 (thn (hk.run pos pins s σ H _ I h) fun ws s2 hh => ?_) n3
  obtain ⟨zs, H2, J, rz, _, l2, q⟩ := hh
  refine ⟨J.kIn, ?_⟩
  rw [nk]
  exact go_g (ag := ⟨[], ks.zip ws⟩) F fr hr hx J (bd.to s2 [] ws J.kIn rfl (rz.length.symm.trans l2)) (bd.rel .nil rz) q
/-! ### repr of lists and tuples of plain data; list of a text -/
def rRepr (K : PySem.W.Frag) : List V → Hp → VK → Prop := fun xs H Q => ∃ (v : V) (a : Addr) (d : PyData), xs = [v] ∧ v = .ref a ∧ Dp K H v d ∧ d.showable = true ∧ d.hasDict = false ∧ d.depth ≤ 64 ∧
  d.shown.length ≤ sizeLine ∧ Q (.str d.shown) H
theorem call_reprD (fr : Free X.A) (hu : X.A.units + 66 < cLine) : CallR X (.builtin "repr") (rRepr X.K) := by
  rintro pins s σ H _ us Q I r ⟨_, a, d, rfl, rfl, hd, h1, h2, h3, h4, q⟩
  obtain ⟨u, rfl, ru⟩ : ∃ u, us = [u] ∧ u = Value.ref a := vals1 r
  subst ru
  obtain ⟨as, rd⟩ := Dp.reads I d _ _ hd rfl
  exact repr_of_reads' rd h1 (PyData.noDict_hsm h2) fr (by omega) (fun _ _ z => z) (fun h' u tk hk => ⟨.str d.shown, H, I.kept hk, ⟨u, rfl⟩, q⟩) h4
/-- the signs of a text, each a text -/
def sigV (z : Str) : List V := z.cps.toList.map fun c => V.str ⟨#[c]⟩
theorem call_listS (hc : X.calm = true) : CallR X (.type "list") (fun xs H Q => ∃ z : Str, xs = [.str z] ∧ z.length ≤ sizeLine ∧ ∀ q, H q = none → Q (.ref q) (upd H q (.lst (sigV z)))) := by
  rintro pins s σ H _ us Q I r ⟨z, rfl, hz, q⟩
  obtain ⟨_, rfl, ⟨t, rfl⟩⟩ := vals1 r
  have ln : (sigV z).length = z.cps.size := by simp [sigV]
  refine call_list_str (I.ok.hd hc) z t (hn := hz) fun h' tk acc c' hk e hi => ?_
  refine ⟨.ref s.heap.objs.size, upd H s.heap.objs.size (.lst (sigV z)), I.laid hk (Nat.le_refl _) ⟨ln ▸ hz, acc.toList, c', ?_, by rw [Array.toArray_toList]; exact e⟩, rfl, q _ (I.hok.fresh (Nat.le_refl _))⟩
  refine vals_of_idx _ _ (by rw [ln, Array.length_toList]; exact hi.1) fun j u hj => ?_
  have at_ : acc[j]? = some u := by rw [← Array.getElem?_toList]; exact hj
  obtain ⟨c, t', hc, rfl⟩ := hi.2 j u at_
  exact ⟨.str ⟨#[c]⟩, by simp [sigV, hc], ⟨_, rfl⟩⟩
end
end Gd
namespace Gd
open PySem PySem.Spec PyProof.Rows L2
/-! ### the law's own call -/
section
variable {P : Program} {w : World} {K : PySem.W.Frag} {mg mb : Str → Option Value} {CX : CXT} {k : Nat} {fa a : Addr} {fd : FuncData} {x : Str} {sp : Sp} {s : Shared} {vs : List Value} {ns : List Int}
/-- the script's object, and the abstract heap that knows it alone -/
abbrev scr (vs : List Value) : Obj := { cls := .type "list", data := .seq vs.toArray }
/-- what the run of the law leaves -/
abbrev LawEnd (s : Shared) (r : Result) (s' : Shared) : Prop := r = .ok (.ret (.bool true)) ∧ OldK s.heap s'.heap ∧ s'.os = s.os ∧ AllBare s'.gens
theorem law_at (hr : Room k callerA) (F : ∀ base : Heap, K.In base → base.Ns mainGlobals mg → FnG P w K mg base CX k fa fd [x] sp)
    (bd : ∀ (s : Shared) (u : Value), BindsTo s fd ⟨[u], []⟩ [(x, u)]) (hCX : ∀ H e s', CX [] H s (fun _ _ _ => False) e s' → False)
    (ms : Mod K mg s.heap) (hg : s.gens = #[]) (ha : s.heap.get? a = some (scr vs)) (H : Hp) (only : Only H) (own : ∀ b, H b ≠ none → b = a) (apart : H a ≠ none → K.lookup a = none) (hok : HOk P w H s.heap)
    (want : sp [.ref a] H (fun v _ => v = .bl true) fun _ _ _ => False) : codeAny (model P w) callerA (.call (.ref fa) ⟨[.ref a], []⟩) (LawEnd s) s := by
  have nil_ : ∀ {b : Addr}, b ≠ a → H b = none := fun {b} hb => Classical.byContradiction fun z => hb (own b z)
  have dct : ∀ {b : Addr} {o : Obj} {es : Array DictEntry} {ep : Nat}, s.heap.get? b = some o → o.data = .dict es ep → (hidT s.heap H).get? b = some o := by
    intro b o es ep e d
    refine hidT_get e (nil_ fun z => ?_)
    rw [z, ha] at e
    cases e
    cases d
  have ns_ : ∀ {b : Addr} {m : Str → Option Value}, s.heap.Ns b m → (hidT s.heap H).Ns b m := by
    rintro b m ⟨o, es, ep, e, d, r⟩
    exact ⟨o, es, ep, dct e d, d, r⟩
  have kin : K.In (hidT s.heap H) := by
    intro b o e
    refine hidT_get (ms.kin b o e) ?_
    cases q : H b with
    | none => rfl
    | some u =>
      have hb := own b (by rw [q]; exact nofun)
      subst hb
      rw [apart (by rw [q]; exact nofun)] at e
      cases e
  obtain ⟨_, gl, ⟨mb, b1, b2⟩, ⟨mc, l1, l2⟩⟩ := ms
  have e0 : Env0 P w K mg (hidT s.heap H) callerA [] s H :=
    ⟨rfl, ⟨kin, ns_ gl, ⟨mb, ns_ b1, b2⟩, ⟨mc, ns_ l1, l2⟩⟩, fun b o e => of_hidT e, Nat.le_of_eq (hidT_size _ _), trivial, nofun, hok, .of_eq hg⟩
  refine codeAny_mono ((F _ kin (ns_ gl)).go callerA [] s H ⟨[.ref a], []⟩ [.ref a] [.ref a] _ _ rfl hr e0 (bd s (.ref a)) (.cons rfl .nil) want) fun r s' h => ?_
  match r, h with
  | .error e, h => exact (hCX H e s' h).elim
  | .ok (.ret u), h =>
    obtain ⟨v, H', os, bare, un, hok', ru, q⟩ := h
    subst q
    obtain rfl : u = Value.bool true := ru
    refine And.intro rfl ⟨OldK.of_keep fun b o e => ?_, os, bare⟩
    rcases only b with z | ⟨ob, xs, z⟩
    · exact un.keep b o e z nofun nofun
    · obtain ⟨e1, _⟩ := hok b _ z
      obtain ⟨e2, _⟩ := hok' b _ (un.frzs b ob _ z)
      rw [e] at e1
      cases e1
      exact e2
theorem law_run (hr : Room k callerA) (F : ∀ base : Heap, K.In base → base.Ns mainGlobals mg → FnG P w K mg base CX k fa fd [x] sp)
    (bd : ∀ (s : Shared) (u : Value), BindsTo s fd ⟨[u], []⟩ [(x, u)]) (hCX : ∀ H e s', CX [] H s (fun _ _ _ => False) e s' → False)
    (ms : Mod K mg s.heap) (hg : s.gens = #[]) (ha : s.heap.get? a = some (scr vs)) (hi : IntsAre vs ns) (hl : ns.length ≤ sizeLine)
    (want : ∀ H : Hp, Only H → SqL K H a (ns.map V.int) → sp [.ref a] H (fun v _ => v = .bl true) fun _ _ _ => False) : codeAny (model P w) callerA (.call (.ref fa) ⟨[.ref a], []⟩) (LawEnd s) s := by
  have rv := vals_ints hi
  have ln : (ns.map V.int).length ≤ sizeLine := by rw [List.length_map]; exact hl
  cases hk : K.lookup a with
  | some o =>
    have e := ms.kin a o hk
    rw [ha] at e
    cases e
    refine law_at hr F bd hCX ms hg ha (fun _ => none) (fun _ => .inl rfl) (fun b z => absurd rfl z) (fun z => absurd rfl z) (fun b u z => by cases z) (want _ (fun _ => .inl rfl) (.inr ⟨_, vs.toArray, _, hk, rfl, rfl, rfl, ?_, ?_⟩))
    · rw [List.size_toArray, ← rv.length]
      exact ln
    · exact rv
  | none =>
    let H : Hp := fun b => if b = a then some (.frz (scr vs) (.lst (ns.map V.int))) else none
    have Ha : H a = some (.frz (scr vs) (.lst (ns.map V.int))) := if_pos rfl
    have Hn : ∀ b, b ≠ a → H b = none := fun b hb => if_neg hb
    have only : Only H := fun b => by
      by_cases hb : b = a
      · exact .inr ⟨_, _, by rw [hb]; exact Ha⟩
      · exact .inl (Hn b hb)
    refine law_at hr F bd hCX ms hg ha H only (fun b z => Classical.byContradiction fun hb => z (Hn b hb)) (fun _ => hk) (fun b u z => ?_) (want _ only (.inl (.inr ⟨_, Ha⟩)))
    by_cases hb : b = a
    · subst hb
      rw [Ha] at z
      cases z
      exact ⟨ha, ln, vs, _, rv, ha⟩
    · rw [Hn b hb] at z
      cases z
end
/-- what a text's law must bring: where it stands, its promise, and that its promise holds of every script -/
structure Brings (l : PySem.W.OpenLaw) (n k : Nat) (CX : CXT) (x : Str) (w : World) (mg : Str → Option Value) (fa : Addr) (h : Heap) : Prop where
  some_ : ∃ (K : PySem.W.Frag) (fd : FuncData) (sp : Sp), K.In h ∧ (∀ s u, BindsTo s fd ⟨[u], []⟩ [(x, u)]) ∧
    (∀ H a (ns : List Int), ns.length ≤ n → Only H → SqL K H a (ns.map V.int) → sp [.ref a] H (fun v _ => v = .bl true) (fun _ _ _ => False)) ∧
    ∀ base, K.In base → base.Ns mainGlobals mg → FnG l.prog w K mg base CX k fa fd [x] sp
theorem walk_g {l : PySem.W.OpenLaw} {n k : Nat} {q : Program} {loose : List Str} {XP : (Str → Option Value) → Heap → Prop} {YP : World → Heap → Prop} {d : DefRec} {CX : CXT} {x : Str} (hr : Room k callerA)
    (most : l.most = some n) (size : n ≤ sizeLine) (plain : d.params.defaults = []) (quiet : ∀ H s e s', CX [] H s (fun _ _ _ => False) e s' → False)
    (law : ∀ w mg fa h, YP w h → h.Ns mainGlobals mg → mg d.name = some (.ref fa) → Brings l n k CX x w mg fa h) : PySem.W.WalkO q loose XP YP l.row.toRowW d [] (fun f us => PySem.call f us) := by
  refine Att.attach_call most plain fun w s₀ s₁ mg mb fa o pm cd doc a vs ns G Y _ _ _ named obj whole len gens => ?_
  obtain ⟨K, fd, sp, kin, bd, want, F⟩ := (law w mg fa _ Y G.T.g named).some_
  have module_ : Mod K mg s₁.heap := ⟨kin, G.T.g, ⟨mb, G.T.b, G.T.builtins⟩, G.T.nolimit⟩
  exact law_run hr F bd (fun H e s' => quiet H s₁ e s') module_ gens obj whole (Nat.le_trans len size) fun H only sq => want H a ns len only sq
end Gd
namespace Gd
open PySem PySem.Spec PyProof.Rows L2
/-! ### enumerate over a tuple, by what the tuple's own iterator draws -/
/-- a new enumerate object over the iterator at it -/
abbrev enumAt (it : Addr) : Obj := { cls := .type "enumerate", data := .fields #[.none, .bool false, .ref it, rawInt 0, .none, .none] }
theorem enum_made {v : Value} {o : Obj} {HB : Heap → Prop} (B : Begins v o HB) : Meets (Builtin.«enumerate.__new__» ⟨[.type "enumerate", v], []⟩)
    (fun _ R s => HB s.heap ∧ R (.ok (.ret (.ref (s.heap.push o).objs.size))) { s with heap := (s.heap.push o).push (enumAt s.heap.objs.size) }) := by
  refine .of_wp fun prog w A R s both => ?_
  rcases s with ⟨hp, g, dr, tk, os⟩
  rcases both with ⟨stands, want⟩
  have begin_ : ∀ {A2 : Around} {X2 : Value → Shared → Prop} {Q2 : Value → Shared → Prop}, Q2 (.ref hp.objs.size) ⟨hp.push o, g, dr, tk, os⟩ → wpAny (model prog w) A2 (pyIter v) Q2 X2 ⟨hp, g, dr, tk, os⟩ := by
    intro A2 X2 Q2 z
    exact B.iter prog w A2 X2 ⟨hp, g, dr, tk, os⟩ Q2 stands z
  have isSub := sub_enumerate
  wp_walk using begin_
  refine wpAny_stack_any fun around => wpAny_pure ?_
  split
  · next c _ _ _ _ _ =>
    cases h : (c == Value.type "enumerate")
    all_goals
      wp_walk using begin_
      exact ⟨_, rfl, want⟩
  · wp_walk using begin_
    exact ⟨_, rfl, want⟩
theorem enum_call {prog : Program} {w : World} {A : Around} {X : Value → Shared → Prop} {s : Shared} {v : Value} {o : Obj} {HB : Heap → Prop} {Q : Value → Shared → Prop} (B : Begins v o HB) (stands : HB s.heap)
    (want : ∀ h', IsEnum h' (s.heap.objs.size + 1) s.heap.objs.size 0 .none → h'.get? s.heap.objs.size = some o → (∀ b u, s.heap.get? b = some u → h'.get? b = some u) → Q (.ref (s.heap.objs.size + 1)) { s with heap := h' }) :
    wpAny (model prog w) A (call (.type "enumerate") [v]) Q X s := by
  have size1 : (s.heap.push o).objs.size = s.heap.objs.size + 1 := Heap.size_push ..
  have there := Heap.get?_push_size (s.heap.push o) (o := enumAt s.heap.objs.size) rfl
  rw [size1] at there
  refine callType_new F.called_enumerate (by decide) (F.typeCall_enumerate_1 v) (F.newCall_enumerate_1 v) (fun z => F.args_object_init_2 z v) F.entry_enumerate_new (enum_made B) ⟨stands, ?_⟩
  show _ ∧ _
  rw [size1]
  exact ⟨⟨_, there, rfl⟩, want _ there (Heap.get?_push_of_some _ (Heap.get?_push_size _ B.free)) fun b u z => Heap.get?_push_of_some _ (Heap.get?_push_of_some _ z)⟩
/-- the tuple xs at a, each item in a new pair with its number -/
def ItE (K : PySem.W.Frag) (a : Addr) (xs : List V) : It where
  go := fun i H => i < xs.length ∧ SqT K H a xs
  stop := fun i H => i = xs.length ∧ SqT K H a xs
  yld := fun i H v H' => ∃ x, xs[i]? = some x ∧ ∃ T, H T = none ∧ v = .ref T ∧ H' = upd H T (.tup [.int (i : Nat), x])
section
variable {P : Program} {w : World} {K : PySem.W.Frag} {a e it : Addr} {xs : List V}
theorem turn_enumT {elts : List Expr} {kk : Nat} {tpos : Pos} (ei : e ≠ it) (ea : e ≠ a) (ai : a ≠ it) :
    Turn P w K (.Tuple elts kk tpos) (ItE K a xs) [e, it] e (fun i h => (∃ old, IsEnum h e it (0 + (i : Int)) old) ∧ h.IsTupleIter it a i) := by
  have two : ∀ {b : Addr}, b ∈ [e, it] → b = e ∨ b = it := fun {b} m => by simpa using m
  have apart : e ∉ [it, a] := fun m => by
    rcases List.mem_cons.mp m with z | z
    · exact ei z
    · exact ea (List.mem_singleton.mp z)
  refine ⟨List.mem_cons_self .., ?_, ?_, ?_, ?_, ?_⟩
  · rintro i h ⟨⟨old, isE⟩, o, isI, _, dI⟩ b m
    rcases two m with z | z <;> subst z
    · exact ⟨_, isE, nofun⟩
    · exact ⟨o, isI, fun v z => by rw [dI] at z; cases z⟩
  · rintro i h h' ⟨⟨old, isE⟩, isI⟩ k
    exact ⟨⟨old, k e (by simp) _ isE⟩, isI.at fun o z => k it (by simp) o z⟩
  · rintro X rfl rfl rfl calm i pins s σ H E I foot ⟨isE, isI⟩ ⟨lt, sq⟩
    obtain ⟨us, rel, tup, _⟩ := I.tuple sq
    have W := WalksT.enumFrom (A := X.A) 0 (Draws.tuple (prog := X.prog) (w := X.w) (A := X.A.in1) (I.ok.hd calm) it a ai us.toArray) e ei apart (by simp)
    refine W.item i s _ _ (by rw [List.size_toArray, ← rel.length]; exact lt) ⟨isE, isI, tup⟩ fun T vals h1 tk pt old1 tup1 mid keep1 => ?_
    refine ⟨_, rfl, W.go elts kk tpos i T _ _ _ mid fun h2 st2 keep2 => ?_⟩
    obtain ⟨t, u, hu, ev⟩ := pt
    subst ev
    obtain ⟨x, hx, ru⟩ : ∃ x, xs[i]? = some x ∧ RelV x u := by
      obtain ⟨u2, hu2, ru⟩ := rel.get (List.getElem?_eq_getElem lt)
      have : u2 = u := by
        have z : us[i]? = some u := by simpa using hu
        exact Option.some.inj (hu2.symm.trans z)
      subst this
      exact ⟨_, List.getElem?_eq_getElem lt, ru⟩
    have tup2 : h2.IsTuple T #[.int (0 + (i : Int)) t, u] := tup1.at fun o z => keep2 T o (W.apart i T h1 mid) z
    rw [Int.zero_add] at tup2
    have J := I.turnedNew (t' := tk) (ch := [e, it]) (T := T) (ob := .tup [.int (i : Nat), x]) (h' := h2) (fun b o m z => keep2 b o m (keep1 b o m z)) foot old1
      ⟨by show 2 ≤ sizeLine; decide, [.int (i : Int) t, u], .cons ⟨t, rfl⟩ (.cons ru .nil), tup2⟩
    refine ⟨.ref T, _, J, rfl, ⟨x, hx, T, I.hok.fresh old1, rfl, rfl⟩, ⟨st2.1, st2.2.1⟩, fun b m => ?_⟩
    have lo : b < s.heap.objs.size := by
      rcases two m with z | z
      · obtain ⟨_, y⟩ := isE
        rw [z]
        exact Heap.lt_size y
      · obtain ⟨_, y, _⟩ := isI
        rw [z]
        exact Heap.lt_size y
    have other : b ≠ T := fun z => Nat.not_lt.mpr old1 (by rw [← z]; exact lo)
    rw [upd_ne other]
    exact (foot b m).1
  · rintro X rfl rfl rfl calm i pins s σ H E I foot ⟨⟨old, isE⟩, isI⟩ ⟨all_, sq⟩
    obtain ⟨us, rel, tup, _⟩ := I.tuple sq
    have len : i = us.toArray.size := by rw [List.size_toArray, ← rel.length]; exact all_
    have D := Draws.tuple (prog := X.prog) (w := X.w) (A := X.A.in1) (I.ok.hd calm) it a ai us.toArray
    obtain ⟨f1, f2, _, f4, f5, f6⟩ := foot it (by simp)
    exact wpAny_pyNext_enum_endD D isE ⟨len ▸ isI, tup⟩ fun h' ext => ⟨rfl, I.turned (t' := s.toks) (it := it) ext f1 f2 f4 f5 f6⟩
  · rintro A i s Q E ⟨⟨old, isE⟩, _⟩ q
    exact wpAny_pyIter_enum isE q
theorem walk_enumT : Walk (ItE K a xs) xs.length (fun H => SqT K H a xs) (YPair (fun i => some (.int (i : Nat))) (fun i => xs[i]?)) where
  goes := fun _ _ lt sq => ⟨lt, sq⟩
  stops := fun _ sq => ⟨rfl, sq⟩
  yields := fun _ _ _ _ _ _ ⟨x, hx, T, new, ev, eh⟩ => ⟨T, _, x, ev, new, eh, rfl, hx⟩
end
/-- what enumerate(t) asks: t is a tuple -/
def iEnumT (K : PySem.W.Frag) (ta : TA) : TI := fun σ H R => ta σ H fun vs H1 => ∃ a xs, vs = [.ref a] ∧ SqT K H1 a xs ∧ R (ItE K a xs) H1
theorem pi_enumT {X : Cx} {e : Expr} {ta : TA} {p pos tpos : Pos} {elts : List Expr} {kk : Nat} (gl : Gl X "enumerate") (no : X.mg "enumerate" = none) (ha : PA X [e] ta)
    (star : starEach [e] X.env = [(false, eval e X.env)] := by rfl) : PI X (.Tuple elts kk tpos) (.Call (.Name "enumerate" p) [e] [] pos) (iEnumT X.K ta) := by
  constructor
  intro pins s σ H R I h
  have args := ha.run pos pins s σ H _ I h
  refine Call_ (ld_blt I gl no boot_enumerate (PyProof.Rows.callWith_type1 (thn args ?_) star rfl))
  rintro us s1 ⟨vs, H1, J, rel, a, xs, rfl, sq, q⟩
  obtain ⟨u, rfl, ru⟩ : ∃ u, us = [u] ∧ RelV (.ref a) u := by
    cases rel with
    | cons r rs => cases rs; exact ⟨_, rfl, r⟩
  have eu : u = Value.ref a := ru
  subst eu
  obtain ⟨ws, rw_, tup, _⟩ := J.tuple sq
  have low : a < s1.heap.objs.size := by
    obtain ⟨o, ho, _⟩ := tup
    exact Heap.lt_size ho
  refine enum_call (begins_tuple a ws.toArray) tup fun h' isE isI kp => wpAny_pyIter_enum isE ?_
  refine ⟨s1.heap.objs.size + 1, [s1.heap.objs.size + 1, s1.heap.objs.size], _, _, H1, rfl, J.kept (t' := s1.toks) kp, turn_enumT (Nat.succ_ne_self _) ?_ (Nat.ne_of_lt low), ⟨⟨.none, isE⟩, ⟨_, isI, rfl, rfl⟩⟩, fun b m => ?_, q⟩
  · exact fun z => absurd (z ▸ low) (Nat.not_lt.mpr (Nat.le_succ _))
  · have above : s1.heap.objs.size ≤ b := by
      rcases List.mem_cons.mp m with z | z
      · rw [z]; exact Nat.le_succ _
      · rw [List.mem_singleton.mp z]; exact Nat.le_refl _
    exact J.fpOk above (J.hok.fresh above)
end Gd
namespace Gd
open PySem PySem.Spec PyProof.Rows L2
/-! ### the head's facts by names, with one more look -/
def hookX (n : Nat) (fa : List He.Fa) (fn : List He.DefD) (more : PySem.W.Frag → Bool) : PySem.W.Hook where
  α := Bool × He.AlD
  obs := fun s => (more (He.frG s.heap.get? (He.asD s.heap.get? n)), He.obsDG n fa fn s.heap.get?)
  val := fun _ => (true, He.valD fn)
  says := fun _ h => ∃ K : PySem.W.Frag, K.In h ∧ He.SaysD fa fn K ∧ more K = true
  of := fun _ _ e => ⟨_, He.frG_in, congrArg Prod.snd e, congrArg Prod.fst e⟩
  keeps := fun _ _ _ h k => by
    obtain ⟨K, i, c, m⟩ := h
    exact ⟨K, PySem.W.Frag.In.keeps i k, c, m⟩
def obX (n : Nat) (fa : List He.Fa) (fn : List He.DefD) (more : PySem.W.Frag → Bool) (s : PySem.W.SharedT) : Bool × He.AlD :=
  (more (He.frG (HandSHeadRun.getT s) (He.asD (HandSHeadRun.getT s) n)), He.obsDG n fa fn (HandSHeadRun.getT s))
theorem obX_eq (n : Nat) (fa : List He.Fa) (fn : List He.DefD) (more : PySem.W.Frag → Bool) (s : PySem.W.SharedT) : obX n fa fn more s = (hookX n fa fn more).obs s.abs := by
  have e : HandSHeadRun.getT s = s.abs.heap.get? := funext (HandSHeadRun.getT_eq s)
  unfold obX
  rw [e]
  rfl
/-- an empty tuple of the written part -/
def emptyT (K : PySem.W.Frag) (a : Addr) : Bool := match K.lookup a with
  | some ⟨.type c, _, .seq its _, _⟩ => decide (c = "tuple") && decide (its.size = 0)
  | _ => false
theorem emptyT_ok {K : PySem.W.Frag} {a : Addr} (h : emptyT K a = true) (H : Hp) : SqT K H a [] := by
  unfold emptyT at h
  cases q : K.lookup a with
  | none => rw [q] at h; cases h
  | some o =>
    obtain ⟨oc, od, dt, osl⟩ := o
    rw [q] at h
    cases oc with
    | type c =>
      cases dt with
      | seq its n =>
        obtain ⟨h1, h2⟩ := He.ba (show (decide (c = "tuple") && decide (its.size = 0)) = true from h)
        have e0 : its = #[] := Array.eq_empty_of_size_eq_zero (of_decide_eq_true h2)
        subst e0
        exact .inr ⟨_, #[], n, q, congrArg Value.type (of_decide_eq_true h1), rfl, Nat.zero_le _, .nil⟩
      | _ => cases h
    | _ => cases dt <;> cases h
/-- what isinstance asks of the class at C -/
def insOk (K : PySem.W.Frag) (C : Addr) : Bool := He.eqO (PySem.W.findIn K (.ref C) "__class__") (some (some (.builtin "object.__class__"))) &&
  (He.eqO (PySem.W.specialIn K (.builtin "object.__class__") "__get__") (some (some (.builtin "getset_descriptor.__get__"))) &&
    (decide (PySem.W.takesIn K (.builtin "object.__class__") = some true) && decide (PySem.W.mroIn K C (.type "object") = some true)))
def AsksCls (K : PySem.W.Frag) (C : Addr) : Prop := PySem.W.findIn K (.ref C) "__class__" = some (some (.builtin "object.__class__")) ∧
  PySem.W.specialIn K (.builtin "object.__class__") "__get__" = some (some (.builtin "getset_descriptor.__get__")) ∧ PySem.W.takesIn K (.builtin "object.__class__") = some true ∧ PySem.W.mroIn K C (.type "object") = some true
theorem asks_ok {K : PySem.W.Frag} {C : Addr} (h : insOk K C = true) : AsksCls K C := by
  obtain ⟨h1, h⟩ := He.ba h
  obtain ⟨h2, h⟩ := He.ba h
  obtain ⟨h3, h4⟩ := He.ba h
  exact ⟨He.eqO_ok h1, He.eqO_ok h2, of_decide_eq_true h3, of_decide_eq_true h4⟩
end Gd
namespace K01
open PySem PySem.Spec PyProof.Rows L2 Gd
/-! ### the text -/
def top (i : Nat) : Stmt := PySem.Challenge.pw_doorlots_k01_colours_of_any_kind.main.body.getD i (.Pass ⟨0, 0, 0, 0⟩)
abbrev sIsC : Stmt := top 13
abbrev FnP (K : PySem.W.Frag) (x : Str) (st : Stmt) (f : Addr) (fd : FuncData) : Prop := FunD K x x (defArgs st) (defBody st) (defScope st) [] [] f fd
/-! ### what a colour is -/
def abc : Str := "abcdefghijklmnopqrstuvwxyz"
def allIn (z : Str) : Bool := z.cps.toList.all fun c => decide (c ∈ abc.cps.toList)
def isC (z : Str) : Bool := decide (0 < z.length) && (decide (z.length < 7) && allIn z)
theorem same_upd {H : Hp} {p : Addr} {o : HO} (h : H p = none) : Same H (upd H p o) := fun b x e => by
  rw [upd_ne (ne_of_none e h)]
  exact e
/-- a text of moderate length, or a thing that is no text -/
inductive Any (K : PySem.W.Frag) (H : Hp) : V → Bool → Prop
  | str (z : Str) (h : z.length ≤ 100) : Any K H (.str z) (isC z)
  | other {v : V} {t : Value} (h : TyX K H v t) (n : PySem.W.kitOne K t (.type "str") = some false) : Any K H v false
/-- is_colour, and the law's own: the value's answer; what was tracked stands -/
def spIs (K : PySem.W.Frag) : Sp := fun vs H Q _ => ∃ (v : V) (b : Bool), vs = [v] ∧ Any K H v b ∧ ∀ H', Same H H' → Q (.bl b) H'
structure TxC (K : PySem.W.Frag) (mg : Str → Option Value) : Prop where
  isi : mg "isinstance" = none
  str : mg "str" = none
  len : mg "len" = none
  all : mg "all" = none
  lets : ∃ t, mg "LETTERS" = some (.str abc t)
  most : ∃ t, mg "MOST_LETTERS" = some (.int 6 t)
theorem str_nil {z : Str} (h : z.length = 0) : z = "" := by
  obtain ⟨c⟩ := z
  have e : c = #[] := Array.eq_empty_of_size_eq_zero h
  rw [e]
  rfl
theorem kit_str {K : PySem.W.Frag} : PySem.W.kitOne K (.type "str") (.type "str") = some true := kit_ty (by decide +kernel)
theorem small100 {n : Nat} (h : n ≤ 100) : n ≤ sizeLine := Nat.le_trans h (by decide)
theorem _root_.L2.Same.put {H H' : Hp} {D : Addr} {o : HO} (s : Same H H') (h : H D = none) : Same H (upd H' D o) := fun b x e => by
  rw [upd_ne (ne_of_none e h)]
  exact s b x e
/-- the list of the comprehension [c in letters for c in z], behind i turns -/
def bl (z : Str) (i : Nat) : List Bool := (z.cps.toList.take i).map fun c => decide (c ∈ abc.cps.toList)
def bs (z : Str) (i : Nat) : List V := (bl z i).map V.bl
theorem bs_small {z : Str} (h : z.length ≤ 100) (i : Nat) : (bs z i).length < sizeLine := by
  have e : (bs z i).length ≤ z.length := by
    unfold bs bl
    rw [List.length_map, List.length_map, List.length_take]
    exact Nat.min_le_right _ _
  exact small1000 (by omega)
theorem bs_step {z : Str} {i c : Nat} (h : z.cps[i]? = some c) : bs z (i + 1) = bs z i ++ [V.bl (decide (c ∈ abc.cps.toList))] := by
  have e : z.cps.toList[i]? = some c := by rw [Array.getElem?_toList]; exact h
  unfold bs bl
  rw [List.take_add_one, e]
  simp only [Option.toList_some, List.map_append, List.map_cons, List.map_nil]
theorem bs_end (z : Str) : bs z z.cps.size = (z.cps.toList.map fun c => decide (c ∈ abc.cps.toList)).map V.bl := by
  unfold bs bl
  rw [show z.cps.size = z.cps.toList.length from rfl, List.take_length]
theorem all_end (z : Str) : (z.cps.toList.map fun c => decide (c ∈ abc.cps.toList)).all id = allIn z := by
  unfold allIn
  rw [List.all_map]
  rfl
section
variable {P : Program} {w : World} {K : PySem.W.Frag} {mg : Str → Option Value} {base : Heap} {f : Addr} {fd : FuncData}
theorem scC : FnScope ["value", "letter"] ["value"] (defScope sIsC) := ⟨rfl, rfl, rfl, by decide +kernel, rfl, by decide +kernel, by decide +kernel⟩
theorem ok_is (F : FnP K "is_colour" sIsC f fd) (T : TxC K mg) : FnOk P w K mg base CX0 1 f fd ["value"] (spIs K) := by
  refine F.ok scC (fun vs H Q E h => ?_) (fun cdv A outer s H vs Q E hr h => ?_)
  · obtain ⟨v, b, rfl, _⟩ := h
    rfl
  · obtain ⟨v, b, rfl, hv, q⟩ := h
    obtain ⟨tl, gl⟩ := T.lets
    obtain ⟨tm, gm⟩ := T.most
    refine ⟨_, PSs.nox (pss_cons (ps_if (PW.pt (pw_or (pt_not (pt_val (pe_callB call_isi (by rfl) T.isi boot_isinstance (pa_cons (pv 0) (pa_cons (pe_bltn (v := .ty "str") (by rfl) T.str PyProof.Rows.boot_str rfl) pa_nil)))))
        (pw_or (pt_cmpR op_eq (pv 0) pe_str (nomark _)) (pw_or1 (pt_cmpR op_gt (pe_callB call_len_str (by rfl) T.len PySem.boot_len (pa_cons (pv 0) pa_nil)) (pe_glob (v := .int 6) rfl gm ⟨_, rfl⟩) (nomark _))))))
        (pss_one (ps_ret pe_bl)) pss_nil)
      (pss_one (ps_ret (pe_callB (cr_all rfl) (by rfl) T.all boot_all (pa_cons
        (pe_lc (own := [("letter", 1)]) (g := gName 1) (tt := tYes) rfl scC.nd (pi_str (pv 0)) (blkOk_by (N := ["value", "letter"]) (sc := defScope sIsC) (by decide +kernel))
          (fun _ _ _ _ _ => pg_name (i := 1) scC.nd rfl (Or.inl rfl)) (fun _ _ _ _ _ => pts_nil) (fun _ _ _ _ _ => pe_cmpR op_in_sign (pv 1) (pe_glob (v := .str abc) rfl gl ⟨_, rfl⟩) rfl)) pa_nil))))), ?_⟩
    cases hv with
    | other ht hn =>
      refine ⟨v, rfl, v, .ty "str", _, _, false, rfl, .ty "str", ht, hn, false, rfl, iteT ?_⟩
      exact q H (Same.refl H)
    | str z hz =>
      refine ⟨.str z, rfl, .str z, .ty "str", _, _, true, rfl, .ty "str", .base (.str z), kit_str, true, rfl, iteF ?_⟩
      refine ⟨.str z, rfl, rfl, _, rfl, ite2 (fun e => ?_) (fun e => ?_)⟩
      · have e0 : z = "" := V.str.inj (of_decide_eq_true e)
        subst e0
        exact iteT (q H (Same.refl H))
      · refine ⟨.str z, rfl, z, rfl, small100 hz, _, _, rfl, rfl, _, rfl, ite2 (fun e6 => ?_) (fun e6 => ?_)⟩
        · have h6 : (6 : Int) < (z.length : Int) := of_decide_eq_true e6
          have n : isC z = false := by
            unfold isC
            rw [decide_eq_false (show ¬ z.length < 7 by omega), Bool.false_and, Bool.and_false]
          rw [n] at q
          exact q H (Same.refl H)
        · have h6 : ¬ (6 : Int) < (z.length : Int) := fun c => e6 (decide_eq_true c)
          have h0 : 0 < z.length := Nat.pos_of_ne_zero fun c => e (by
            have : z = ("" : Str) := str_nil c
            rw [this]
            rfl)
          have n : isC z = allIn z := by
            unfold isC
            rw [decide_eq_true h0, decide_eq_true (show z.length < 7 by omega), Bool.true_and, Bool.true_and]
          rw [n] at q
          refine ⟨.str z, rfl, z, rfl, fun D hD => lc_it walk_str (fun i H' => Same H H' ∧ H' D = some (.lst (bs z i))) ⟨same_upd hD, upd_same⟩ (fun _ _ _ _ => trivial) ?_ ?_⟩
          · rintro i x H1 H2 hi ⟨s1, e1⟩ ⟨rfl, c, ec, rfl⟩
            refine ⟨rfl, _, rfl, c, abc, rfl, rfl, bs z i, e1, bs_small hz i, ?_, ?_⟩
            · exact s1.put hD
            · rw [upd_same, bs_step ec]
          · rintro H1 ⟨s1, e1⟩
            rw [bs_end] at e1
            refine ⟨D, _, rfl, .inl (.inl e1), ?_⟩
            rw [all_end]
            exact q H1 s1
end
end K01
namespace K01
open PySem PySem.Spec PyProof.Rows L2 Gd
abbrev sLIsC : Stmt := top 22
section
variable {P : Program} {w : World} {K : PySem.W.Frag} {mg : Str → Option Value} {base : Heap} {f : Addr} {fd : FuncData}
theorem scLC : FnScope ["_law_what", "_law_letters", "_law_sign"] ["_law_what"] (defScope sLIsC) := ⟨rfl, rfl, rfl, by decide +kernel, rfl, by decide +kernel, by decide +kernel⟩
theorem ok_lis (F : FnP K "_law_is_colour" sLIsC f fd) (T : TxC K mg) : FnOk P w K mg base CX0 1 f fd ["_law_what"] (spIs K) := by
  refine F.ok scLC (fun vs H Q E h => ?_) (fun cdv A outer s H vs Q E hr h => ?_)
  · obtain ⟨v, b, rfl, _⟩ := h
    rfl
  · obtain ⟨v, b, rfl, hv, q⟩ := h
    refine ⟨_, PSs.nox (pss_cons (ps_set (i := 1) scLC.nd rfl (.inr rfl) pe_str)
      (pss_one (ps_ret (pe_and (pe_callB call_isi (by rfl) T.isi boot_isinstance (pa_cons (pv 0) (pa_cons (pe_bltn (v := .ty "str") (by rfl) T.str PyProof.Rows.boot_str rfl) pa_nil)))
        (pe_and (pe_chain op_lt op_lt pe_int (pe_callB call_len_str (by rfl) T.len PySem.boot_len (pa_cons (pv 0) pa_nil)) pe_int)
          (pe_one (pe_callB (cr_all rfl) (by rfl) T.all boot_all (pa_cons
            (pe_lc (own := [("_law_sign", 2)]) (g := gName 2) (tt := tYes) rfl scLC.nd (pi_str (pv 0)) (blkOk_by (N := ["_law_what", "_law_letters", "_law_sign"]) (sc := defScope sLIsC) (by decide +kernel))
              (fun _ _ _ _ _ => pg_name (i := 2) scLC.nd rfl (Or.inl rfl)) (fun _ _ _ _ _ => pts_nil) (fun _ _ _ _ _ => pe_cmpR op_in_sign (pv 2) (pv 1) rfl)) pa_nil)))))))), ?_⟩
    cases hv with
    | other ht hn =>
      exact ⟨v, rfl, v, .ty "str", _, _, false, rfl, .ty "str", ht, hn, false, rfl, iteF (q H (Same.refl H))⟩
    | str z hz =>
      refine ⟨.str z, rfl, .str z, .ty "str", _, _, true, rfl, .ty "str", .base (.str z), kit_str, true, rfl, iteT ?_⟩
      refine ⟨.str z, rfl, z, rfl, small100 hz, _, _, rfl, rfl, _, rfl, ite2 (fun e => ?_) (fun e => ?_)⟩
      · have h0 : (0 : Int) < (z.length : Int) := of_decide_eq_true e
        refine ⟨_, _, rfl, rfl, _, rfl, ite2 (fun e6 => ?_) (fun e6 => ?_)⟩
        · have h6 : (z.length : Int) < 7 := of_decide_eq_true e6
          have n : isC z = allIn z := by
            unfold isC
            rw [decide_eq_true (show 0 < z.length by omega), decide_eq_true (show z.length < 7 by omega), Bool.true_and, Bool.true_and]
          rw [n] at q
          refine ⟨.str z, rfl, z, rfl, fun D hD => lc_it walk_str (fun i H' => Same H H' ∧ H' D = some (.lst (bs z i))) ⟨same_upd hD, upd_same⟩ (fun _ _ _ _ => trivial) ?_ ?_⟩
          · rintro i x H1 H2 hi ⟨s1, e1⟩ ⟨rfl, c, ec, rfl⟩
            refine ⟨rfl, _, rfl, _, rfl, c, abc, rfl, rfl, bs z i, e1, bs_small hz i, ?_, ?_⟩
            · exact s1.put hD
            · rw [upd_same, bs_step ec]
          · rintro H1 ⟨s1, e1⟩
            rw [bs_end] at e1
            refine ⟨D, _, rfl, .inl (.inl e1), ?_⟩
            rw [all_end]
            exact q H1 s1
        · have h6 : ¬ (z.length : Int) < 7 := fun c => e6 (decide_eq_true c)
          have n : isC z = false := by
            unfold isC
            rw [decide_eq_false (show ¬ z.length < 7 by omega), Bool.false_and, Bool.and_false]
          rw [n] at q
          exact q H (Same.refl H)
      · have h0 : ¬ (0 : Int) < (z.length : Int) := fun c => e (decide_eq_true c)
        have n : isC z = false := by
          unfold isC
          rw [decide_eq_false (show ¬ 0 < z.length by omega), Bool.false_and]
        rw [n] at q
        exact ⟨false, rfl, iteF (q H (Same.refl H))⟩
end
end K01
namespace K01
open PySem PySem.Spec PyProof.Rows L2 Gd
abbrev sPurse : Stmt := top 20
abbrev sDraw : Stmt := top 21
/-- a purse: a list of two ints -/
def Pur (H : Hp) (p : Addr) : Prop := ∃ a b : Int, H p = some (.lst [.int a, .int b])
/-- all but p's content as it was -/
def But (p : Addr) (H H' : Hp) : Prop := ∀ b o, b ≠ p → H b = some o → H' b = some o
structure TxP (mg : Str → Option Value) : Prop where
  max : mg "max" = none
def spPurse (K : PySem.W.Frag) : Sp := fun vs H Q _ => ∃ (a : Addr) (ns : List Int) (k : Nat), vs = [.ref a, .int k] ∧ SqL K H a (ns.map V.int) ∧ ns.length ≤ 1000 ∧ k ≤ 1000 ∧
  ∀ H' p, Same H H' → H p = none → Pur H' p → Q (.ref p) H'
def spDraw : Sp := fun vs H Q _ => ∃ (p : Addr) (m : Int), vs = [.ref p, .int m] ∧ 0 < m ∧ m < 1000000 ∧ Pur H p ∧
  ∀ H' r, 0 ≤ r → r < m → But p H H' → Pur H' p → Q (.int r) H'
theorem cut_int (ns : List Int) (lo hi : Option Int) : ∃ n : Int, (cutV (ns.map V.int) lo hi ++ [V.int 0])[0]? = some (.int n) := by
  have e : ∃ ms : List Int, cutV (ns.map V.int) lo hi = ms.map V.int := by
    unfold cutV
    rw [← List.map_drop, ← List.map_take]
    exact ⟨_, rfl⟩
  obtain ⟨ms, e⟩ := e
  rw [e]
  cases ms with
  | nil => exact ⟨0, rfl⟩
  | cons m r => exact ⟨m, rfl⟩
section
variable {P : Program} {w : World} {K : PySem.W.Frag} {mg : Str → Option Value} {base : Heap} {f : Addr} {fd : FuncData}
theorem scD : FnScope ["_law_purse_here", "_law_many", "_law_digit"] ["_law_purse_here", "_law_many"] (defScope sDraw) := ⟨rfl, rfl, rfl, by decide +kernel, rfl, by decide +kernel, by decide +kernel⟩
theorem ok_draw (F : FnP K "_law_draw" sDraw f fd) : FnOk P w K mg base CX0 1 f fd ["_law_purse_here", "_law_many"] spDraw := by
  refine F.ok scD (fun vs H Q E h => ?_) (fun cdv A outer s H vs Q E hr h => ?_)
  · obtain ⟨p, m, rfl, _⟩ := h
    rfl
  · obtain ⟨p, m, rfl, h0, h1, ⟨a, b, hp⟩, q⟩ := h
    have hS : SqL K H p [.int a, .int b] := SqL.of hp
    refine ⟨_, PSs.nox (pss_cons (ps_if (pt_cmpR op_eq (pe_ix ix_list (pv 0) pe_int (fun _ _ => rfl)) pe_int (nomark _))
        (pss_cons (ps_set (i := 2) scD.nd rfl (.inl rfl) (pe_op op_mod (pe_ix ix_list (pv 0) pe_int (fun _ _ => rfl)) (pv 1)))
          (pss_cons (ps_asg (pe_op op_fdiv (pe_ix ix_list (pv 0) pe_int (fun _ _ => rfl)) (pv 1)) (pg_sub (pv 0) pe_int set_list))
            (pss_one (ps_ret (pv 2))))) pss_nil)
      (pss_cons (ps_asg (pe_op op_add pe_int (pe_op op_mod (pe_op op_add (pe_op op_mul (pe_ix ix_list (pv 0) pe_int (fun _ _ => rfl)) pe_int) pe_int) pe_int)) (pg_sub (pv 0) pe_int set_list))
        (pss_one (ps_ret (pe_op op_mod (pe_op op_fdiv (pe_op op_mod (pe_op op_mul (pe_ix ix_list (pv 0) pe_int (fun _ _ => rfl)) pe_int) pe_int) pe_int) (pv 1)))))), ?_⟩
    refine ⟨_, rfl, p, _, 1, .int b, rfl, rfl, hS, atI_nat (j := 1) rfl, rfl, _, rfl, ite2 (fun e => ?_) (fun e => ?_)⟩
    · refine ⟨_, rfl, p, _, 0, .int a, rfl, rfl, hS, atI_nat (j := 0) rfl, _, rfl, _, _, rfl, rfl, h0, ?_⟩
      refine ⟨_, rfl, p, _, 0, .int a, rfl, rfl, hS, atI_nat (j := 0) rfl, _, rfl, _, _, rfl, rfl, ⟨h0, Int.lt_trans h1 (by decide)⟩, ?_⟩
      refine ⟨_, rfl, p, _, 0, 0, rfl, rfl, hp, rfl, _, rfl, ?_⟩
      exact q _ _ (Int.emod_nonneg _ (Int.ne_of_gt h0)) (Int.emod_lt_of_pos _ h0) (fun c o hc ho => by rw [upd_ne hc]; exact ho) ⟨_, _, upd_same⟩
    · refine ⟨_, rfl, p, _, 1, .int b, rfl, rfl, hS, atI_nat (j := 1) rfl, _, _, rfl, rfl, .inr ⟨by decide, by decide⟩, _, _, rfl, rfl, _, _, rfl, rfl, by show (0 : Int) < 2147483587; decide, _, _, rfl, rfl, ?_⟩
      refine ⟨_, rfl, p, _, 1, 1, rfl, rfl, hp, rfl, ?_⟩
      refine ⟨_, rfl, p, _, 1, _, rfl, rfl, SqL.of upd_same, atI_nat (j := 1) rfl, _, _, rfl, rfl, .inr ⟨by decide, by decide⟩, _, _, rfl, rfl, by show (0 : Int) < 2147483563; decide, _, _, rfl, rfl, ⟨by decide, by decide⟩, _, rfl, _, _, rfl, rfl, h0, ?_⟩
      exact q _ _ (Int.emod_nonneg _ (Int.ne_of_gt h0)) (Int.emod_lt_of_pos _ h0) (fun c o hc ho => by rw [upd_ne hc]; exact ho) ⟨_, _, upd_same⟩
theorem scP : FnScope ["_law_script", "_law_k", "_law_cell"] ["_law_script", "_law_k"] (defScope sPurse) := ⟨rfl, rfl, rfl, by decide +kernel, rfl, by decide +kernel, by decide +kernel⟩
theorem ok_purse (F : FnP K "_law_purse" sPurse f fd) (T : TxP mg) : FnOk P w K mg base CX0 1 f fd ["_law_script", "_law_k"] (spPurse K) := by
  refine F.ok scP (fun vs H Q E h => ?_) (fun cdv A outer s H vs Q E hr h => ?_)
  · obtain ⟨a, ns, k, rfl, _⟩ := h
    rfl
  · obtain ⟨a, ns, k, rfl, hS, hl, hk, q⟩ := h
    refine ⟨_, PSs.nox (pss_cons (ps_set (i := 2) scP.nd rfl (.inl rfl) (pe_ix ix_list (pe_op op_cat (pe_slice sl_list (pv 0) (po_some (pv 1)) (po_some (pe_op op_add (pv 1) pe_int))) (pe_lst (pa_cons pe_int pa_nil))) pe_int (fun _ _ => rfl)))
      (pss_cons (ps_if (PW.pt (pw_or (pt_cmpR op_ge (pv 2) (pe_op op_pow pe_int pe_int) (nomark _)) (pw_or1 (pt_cmpR op_lt (pv 2) pe_int (nomark _)))))
        (pss_one (ps_ret (pe_lst (pa_cons (pe_callB (call_max2 rfl) (by rfl) T.max boot_max (pa_cons (pv 2) (pa_cons (pe_op op_sub (pe_un un_neg pe_int) (pv 2)) pa_nil))) (pa_cons pe_int pa_nil))))) pss_nil)
      (pss_one (ps_ret (pe_lst (pa_cons pe_int (pa_cons (pe_op op_add pe_int (pe_op op_mod (pe_op op_add (pe_op op_mul (pv 2) pe_int) (pe_op op_mul (pe_op op_mul (pe_op op_add (pv 1) pe_int) pe_int) (pe_op op_add (pv 1) pe_int))) pe_int)) pa_nil))))))), ?_⟩
    refine ⟨_, rfl, _, rfl, (k : Int), rfl, _, rfl, _, _, rfl, rfl, (k : Int) + 1, rfl, a, _, rfl, hS, fun c nc => ?_⟩
    have s1 : Same H (upd H c (.lst (cutV (ns.map V.int) (some (k : Int)) (some ((k : Int) + 1))))) := same_upd nc
    refine ⟨by show 1 ≤ sizeLine; decide, fun d nd => ?_⟩
    have ncd : c ≠ d := fun e => by
      rw [← e, upd_same] at nd
      cases nd
    have s2 := same_upd (o := .lst [V.int 0]) nd
    refine ⟨c, d, _, [V.int 0], rfl, rfl, s2 _ _ upd_same, upd_same, ?_, fun g ng => ?_⟩
    · refine Nat.le_trans (Nat.add_le_add_right (cutV_length _ _ _) _) ?_
      rw [List.length_map]
      exact Nat.le_of_lt (Nat.lt_of_le_of_lt (Nat.add_le_add_right hl 1) (by decide))
    have s3 := same_upd (o := .lst (cutV (ns.map V.int) (some (k : Int)) (some ((k : Int) + 1)) ++ [V.int 0])) ng
    obtain ⟨cell, hc⟩ := cut_int ns (some (k : Int)) (some ((k : Int) + 1))
    have sm := (s1.trans s2).trans s3
    refine ⟨g, _, 0, .int cell, rfl, rfl, SqL.of upd_same, atI_nat (j := 0) hc, ?_⟩
    generalize upd (upd (upd H c (.lst (cutV (ns.map V.int) (some (k : Int)) (some ((k : Int) + 1))))) d (.lst [V.int 0])) g (.lst (cutV (ns.map V.int) (some (k : Int)) (some ((k : Int) + 1)) ++ [V.int 0])) = H3 at sm ⊢
    have big : ∀ (x y : Int) (p : Addr), H3 p = none → Q (.ref p) (upd H3 p (.lst [.int x, .int y])) := fun x y p np =>
      q _ p (sm.trans (same_upd np)) (sm.free np) ⟨x, y, upd_same⟩
    refine ⟨_, rfl, _, _, rfl, rfl, ⟨by decide, by decide, by decide⟩, _, _, rfl, rfl, _, rfl, ite2 (fun e => ?_) (fun e => ?_)⟩
    · exact iteT ⟨_, rfl, _, rfl, _, rfl, _, _, rfl, rfl, _, _, rfl, by show 2 ≤ sizeLine; decide, fun p np => big _ _ p np⟩
    · refine ⟨_, rfl, _, _, rfl, rfl, _, rfl, ite2 (fun e2 => ?_) (fun e2 => ?_)⟩
      · exact ⟨_, rfl, _, rfl, _, rfl, _, _, rfl, rfl, _, _, rfl, by show 2 ≤ sizeLine; decide, fun p np => big _ _ p np⟩
      · refine ⟨_, rfl, _, _, rfl, rfl, .inr ⟨by decide, by decide⟩, _, rfl, _, _, rfl, rfl, _, _, rfl, rfl, .inr ⟨by decide, by decide⟩, _, rfl, _, _, rfl, rfl, _, _, rfl, rfl, .inr ⟨?_, ?_⟩, _, _, rfl, rfl, _, _, rfl, rfl, by show (0 : Int) < 2147483629; decide, _, _, rfl, rfl, by show 2 ≤ sizeLine; decide, fun p np => big _ _ p np⟩
        · exact Int.lt_of_lt_of_le (show -(2 ^ 64 : Int) < 0 by decide) (by omega)
        · exact Int.lt_of_le_of_lt (show (k : Int) + 7 ≤ 1007 by omega) (by decide)
end
end K01
namespace K01
open PySem PySem.Spec PyProof.Rows L2 Gd
abbrev sText : Stmt := top 23
theorem But.refl {p : Addr} {H : Hp} : But p H H := fun _ _ _ h => h
theorem But.trans {p : Addr} {H H1 H2 : Hp} (a : But p H H1) (b : But p H1 H2) : But p H H2 := fun c o n h => b c o n (a c o n h)
theorem But.same {p : Addr} {H H1 H2 : Hp} (a : But p H H1) (b : Same H1 H2) : But p H H2 := fun c o n h => b c o (a c o n h)
theorem Pur.same {p : Addr} {H H1 : Hp} (a : Pur H p) (b : Same H H1) : Pur H1 p := by
  obtain ⟨x, y, e⟩ := a
  exact ⟨x, y, b _ _ e⟩
theorem Pur.ne {p q : Addr} {H : Hp} (a : Pur H p) (h : H q = none) : q ≠ p := fun e => by
  obtain ⟨x, y, z⟩ := a
  rw [e, z] at h
  cases h
theorem But.free {p D : Addr} {H H' : Hp} (a : But p H H') (h : D ≠ p) (n : H' D = none) : H D = none := by
  cases e : H D with
  | none => rfl
  | some o =>
    rw [a D o h e] at n
    cases n
theorem But.put {p D : Addr} {H H' : Hp} {o : HO} (a : But p H H') (h : H D = none) : But p H (upd H' D o) := fun c x n e => by
  rw [upd_ne (ne_of_none e h)]
  exact a c x n e
theorem app_len (x y : Str) : (x ++ y).length = x.length + y.length := Array.size_append
structure TxT (mg : Str → Option Value) (fD : Addr) : Prop where
  draw : mg "_law_draw" = some (.ref fD)
  rng : mg "range" = none
def spText : Sp := fun vs H Q _ => ∃ p : Addr, vs = [.ref p] ∧ Pur H p ∧ ∀ H' (z : Str), z.length ≤ 100 → But p H H' → Pur H' p → Q (.str z) H'
theorem joinL_len : ∀ l : List (List Nat), (TL.joinL [] l).length = (l.map List.length).sum
  | [] => rfl
  | [p] => by simp [TL.joinL]
  | p :: q :: r => by
    have ih := joinL_len (q :: r)
    show (p ++ ([] ++ TL.joinL [] (q :: r))).length = _
    rw [List.nil_append, List.length_append, ih]
    rfl
theorem join_len {ys : List Str} (h : ∀ y ∈ ys, y.length = 1) : (Txt.join "" ys).length = ys.length := by
  have e : (Txt.join "" ys).length = (TL.joinL [] (ys.map TL.tl)).length := by
    rw [TL.join_eq]
    exact congrArg List.length (TL.tl_join "" ys)
  rw [e, joinL_len, List.map_map]
  clear e
  induction ys with
  | nil => rfl
  | cons y r ih =>
    rw [List.map_cons, List.sum_cons, ih fun z hz => h z (List.mem_cons_of_mem _ hz), List.length_cons]
    have := h y (List.mem_cons_self ..)
    show y.length + r.length = r.length + 1
    omega
theorem sum_len {ys : List Str} (h : ∀ y ∈ ys, y.length = 1) : (ys.map (·.length)).sum = ys.length := by
  induction ys with
  | nil => rfl
  | cons y r ih =>
    rw [List.map_cons, List.sum_cons, ih fun z hz => h z (List.mem_cons_of_mem _ hz), List.length_cons, h y (List.mem_cons_self ..)]
    omega
def menu : List V := [.str "A", .str "M", .str "Z", .str "0", .str "9", .str " ", .str "\n", .str "-", .str "_", .str "`", .str "{", .str "~", .str ".", .str "'"]
theorem menu_at {r : Int} (h0 : 0 ≤ r) (h1 : r < 14) : ∃ o : Str, o.length = 1 ∧ atI menu r = some (.str o) := by
  obtain ⟨n, hr⟩ := Int.eq_ofNat_of_zero_le h0
  subst hr
  have hn : n < 14 := by omega
  have all : ∀ m : Fin 14, ∃ o : Str, o.length = 1 ∧ menu[m.val]? = some (.str o) := by
    intro m
    match m with
    | ⟨0, _⟩ => exact ⟨_, rfl, rfl⟩
    | ⟨1, _⟩ => exact ⟨_, rfl, rfl⟩
    | ⟨2, _⟩ => exact ⟨_, rfl, rfl⟩
    | ⟨3, _⟩ => exact ⟨_, rfl, rfl⟩
    | ⟨4, _⟩ => exact ⟨_, rfl, rfl⟩
    | ⟨5, _⟩ => exact ⟨_, rfl, rfl⟩
    | ⟨6, _⟩ => exact ⟨_, rfl, rfl⟩
    | ⟨7, _⟩ => exact ⟨_, rfl, rfl⟩
    | ⟨8, _⟩ => exact ⟨_, rfl, rfl⟩
    | ⟨9, _⟩ => exact ⟨_, rfl, rfl⟩
    | ⟨10, _⟩ => exact ⟨_, rfl, rfl⟩
    | ⟨11, _⟩ => exact ⟨_, rfl, rfl⟩
    | ⟨12, _⟩ => exact ⟨_, rfl, rfl⟩
    | ⟨13, _⟩ => exact ⟨_, rfl, rfl⟩
  obtain ⟨o, ho, e⟩ := all ⟨n, hn⟩
  exact ⟨o, ho, atI_nat e⟩
theorem abc_at {r : Int} (h0 : 0 ≤ r) (h1 : r < 26) : ∃ c : Nat, atI abc.cps.toList r = some c := by
  obtain ⟨n, hr⟩ := Int.eq_ofNat_of_zero_le h0
  subst hr
  have hn : n < abc.cps.toList.length := Nat.lt_of_lt_of_le (show n < 26 by omega) (by decide)
  exact ⟨_, atI_nat (List.getElem?_eq_getElem hn)⟩
section
variable {P : Program} {w : World} {K : PySem.W.Frag} {mg : Str → Option Value} {base : Heap} {f fD : Addr} {fd fdD : FuncData}
abbrev NT : List Str := ["_law_purse_here", "_law_letters", "_law_odd", "_law_at", "_law_size", "_law_other", "_law_found", "_law_k"]
theorem scT : FnScope NT ["_law_purse_here"] (defScope sText) := ⟨rfl, rfl, rfl, by decide +kernel, rfl, by decide +kernel, by decide +kernel⟩
theorem ok_text (F : FnP K "_law_text" sText f fd) (FD : FnP K "_law_draw" sDraw fD fdD) (T : TxT mg fD) : FnOk P w K mg base CX0 2 f fd ["_law_purse_here"] spText := by
  have GD : FnOk P w K mg base CX0 1 fD fdD ["_law_purse_here", "_law_many"] spDraw := ok_draw FD
  have bD : Binds K fdD ["_law_purse_here", "_law_many"] [] := FD.bindsN fun _ _ _ _ _ _ us hl => match us, hl with | [_, _], _ => rfl
  refine F.ok scT (fun vs H Q E h => ?_) (fun cdv A outer s H vs Q E hr h => ?_)
  · obtain ⟨p, rfl, _⟩ := h
    rfl
  · obtain ⟨p, rfl, hp, q⟩ := h
    refine ⟨_, PSs.nox (pss_cons (ps_set (i := 1) scT.nd rfl (.inr rfl) pe_str)
      (pss_cons (ps_par3 (i := 2) (j := 3) (l := 4) rfl scT.nd rfl rfl rfl (by decide) (by decide) (by decide) rfl rfl rfl
          (pa_cons (pe_call GD hr rfl T.draw FD.kp bD .nil pass0 (pa_cons (pv 0) (pa_cons pe_int pa_nil)))
            (pa_cons (pe_call GD hr rfl T.draw FD.kp bD .nil pass0 (pa_cons (pv 0) (pa_cons pe_int pa_nil)))
              (pa_cons (pe_call GD hr rfl T.draw FD.kp bD .nil pass0 (pa_cons (pv 0) (pa_cons pe_int pa_nil))) pa_nil))) rfl)
      (pss_cons (ps_set (i := 5) scT.nd rfl (.inl rfl) (pe_ix ix_list (pe_lst (pa_cons pe_str (pa_cons pe_str (pa_cons pe_str (pa_cons pe_str (pa_cons pe_str (pa_cons pe_str (pa_cons pe_str (pa_cons pe_str (pa_cons pe_str (pa_cons pe_str (pa_cons pe_str (pa_cons pe_str (pa_cons pe_str (pa_cons pe_str pa_nil)))))))))))))))
          (pe_call GD hr rfl T.draw FD.kp bD .nil pass0 (pa_cons (pv 0) (pa_cons pe_int pa_nil))) (fun _ _ => rfl)))
      (pss_cons (ps_set (i := 6) scT.nd rfl (.inl rfl) (pe_join pe_str
          (pe_lc (own := [("_law_k", 7)]) (g := gName 7) (tt := tYes) rfl scT.nd (pi_range1 (by rfl) T.rng (pa_cons (pv 4) pa_nil)) (blkOk_by (N := NT) (sc := defScope sText) (by decide +kernel))
            (fun _ _ _ _ _ => pg_name (i := 7) scT.nd rfl (Or.inl rfl)) (fun _ _ _ _ _ => pts_nil)
            (fun _ _ _ _ _ => pe_ix ix_str (pv 1) (pe_call GD hr rfl T.draw FD.kp bD .nil pass0 (pa_cons (pv 0) (pa_cons pe_int pa_nil))) (fun _ _ => rfl)))))
      (pss_one (ps_ret (pe_ifExp (pt_cmpR op_eq (pv 2) pe_int (nomark _))
        (pe_op op_add_str (pe_op op_add_str (pe_slice sl_str (pv 6) po_none (po_some (pv 3))) (pv 5)) (pe_slice sl_str (pv 6) (po_some (pv 3)) po_none)) (pv 6)))))))), ?_⟩
    refine ⟨_, rfl, p, 3, rfl, by decide, by decide, hp, fun H1 r1 l1 u1 b1 p1 => ?_⟩
    refine ⟨_, rfl, p, 9, rfl, by decide, by decide, p1, fun H2 r2 l2 u2 b2 p2 => ?_⟩
    refine ⟨_, rfl, p, 9, rfl, by decide, by decide, p2, fun H3 r3 l3 u3 b3 p3 => ?_⟩
    refine ⟨_, _, _, rfl, ?_⟩
    -- other = [..][draw]
    refine ⟨by show 14 ≤ sizeLine; decide, fun d nd => ?_⟩
    have s4 := same_upd (o := .lst menu) nd
    have nd' := p3.ne nd
    refine ⟨_, rfl, p, 14, rfl, by decide, by decide, p3.same s4, fun H5 r5 l5 u5 b5 p5 => ?_⟩
    obtain ⟨o, ho, eo⟩ := menu_at l5 u5
    refine ⟨d, menu, r5, .str o, rfl, rfl, SqL.of (b5 d _ nd' upd_same), eo, ?_⟩
    have B5 : But p H H5 := ((b1.trans b2).trans b3).trans ((But.refl.same s4).trans b5)
    -- found = ''.join([..])
    refine ⟨⟨_, rfl⟩, _, rfl, r3, rfl, ?_, ?_, fun D hD => ?_⟩
    · exact Int.le_trans (by decide) l3
    · exact Int.lt_trans u3 (by decide)
    · have hDp := p5.ne hD
      have hDH := B5.free hDp hD
      refine lc_range (lo := 0) (n := r3.toNat) (fun i H' => But p H H' ∧ Pur H' p ∧ ∃ ys : List Str, H' D = some (.lst (ys.map V.str)) ∧ ys.length = i ∧ ∀ y ∈ ys, y.length = 1) ?_ ?_ ?_
      · exact ⟨B5.same (same_upd hD), p5.same (same_upd hD), [], upd_same, rfl, fun y hy => by cases hy⟩
      · rintro i H6 hi ⟨b6, p6, ys, e6, ly, hy⟩
        refine ⟨rfl, _, rfl, _, rfl, p, 26, rfl, by decide, by decide, p6, fun H7 r7 l7 u7 b7 p7 => ?_⟩
        obtain ⟨c, ec⟩ := abc_at l7 u7
        refine ⟨abc, r7, c, rfl, rfl, by decide, ec, ys.map V.str, ?_, ?_, ?_⟩
        · exact b7 D _ hDp e6
        · rw [List.length_map, ly]
          exact small1000 (by omega)
        · refine ⟨(b6.trans b7).put hDH, ?_, ys ++ [⟨#[c]⟩], ?_, ?_, ?_⟩
          · obtain ⟨x, y, z⟩ := p7
            exact ⟨x, y, by rw [upd_ne (Ne.symm hDp)]; exact z⟩
          · rw [upd_same, List.map_append]
            rfl
          · rw [List.length_append, ly]
            rfl
          · intro y my
            rcases List.mem_append.mp my with m | m
            · exact hy y m
            · rw [List.mem_singleton.mp m]
              rfl
      · rintro H6 ⟨b6, p6, ys, e6, ly, hy⟩
        have l8 : ys.length ≤ 8 := by omega
        have lj : (Txt.join "" ys).length ≤ 8 := by rw [join_len hy]; exact l8
        refine ⟨"", D, ys, rfl, rfl, .inl (SqL.of e6), ?_, ?_⟩
        · rw [sum_len hy]
          show ys.length + ys.length * 0 ≤ 16777216
          omega
        · generalize Txt.join "" ys = z at lj ⊢
          have c1 : (cutS z none (some r2)).length ≤ 8 := Nat.le_trans (cutS_length _ _ _) lj
          have c2 : (cutS z (some r2) none).length ≤ 8 := Nat.le_trans (cutS_length _ _ _) lj
          refine ⟨_, rfl, rfl, _, rfl, ite2 (fun e => ?_) (fun e => ?_)⟩
          · refine ⟨_, rfl, _, rfl, r2, rfl, z, rfl, small100 (by omega), _, rfl, _, _, rfl, rfl, small100 (by omega), _, rfl, _, rfl, r2, rfl, z, rfl, small100 (by omega), _, _, rfl, rfl, ?_, ?_⟩
            · rw [app_len]
              exact small100 (by omega)
            · refine q H6 _ ?_ b6 p6
              rw [app_len, app_len]
              omega
          · exact ⟨_, rfl, q H6 z (by omega) b6 p6⟩
end
end K01
namespace K01
open PySem PySem.Spec PyProof.Rows L2 Gd
abbrev sRight : Stmt := top 24
theorem tyx_same {K : PySem.W.Frag} {H H' : Hp} {v : V} {t : Value} (s : Same H H') (h : TyX K H v t) : TyX K H' v t := by
  cases h with
  | base b =>
    refine .base ?_
    cases b with
    | non => exact .non
    | bl y => exact .bl y
    | int i => exact .int i
    | str y => exact .str y
    | flt y => exact .flt y
    | lst e => exact .lst (s _ _ e)
    | frz e => exact .frz (s _ _ e)
    | tup e => exact .tup (s _ _ e)
    | dK e => exact .dK (s _ _ e)
    | dT e => exact .dT (s _ _ e)
    | ins e c h1 h2 h3 h4 => exact .ins (s _ _ e) c h1 h2 h3 h4
  | byt b => exact .byt b
  | set e => exact .set (s _ _ e)
  | kList e c => exact .kList e c
  | kTuple e c => exact .kTuple e c
  | kDict e c => exact .kDict e c
  | fTuple e => exact .fTuple (s _ _ e)
  | fDict e => exact .fDict (s _ _ e)
theorem Any.same {K : PySem.W.Frag} {H H' : Hp} {v : V} {b : Bool} (s : Same H H') (h : Any K H v b) : Any K H' v b := by
  cases h with
  | str z hz => exact .str z hz
  | other ht hn => exact .other (tyx_same s ht) hn
structure TxR (mg : Str → Option Value) (fI fL : Addr) : Prop where
  is : mg "is_colour" = some (.ref fI)
  lis : mg "_law_is_colour" = some (.ref fL)
  repr : mg "repr" = none
def spRight (K : PySem.W.Frag) : Sp := fun vs H Q _ => ∃ (v : V) (b : Bool), vs = [v] ∧ Any K H v b ∧ ∀ H', Same H H' → Q (.bl true) H'
section
variable {P : Program} {w : World} {K : PySem.W.Frag} {mg : Str → Option Value} {base : Heap} {f fI fL : Addr} {fd fdI fdL : FuncData}
theorem kb_is (F : FnP K "is_colour" sIsC f fd) : KBn K fd ["value"] 0 ["value"] (fun _ ws => ws) (fun _ zs => zs) := by
  obtain ⟨_, _, _, _, _, _, _, _, _, _, rfl, _, _, dflt, _⟩ := F.ex
  rcases dflt with none_ | ⟨e, _⟩
  · cases none_.2
    exact ⟨fun s us ws _ l1 l2 => match us, ws, l1, l2 with | [], [_], _, _ => .of_eq rfl, fun _ r => r⟩
  · exact absurd rfl e
theorem scR : FnScope ["_law_what", "_law_due"] ["_law_what"] (defScope sRight) := ⟨rfl, rfl, rfl, by decide +kernel, rfl, by decide +kernel, by decide +kernel⟩
def three (b : Bool) : PyData := .list [.bool b, .bool b, .bool b]
theorem three_dp {K : PySem.W.Frag} {H : Hp} {l : Addr} {b : Bool} (h : H l = some (.lst [.bl b, .bl b, .bl b])) : Dp K H (.ref l) (three b) := .lst (SqL.of h) (.cons (.bl b) (.cons (.bl b) (.cons (.bl b) .nil)))
theorem three_ok (b : Bool) : (three b).showable = true ∧ (three b).hasDict = false ∧ (three b).depth ≤ 64 ∧ (three b).shown.length ≤ sizeLine := by
  cases b
  · exact ⟨by decide +kernel, by decide +kernel, by decide +kernel, by decide +kernel⟩
  · exact ⟨by decide +kernel, by decide +kernel, by decide +kernel, by decide +kernel⟩
theorem ok_right (F : FnP K "_law_right" sRight f fd) (FI : FnP K "is_colour" sIsC fI fdI) (FL : FnP K "_law_is_colour" sLIsC fL fdL) (C : TxC K mg) (T : TxR mg fI fL) : FnG P w K mg base CX0 2 f fd ["_law_what"] (spRight K) := by
  have GI : FnOk P w K mg base CX0 1 fI fdI ["value"] (spIs K) := ok_is FI C
  have GL : FnOk P w K mg base CX0 1 fL fdL ["_law_what"] (spIs K) := ok_lis FL C
  have bI : Binds K fdI ["value"] [] := FI.bindsN fun _ _ _ _ _ _ us hl => match us, hl with | [_], _ => rfl
  have bL : Binds K fdL ["_law_what"] [] := FL.bindsN fun _ _ _ _ _ _ us hl => match us, hl with | [_], _ => rfl
  refine fun_g F scR (fun vs H Q E h => ?_) (fun cdv A outer s H vs Q E fr hr h => ?_)
  · obtain ⟨v, b, rfl, _⟩ := h
    rfl
  · obtain ⟨v, b, rfl, hv, q⟩ := h
    have fr' : Free (A.deeper (envOfC "_law_right" (defScope sRight) s.heap.objs.size f cdv)) := fr
    have hu : (A.deeper (envOfC "_law_right" (defScope sRight) s.heap.objs.size f cdv)).units + 66 < cLine := by have := hr.un; omega
    refine ⟨_, PSs.nox (pss_cons (ps_set (i := 1) scR.nd rfl (.inl rfl) (pe_call GL hr rfl T.lis FL.kp bL .nil pass0 (pa_cons (pv 0) pa_nil)))
      (pss_one (ps_ret (pe_cmpR op_eq
        (pe_callB (call_reprD fr' hu) (by rfl) T.repr PyProof.Rows.boot_repr (pa_cons (pe_lst (pa_cons (pe_call GI hr rfl T.is FI.kp bI .nil pass0 (pa_cons (pv 0) pa_nil))
          (pa_cons (pe_gk0 (FnG.of GI) fr' hr rfl T.is FI.kp (kb_is FI) pass0 (pk_cons (pv 0) pk_nil)) (pa_cons (pe_call GI hr rfl T.is FI.kp bI .nil pass0 (pa_cons (pv 0) pa_nil)) pa_nil)))) pa_nil))
        (pe_callB (call_reprD fr' hu) (by rfl) T.repr PyProof.Rows.boot_repr (pa_cons (pe_op op_rep (pe_lst (pa_cons (pv 1) pa_nil)) pe_int) pa_nil)) (nomark _))))), ?_⟩
    obtain ⟨t1, t2, t3, t4⟩ := three_ok b
    refine ⟨v, rfl, v, b, rfl, hv, fun H1 s1 => ?_⟩
    refine ⟨v, rfl, v, b, rfl, hv.same s1, fun H2 s2 => ?_⟩
    refine ⟨v, rfl, rfl, rfl, v, b, rfl, (hv.same s1).same s2, fun H3 s3 => ?_⟩
    refine ⟨v, rfl, v, b, rfl, ((hv.same s1).same s2).same s3, fun H4 s4 => ?_⟩
    refine ⟨by show 3 ≤ sizeLine; decide, fun l nl => ?_⟩
    refine ⟨_, l, three b, rfl, rfl, three_dp upd_same, t1, t2, t3, t4, ?_⟩
    refine ⟨_, rfl, by show 1 ≤ sizeLine; decide, fun m nm => ?_⟩
    refine ⟨m, 3, _, rfl, rfl, upd_same, by decide, by decide, by show 1 * 3 ≤ sizeLine; decide, fun n nn => ?_⟩
    refine ⟨_, n, three b, rfl, rfl, three_dp upd_same, t1, t2, t3, t4, ?_⟩
    refine ⟨rfl, ?_⟩
    have e : decide (V.str (three b).shown = V.str (three b).shown) = true := decide_eq_true rfl
    rw [e]
    exact q _ (((((((s1.trans s2).trans s3).trans s4).trans (same_upd nl)).trans (same_upd nm))).trans (same_upd nn))
end
end K01
namespace K01
open PySem PySem.Spec PyProof.Rows L2 Gd
abbrev sWhole : Stmt := top 12
abbrev sWays : Stmt := top 16
abbrev sLeast : Stmt := top 17
abbrev sHouse : Stmt := top 18
abbrev sInit : Stmt := inClass sHouse 0
theorem sqt_same {K : PySem.W.Frag} {H H' : Hp} {a : Addr} {xs : List V} (e : Same H H') (h : SqT K H a xs) : SqT K H' a xs := by
  rcases h with (own | ⟨o, own⟩) | text
  · exact .inl (.inl (e _ _ own))
  · refine .inl (.inr ⟨o, ?_⟩)
    exact e _ _ own
  · exact .inr text
structure TxH (K : PySem.W.Frag) (mg : Str → Option Value) (C fW fY fU : Addr) : Prop where
  isi : mg "isinstance" = none
  int : mg "int" = none
  bool : mg "bool" = none
  tuple : mg "tuple" = none
  range : mg "range" = none
  enum : mg "enumerate" = none
  len : mg "len" = none
  most : ∃ t, mg "MOST_HALLS" = some (.int 64 t)
  whole : mg "is_whole" = some (.ref fW)
  ways : mg "ways_of" = some (.ref fY)
  least : mg "least_unreached" = some (.ref fU)
  cl : Cls K C
  n1 : NoAttr K C "halls"
  n2 : NoAttr K C "doors"
  n3 : NoAttr K C "ways"
section
variable {P : Program} {w : World} {K : PySem.W.Frag} {mg : Str → Option Value} {base : Heap} {f C fW fY fU : Addr} {fd fdW fdY fdU : FuncData}
def spWhole (K : PySem.W.Frag) : Sp := fun vs H Q _ => ∃ (v : V) (t : Value) (b c : Bool), vs = [v] ∧ TyX K H v t ∧ PySem.W.kitOne K t (.type "int") = some b ∧ PySem.W.kitOne K t (.type "bool") = some c ∧ Q (.bl (b && !c)) H
theorem scW : FnScope ["value"] ["value"] (defScope sWhole) := ⟨rfl, rfl, rfl, by decide +kernel, rfl, by decide +kernel, by decide +kernel⟩
theorem ok_whole (F : FnP K "is_whole" sWhole f fd) (T : TxH K mg C fW fY fU) : FnOk P w K mg base CX0 1 f fd ["value"] (spWhole K) := by
  refine F.ok scW (fun vs H Q E h => ?_) (fun cdv A outer s H vs Q E hr h => ?_)
  · obtain ⟨v, t, b, c, rfl, _⟩ := h
    rfl
  · obtain ⟨v, t, b, c, rfl, ht, k1, k2, q⟩ := h
    refine ⟨_, PSs.nox (pss_one (ps_ret (pe_and (pe_callB call_isi (by rfl) T.isi boot_isinstance (pa_cons (pv 0) (pa_cons (pe_bltn (v := .ty "int") (by rfl) T.int (by decide +kernel) rfl) pa_nil)))
      (pe_one (pe_not (pe_callB call_isi (by rfl) T.isi boot_isinstance (pa_cons (pv 0) (pa_cons (pe_bltn (v := .ty "bool") (by rfl) T.bool (by decide +kernel) rfl) pa_nil)))))))), ?_⟩
    refine ⟨v, rfl, v, .ty "int", _, _, b, rfl, .ty "int", ht, k1, b, rfl, ?_⟩
    cases b with
    | true => exact iteT ⟨v, rfl, v, .ty "bool", _, _, c, rfl, .ty "bool", ht, k2, c, rfl, q⟩
    | false => exact iteF q
/-- ways_of(1, ()) -/
def spWays1 (K : PySem.W.Frag) : Sp := fun vs H Q _ => ∃ a : Addr, vs = [.int 1, .ref a] ∧ SqT K H a [] ∧
  ∀ H' D d, Same H H' → H D = none → H' D = some (.lst [.ref d]) → H' d = some (.dK []) → Q (.ref D) H'
abbrev NY : List Str := ["halls", "doors", "ways", "colours", "position", "door", "low", "high", "colour", "hall"]
theorem scY : FnScope NY ["halls", "doors"] (defScope sWays) := ⟨rfl, rfl, rfl, by decide +kernel, rfl, by decide +kernel, by decide +kernel⟩
theorem ok_ways1 (F : FnP K "ways_of" sWays f fd) (T : TxH K mg C fW fY fU) : FnOk P w K mg base CX0 1 f fd ["halls", "doors"] (spWays1 K) := by
  refine F.ok scY (fun vs H Q E h => ?_) (fun cdv A outer s H vs Q E hr h => ?_)
  · obtain ⟨a, rfl, _⟩ := h
    rfl
  · obtain ⟨a, rfl, hS, q⟩ := h
    refine ⟨_, PSs.nox (pss_cons (ps_setLc (i := 2) (own := [("hall", 9)]) (g := gName 9) (tt := tYes) rfl scY.nd rfl rfl (sw_true rfl rfl rfl (by decide +kernel)) (pi_range1 (by rfl) T.range (pa_cons (pv 0) pa_nil))
        (blkOk_by (N := NY) (sc := defScope sWays) (by decide +kernel)) (fun _ _ _ _ _ => pg_name (i := 9) scY.nd rfl (Or.inl rfl)) (fun _ _ _ _ _ => pts_nil) (fun _ _ _ _ _ => pe_dnewK))
      (pss_cons (ps_set (i := 3) scY.nd rfl (.inl rfl) pe_dnewK)
      (pss_cons (ps_for PassesOwn.never rfl (pi_enumT (by rfl) T.enum (pa_cons (pv 1) pa_nil)) (pg_tup rfl (pgs_cons (pg_name (i := 4) scY.nd rfl (.inl rfl)) (pgs_cons (pg_name (i := 5) scY.nd rfl (.inl rfl)) pgs_nil))) pss_never)
      (pss_one (ps_ret (pv 2)))))), ?_⟩
    refine ⟨_, rfl, 1, rfl, by decide, by decide, fun D hD => lc_range (lo := 0) (n := 1) (fun i H' => Same H H' ∧ (i = 0 → H' D = some (.lst [])) ∧ (i = 1 → ∃ d, H' D = some (.lst [.ref d]) ∧ H' d = some (.dK []))) ?_ ?_ ?_⟩
    · exact ⟨same_upd hD, fun _ => upd_same, fun z => absurd z (by decide)⟩
    · rintro i H1 hi ⟨s1, e1, _⟩
      have hi0 : i = 0 := by omega
      subst hi0
      refine ⟨rfl, fun d hd => ⟨[], ?_, by decide, ?_, fun z => absurd z (by decide), fun _ => ⟨d, ?_, ?_⟩⟩⟩
      · rw [upd_ne (ne_of_none (e1 rfl) hd)]
        exact e1 rfl
      · exact (s1.trans (same_upd hd)).put hD
      · rw [upd_same]
        rfl
      · rw [upd_ne (Ne.symm (ne_of_none (e1 rfl) hd)), upd_same]
    · rintro H1 ⟨s1, _, e1⟩
      obtain ⟨d, e2, e3⟩ := e1 rfl
      refine fun c hc => ?_
      have s2 := same_upd (o := .dK []) hc
      have sm := s1.trans s2
      have hS2 : SqT K (upd H1 c (.dK [])) a [] := sqt_same sm hS
      refine ⟨_, rfl, a, [], rfl, hS2, for_it walk_enumT (fun i σ' H' => σ' = _ ∧ H' = upd H1 c (.dK [])) ⟨rfl, rfl⟩ (fun i σ' H' _ h => h.2 ▸ hS2) (fun i x σ' H' H2 hi => absurd hi (Nat.not_lt_zero _)) ?_⟩
      rintro σ' H' ⟨rfl, rfl⟩
      exact ⟨_, rfl, q _ D d sm hD (s2 _ _ e2) (s2 _ _ e3)⟩
end
end K01
namespace K01
open PySem PySem.Spec PyProof.Rows L2 Gd
section
variable {P : Program} {w : World} {K : PySem.W.Frag} {mg : Str → Option Value} {base : Heap} {f C fW fY fU : Addr} {fd fdW fdY fdU : FuncData}
/-- least_unreached([{}]) -/
def spLeast1 : Sp := fun vs H Q _ => ∃ D d : Addr, vs = [.ref D] ∧ H D = some (.lst [.ref d]) ∧ H d = some (.dK []) ∧ ∀ H', Same H H' → Q .non H'
abbrev NU : List Str := ["ways", "reached", "waiting", "hall", "goal"]
theorem scU : FnScope NU ["ways"] (defScope sLeast) := ⟨rfl, rfl, rfl, by decide +kernel, rfl, by decide +kernel, by decide +kernel⟩
theorem ok_least1 (F : FnP K "least_unreached" sLeast f fd) (T : TxH K mg C fW fY fU) : FnOk P w K mg base CX0 1 f fd ["ways"] spLeast1 := by
  refine F.ok scU (fun vs H Q E h => ?_) (fun cdv A outer s H vs Q E hr h => ?_)
  · obtain ⟨D, d, rfl, _⟩ := h
    rfl
  · obtain ⟨D, d, rfl, eD, ed, q⟩ := h
    have hu := hu_of hr
    refine ⟨_, PSs.nox (pss_cons (ps_set (i := 1) scU.nd rfl (.inl rfl) (pe_disp (pps_cons pe_int pe_bl pps_nil) (by rfl) (by rfl) (fun z => by cases z) (by decide)))
      (pss_cons (ps_set (i := 2) scU.nd rfl (.inl rfl) (pe_lst (pa_cons pe_int pa_nil)))
      (pss_cons (ps_while PassesOwn.never (pt_truth (pv 2) (by intro _; rfl))
        (pss_cons (ps_set (i := 3) scU.nd rfl (.inl rfl) (pe_bm0 PySem.F.plainAttrs_list PySem.F.slot_list_pop PySem.F.type_list_pop mt_pop (pv 2)))
          (pss_one (ps_lock (ps_for PassesOwn.never rfl (pi_values (pe_ix ix_list (pv 0) (pv 3) (fun _ _ => rfl))) (pg_name (i := 4) scU.nd rfl (.inl rfl)) pss_never)))))
      (pss_cons (ps_for PassesOwn.never rfl (pi_range1 (by rfl) T.range (pa_cons (pe_callB call_len_seq (by rfl) T.len PySem.boot_len (pa_cons (pv 0) pa_nil)) pa_nil)) (pg_name (i := 3) scU.nd rfl (.inl rfl))
        (pss_one (ps_if (pt_cmp (pc_dnotin hu (pv 3) (pv 1))) (pss_one (ps_ret (pv 3))) pss_nil)))
      (pss_one (ps_ret pe_non)))))), ?_⟩
    -- reached = {0: True}
    refine fun r hr0 => ⟨upd_same, [(.inl 0, .bl true)], rfl, by decide, ?_⟩
    have s1 : Same H (upd (upd H r (.dK [])) r (.dK (mergeK [] [(Sum.inl 0, V.bl true)]))) := (same_upd hr0).put hr0
    have e1 : (upd (upd H r (.dK [])) r (.dK (mergeK [] [(Sum.inl 0, V.bl true)]))) r = some (.dK [(Sum.inl 0, V.bl true)]) := upd_same
    generalize upd (upd H r (.dK [])) r (.dK (mergeK [] [(Sum.inl 0, V.bl true)])) = H1 at s1 e1 ⊢
    refine ⟨by show 1 ≤ sizeLine; decide, fun l nl => ?_⟩
    have hlr : r ≠ l := ne_of_none e1 nl
    have s2 := same_upd (o := .lst [V.int 0]) nl
    have nlH : H l = none := s1.free nl
    have hld : d ≠ l := ne_of_none ed nlH
    dsimp only [gName, tSeq]
    refine while_by (fun σ H' => ∃ ws y3 y4, σ = [some (.ref D), some (.ref r), some (.ref l), y3, y4] ∧ Same H H' ∧ H' r = some (.dK [(Sum.inl 0, V.bl true)]) ∧ H' l = some (.lst ws) ∧ (ws = [] ∨ ws = [.int 0]))
      (fun _ H' => match H' l with | some (.lst ws) => ws.length | _ => 0)
      ⟨_, none, none, rfl, s1.trans s2, s2 _ _ e1, upd_same, .inr rfl⟩ ?_ ?_
    · rintro σ H2 ⟨ws, y3, y4, rfl, s3, er, el, hw⟩
      rcases hw with rfl | rfl
      · -- nothing waits
        refine ⟨_, rfl, false, .inl ⟨[], SqL.of el, rfl⟩, iteF ?_⟩
        refine ⟨_, rfl, D, [.ref d], rfl, .inl (SqL.of (s3 _ _ eD)), 1, rfl, by decide, by decide, for_range (lo := 0) (n := 1) (fun i σ H' => ∃ y3 y4, σ = [some (.ref D), some (.ref r), some (.ref l), y3, y4] ∧ H' = H2) ⟨_, _, rfl, rfl⟩ ?_ ?_⟩
        · rintro i σ H3 hi ⟨z3, z4, rfl, rfl⟩
          have hi0 : i = 0 := by omega
          subst hi0
          refine ⟨_, rfl, _, rfl, r, some (.bl true), rfl, DGet.k (k := Sum.inl 0) er, _, rfl, iteF ?_⟩
          exact ⟨_, _, rfl, rfl⟩
        · rintro σ H3 ⟨z3, z4, rfl, rfl⟩
          exact q _ s3
      · refine ⟨_, rfl, true, .inl ⟨[.int 0], SqL.of el, rfl⟩, iteT ?_⟩
        refine ⟨_, rfl, .inl ⟨rfl, _, SqL.of el⟩, l, [.int 0], .int 0, rfl, rfl, el, rfl, ?_⟩
        have s4 : Same H (upd H2 l (.lst [])) := s3.put nlH
        have er4 : (upd H2 l (.lst [])) r = some (.dK [(Sum.inl 0, V.bl true)]) := by rw [upd_ne hlr]; exact er
        have el4 : (upd H2 l (.lst [])) l = some (.lst []) := upd_same
        show tLock _ _ _ (upd H2 l (.lst []))
        generalize upd H2 l (.lst []) = H4 at s4 er4 el4 ⊢
        have ed4 := s4 _ _ ed
        have hdr : d ≠ r := ne_of_none ed hr0
        have hdD : D ≠ d := fun z => by rw [z, ed] at eD; cases eD
        refine ⟨d, .dK [], ed4, trivial, fun od => ?_⟩
        refine ⟨_, rfl, _, rfl, D, [.ref d], 0, .ref d, rfl, rfl, SqL.of ?_, atI_nat (j := 0) rfl, d, od, [], rfl, upd_same, ?_⟩
        · rw [upd_ne hdD]
          exact s4 _ _ eD
        · refine for_it walk_values (fun i σ H' => σ = [some (.ref D), some (.ref r), some (.ref l), some (.int 0), y4] ∧ H' = upd H4 d (.frz od (.dK []))) ⟨rfl, rfl⟩ (fun i σ H' _ h => by rw [h.2]; exact upd_same) (fun i x σ' H' H2 hi => absurd hi (Nat.not_lt_zero _)) ?_
          rintro σ H5 ⟨rfl, rfl⟩
          refine ⟨upd_same, ⟨[], some (.int 0), y4, rfl, fun b o e => ?_, ?_, ?_, .inl rfl⟩, ?_⟩
          · by_cases hb : b = d
            · subst hb
              rw [ed] at e
              cases e
              exact upd_same
            · rw [upd_ne hb, upd_ne hb]
              exact s4 _ _ e
          · rw [upd_ne (Ne.symm hdr), upd_ne (Ne.symm hdr)]
            exact er4
          · rw [upd_ne (Ne.symm hld), upd_ne (Ne.symm hld)]
            exact el4
          · have e5 : (upd (upd H4 d (.frz od (.dK []))) d (.dK [])) l = some (.lst []) := by
              rw [upd_ne (Ne.symm hld), upd_ne (Ne.symm hld)]
              exact el4
            show (match (upd (upd H4 d (.frz od (.dK []))) d (.dK [])) l with | some (.lst ws) => ws.length | _ => 0) < (match H2 l with | some (.lst ws) => ws.length | _ => 0)
            rw [e5, el]
            decide
    · rintro σ H2 Q1 Q2 hq ⟨x, ex, k, tk, h⟩
      exact ⟨x, ex, k, tk, hq _ _ h⟩
end
end K01
namespace K01
open PySem PySem.Spec PyProof.Rows L2 Gd
section
variable {P : Program} {w : World} {K : PySem.W.Frag} {mg : Str → Option Value} {base : Heap} {f C fW fY fU : Addr} {fd fdW fdY fdU : FuncData} {dv : V}
abbrev FnI (K : PySem.W.Frag) (dvs : List V) (f : Addr) (fd : FuncData) : Prop := FunD K "__init__" "House.__init__" (defArgs sInit) (defBody sInit) (defScope sInit) dvs [] f fd
/-- House.__init__(self, 1, ()) -/
def spInit1 (K : PySem.W.Frag) (C : Addr) : Sp := fun vs H Q _ => ∃ x dx a : Addr, vs = [.ref x, .int 1, .ref a] ∧ H x = some (.ins C dx []) ∧ SqT K H a [] ∧
  ∀ H' fs, But x H H' → H' x = some (.ins C dx fs) → Q .non H'
abbrev NI : List Str := ["self", "halls", "doors", "ways", "hall"]
theorem scI : FnScope NI ["self", "halls", "doors"] (defScope sInit) := ⟨rfl, rfl, rfl, by decide +kernel, rfl, by decide +kernel, by decide +kernel⟩
theorem kitI : PySem.W.kitOne K (.type "int") (.type "int") = some true := kit_ty (by decide +kernel)
theorem kitIB : PySem.W.kitOne K (.type "int") (.type "bool") = some false := kit_ty (by decide +kernel)
theorem kitTT : PySem.W.kitOne K (.type "tuple") (.type "tuple") = some true := kit_ty (by decide +kernel)
theorem sqt_ty {H : Hp} {a : Addr} {xs : List V} (h : SqT K H a xs) : TyX K H (.ref a) (.type "tuple") := by
  rcases h with (own | ⟨_, locked⟩) | ⟨o, its, n, e, c, _⟩
  · exact .base (.tup own)
  · exact .fTuple locked
  · exact .kTuple e c
theorem ok_init1 (F : FnI K [dv] f fd) (FW : FnP K "is_whole" sWhole fW fdW) (FY : FnP K "ways_of" sWays fY fdY) (FU : FnP K "least_unreached" sLeast fU fdU) (T : TxH K mg C fW fY fU) :
    FnOk P w K mg base CX0 2 f fd ["self", "halls", "doors"] (spInit1 K C) := by
  have GW : FnOk P w K mg base CX0 1 fW fdW ["value"] (spWhole K) := ok_whole FW T
  have GY : FnOk P w K mg base CX0 1 fY fdY ["halls", "doors"] (spWays1 K) := ok_ways1 FY T
  have GU : FnOk P w K mg base CX0 1 fU fdU ["ways"] spLeast1 := ok_least1 FU T
  have bW : Binds K fdW ["value"] [] := FW.bindsN fun _ _ _ _ _ _ us hl => match us, hl with | [_], _ => rfl
  have bY : Binds K fdY ["halls", "doors"] [] := FY.bindsN fun _ _ _ _ _ _ us hl => match us, hl with | [_, _], _ => rfl
  have bU : Binds K fdU ["ways"] [] := FU.bindsN fun _ _ _ _ _ _ us hl => match us, hl with | [_], _ => rfl
  refine F.ok scI (fun vs H Q E h => ?_) (fun cdv A outer s H vs Q E hr h => ?_)
  · obtain ⟨x, dx, a, rfl, _⟩ := h
    rfl
  · obtain ⟨x, dx, a, rfl, ex, hS, q⟩ := h
    obtain ⟨tm, gm⟩ := T.most
    refine ⟨_, PSs.nox (pss_cons (ps_if (PW.pt (pw_or (pt_not (pt_val (pe_call GW hr rfl T.whole FW.kp bW .nil pass0 (pa_cons (pv 1) pa_nil)))) (pw_or (pt_cmpR op_lt (pv 1) pe_int (nomark _)) (pw_or1 (pt_cmpR op_gt (pv 1) (pe_glob (v := .int 64) rfl gm ⟨_, rfl⟩) (nomark _)))))) pss_never pss_nil)
      (pss_cons (ps_if (pt_not (pt_val (pe_callB call_isi (by rfl) T.isi boot_isinstance (pa_cons (pv 2) (pa_cons (pe_bltn (v := .ty "tuple") (by rfl) T.tuple (by decide +kernel) rfl) pa_nil))))) pss_never pss_nil)
      (pss_cons (ps_set (i := 3) scI.nd rfl (.inl rfl) (pe_call GY hr rfl T.ways FY.kp bY .nil pass0 (pa_cons (pv 1) (pa_cons (pv 2) pa_nil))))
      (pss_cons (ps_set (i := 4) scI.nd rfl (.inl rfl) (pe_call GU hr rfl T.least FU.kp bU .nil pass0 (pa_cons (pv 3) pa_nil)))
      (pss_cons (ps_if (pt_cmpR op_notN (pv 4) pe_non (nomark _)) pss_never pss_nil)
      (pss_cons (ps_fld (pv 0) (pv 1) rfl)
      (pss_cons (ps_fld (pv 0) (pv 2) rfl)
      (pss_one (ps_fld (pv 0) (pv 3) rfl))))))))), ?_⟩
    refine ⟨_, rfl, _, _, true, false, rfl, .base (.int 1), kitI, kitIB, _, rfl, iteF ?_⟩
    refine ⟨_, rfl, _, _, rfl, rfl, _, rfl, iteF ⟨_, rfl, _, _, rfl, rfl, _, rfl, iteF ?_⟩⟩
    refine ⟨_, rfl, _, .ty "tuple", _, _, true, rfl, .ty "tuple", sqt_ty hS, kitTT, _, rfl, iteF ?_⟩
    refine ⟨_, rfl, _, rfl, a, rfl, hS, fun H1 D d s1 nD eD ed => ?_⟩
    refine ⟨_, rfl, D, d, rfl, eD, ed, fun H2 s2 => ?_⟩
    refine ⟨_, rfl, rfl, _, rfl, iteF ?_⟩
    have sm := s1.trans s2
    refine ⟨_, rfl, _, rfl, x, C, dx, [], rfl, sm _ _ ex, T.cl, T.n1, by decide, ?_⟩
    refine ⟨_, rfl, _, rfl, x, C, dx, _, rfl, upd_same, T.cl, T.n2, by show 1 < 1000; decide, ?_⟩
    refine ⟨_, rfl, _, rfl, x, C, dx, _, rfl, upd_same, T.cl, T.n3, by show 2 < 1000; decide, ?_⟩
    exact q _ _ (fun b o hb e => by rw [upd_ne hb, upd_ne hb, upd_ne hb]; exact sm _ _ e) upd_same
end
end K01
namespace K01
open PySem PySem.Spec PyProof.Rows L2 Gd
abbrev sLaw : Stmt := top 25
structure TxL (K : PySem.W.Frag) (mg : Str → Option Value) (C fP fT fR fI : Addr) (dv : Addr) : Prop where
  all : mg "all" = none
  list : mg "list" = none
  range : mg "range" = none
  max : mg "max" = none
  min : mg "min" = none
  len : mg "len" = none
  house : mg "House" = some (.ref C)
  purse : mg "_law_purse" = some (.ref fP)
  text : mg "_law_text" = some (.ref fT)
  right : mg "_law_right" = some (.ref fR)
  make : Mk K C fI
  cl : Cls K C
  dv : ∀ H : Hp, SqT K H dv []
  asks : AsksCls K C
  ck : PySem.W.kitOne K (.ref C) (.type "str") = some false
def spLaw (K : PySem.W.Frag) : Sp := fun vs H Q _ => ∃ (a : Addr) (ns : List Int), vs = [.ref a] ∧ SqL K H a (ns.map V.int) ∧ ns.length ≤ 63 ∧ ∀ H', Q (.bl true) H'
abbrev fix1 (p1 : Addr) : List V := [.non, .bl true, .bl false, .int 0, .int 1, .int (-1), .int (10 ^ (30 : Int).toNat), .str "", .str "abcdef", .str "abcdefg", .str "zzzzzz", .str "a ", .str " a", .str "a\n", .ref p1]
abbrev fix2 (p3 p4 p5 p6 p7 p8 p10 x : Addr) : List V := [.ref p3, .ref p4, .ref p5, .ref p6, .ref p7, .ref p8, .str "Red", .str "rED", .str "red1", .ref p10, .ref x]
theorem cnt (m : Int) : -(2 ^ 62) ≤ (if (if 8 < m then 8 else m) > 2 then (if 8 < m then 8 else m) else 2) ∧ (if (if 8 < m then 8 else m) > 2 then (if 8 < m then 8 else m) else 2) < 2 ^ 62 ∧
    (if (if 8 < m then 8 else m) > 2 then (if 8 < m then 8 else m) else 2).toNat ≤ 8 := by
  have h : 0 ≤ (if (if 8 < m then 8 else m) > 2 then (if 8 < m then 8 else m) else 2) ∧ (if (if 8 < m then 8 else m) > 2 then (if 8 < m then 8 else m) else 2) ≤ 8 := by
    split <;> split <;> omega
  exact ⟨Int.le_trans (by decide) h.1, Int.lt_of_le_of_lt h.2 (by decide), by omega⟩
/-- each of a written list -/
def Each {α : Type} (P : α → Prop) : List α → Prop
  | [] => True
  | v :: r => P v ∧ Each P r
theorem each {α : Type} {P : α → Prop} : ∀ {l : List α}, Each P l → ∀ v ∈ l, P v
  | [], _, v, hv => by cases hv
  | u :: r, h, v, hv => by
    rcases List.mem_cons.mp hv with e | hv
    · rw [e]
      exact h.1
    · exact each h.2 v hv
section
variable {P : Program} {w : World} {K : PySem.W.Frag} {mg : Str → Option Value} {base : Heap} {f C fP fT fR fI fD fW fY fU fC fLC : Addr} {fd fdP fdT fdR fdI fdD fdW fdY fdU fdC fdLC : FuncData} {dv : Addr} {ds : List Value}
abbrev NL : List Str := ["_law_script", "_law_fixed", "_law_k", "_law_purse_here", "_law_turn", "_law_what"]
theorem scL : FnScope NL ["_law_script"] (defScope sLaw) := ⟨rfl, rfl, rfl, by decide +kernel, rfl, by decide +kernel, by decide +kernel⟩
theorem ok_law (F : FnP K "law" sLaw f fd) (FP : FnP K "_law_purse" sPurse fP fdP) (FT : FnP K "_law_text" sText fT fdT) (FR : FnP K "_law_right" sRight fR fdR) (T : TxL K mg C fP fT fR fI dv)
    (GP : FnOk P w K mg base CX0 1 fP fdP ["_law_script", "_law_k"] (spPurse K)) (GT : FnOk P w K mg base CX0 2 fT fdT ["_law_purse_here"] spText)
    (GR : FnG P w K mg base CX0 2 fR fdR ["_law_what"] (spRight K)) (GI : FnOk P w K mg base CX0 2 fI fdI ["self", "halls", "doors"] (spInit1 K C)) (bI : Binds K fdI ["self", "halls", "doors"] ds) (rI : Vals [V.ref dv] ds) :
    FnG P w K mg base CX0 4 f fd ["_law_script"] (spLaw K) := by
  have bP : Binds K fdP ["_law_script", "_law_k"] [] := FP.bindsN fun _ _ _ _ _ _ us hl => match us, hl with | [_, _], _ => rfl
  have bT : Binds K fdT ["_law_purse_here"] [] := FT.bindsN fun _ _ _ _ _ _ us hl => match us, hl with | [_], _ => rfl
  have bR : Binds K fdR ["_law_what"] [] := FR.bindsN fun _ _ _ _ _ _ us hl => match us, hl with | [_], _ => rfl
  refine fun_g F scL (fun vs H Q E h => ?_) (fun cdv A outer s H vs Q E fr hr h => ?_)
  · obtain ⟨a, ns, rfl, _⟩ := h
    rfl
  · obtain ⟨a, ns, rfl, hS, hl, q⟩ := h
    have fr' : Free (A.deeper (envOfC "law" (defScope sLaw) s.heap.objs.size f cdv)) := fr
    have hr1 : Room 1 (A.deeper (envOfC "law" (defScope sLaw) s.heap.objs.size f cdv)) := hr.mono (by decide)
    have hr2 : Room 2 (A.deeper (envOfC "law" (defScope sLaw) s.heap.objs.size f cdv)) := hr.mono (by decide)
    refine ⟨_, PSs.nox (pss_cons (ps_set (i := 1) scL.nd rfl (.inl rfl) (pe_lst (pa_cons pe_non (pa_cons pe_bl (pa_cons pe_bl (pa_cons pe_int (pa_cons pe_int (pa_cons (pe_un un_neg pe_int) (pa_cons (pe_op op_pow pe_int pe_int)
        (pa_cons pe_str (pa_cons pe_str (pa_cons pe_str (pa_cons pe_str (pa_cons pe_str (pa_cons pe_str (pa_cons pe_str (pa_cons (pe_tup pa_nil) pa_nil)))))))))))))))))
      (pss_cons (ps_set (i := 1) scL.nd rfl (.inl rfl) (pe_op op_cat (pv 1) (pe_lst (pa_cons (pe_tup (pa_cons pe_str pa_nil)) (pa_cons (pe_lst pa_nil) (pa_cons (pe_lst (pa_cons pe_str pa_nil)) (pa_cons pe_dnewK (pa_cons (pe_disp (pps_cons pe_str pe_str pps_nil) (by rfl) (by rfl) (fun z => by cases z) (by decide))
        (pa_cons (pe_tup (pa_cons pe_str (pa_cons pe_str pa_nil))) (pa_cons pe_str (pa_cons pe_str (pa_cons pe_str (pa_cons (pe_tup (pa_cons (pe_lst pa_nil) pa_nil)) (pa_cons (pe_make T.make GI hr rfl T.house bI rI pass0 (pa_cons pe_int pa_nil)) pa_nil))))))))))))))
      (pss_cons (ps_set (i := 1) scL.nd rfl (.inl rfl) (pe_op op_cat (pv 1) (pe_callTy (call_listS rfl) (by rfl) T.list PyProof.Rows.boot_list (pa_cons pe_str pa_nil))))
      (pss_cons (ps_if (pt_not (pt_val (pe_callB (cr_all rfl) (by rfl) T.all boot_all (pa_cons
          (pe_lc (own := [("_law_what", 5)]) (g := gName 5) (tt := tYes) rfl scL.nd (pi_list (pv 1)) (blkOk_by (N := NL) (sc := defScope sLaw) (by decide +kernel))
            (fun _ _ _ _ _ => pg_name (i := 5) scL.nd rfl (Or.inl rfl)) (fun _ _ _ _ _ => pts_nil) (fun _ _ _ _ _ => pe_g GR fr' hr2 rfl T.right FR.kp bR .nil pass0 (pa_cons (pv 5) pa_nil))) pa_nil)))) (pss_one (ps_ret pe_bl)) pss_nil)
      (pss_cons (ps_for PassesOwn.never rfl (pi_range1 (by rfl) T.range (pa_cons (pe_callB (call_max2 rfl) (by rfl) T.max boot_max (pa_cons pe_int (pa_cons (pe_callB (call_min2 rfl) (by rfl) T.min boot_min (pa_cons (pe_callB call_len_seq (by rfl) T.len PySem.boot_len (pa_cons (pv 0) pa_nil)) (pa_cons pe_int pa_nil))) pa_nil))) pa_nil))
          (pg_name (i := 2) scL.nd rfl (.inl rfl))
        (pss_cons (ps_set (i := 3) scL.nd rfl (.inl rfl) (pe_call GP hr1 rfl T.purse FP.kp bP .nil pass0 (pa_cons (pv 0) (pa_cons (pv 2) pa_nil))))
          (pss_one (ps_for PassesOwn.never rfl (pi_range1 (by rfl) T.range (pa_cons pe_int pa_nil)) (pg_name (i := 4) scL.nd rfl (.inl rfl))
            (pss_one (ps_if (pt_not (pt_val (pe_g GR fr' hr2 rfl T.right FR.kp bR .nil pass0 (pa_cons (pe_call GT hr2 rfl T.text FT.kp bT .nil pass0 (pa_cons (pv 3) pa_nil)) pa_nil)))) (pss_one (ps_ret pe_bl)) pss_nil))))))
      (pss_one (ps_ret pe_bl))))))), ?_⟩
    refine ⟨1, rfl, 10, 30, rfl, rfl, ⟨by decide, by decide, by decide⟩, by show 0 ≤ sizeLine; decide, fun p1 n1 => ?_⟩
    have s1 := same_upd (o := .tup []) n1
    have e1 : (upd H p1 (.tup [])) p1 = some (.tup []) := upd_same
    generalize upd H p1 (.tup []) = H1 at s1 e1 ⊢
    refine ⟨by show 15 ≤ sizeLine; decide, fun p2 n2 => ?_⟩
    have s2 := same_upd (o := .lst (fix1 p1)) n2
    have e2 : (upd H1 p2 (.lst (fix1 p1))) p2 = some (.lst (fix1 p1)) := upd_same
    generalize upd H1 p2 (.lst (fix1 p1)) = H2 at s2 e2 ⊢
    refine ⟨_, rfl, by show 1 ≤ sizeLine; decide, fun p3 n3 => ?_⟩
    have s3 := same_upd (o := .tup [.str "a"]) n3
    have e3 : (upd H2 p3 (.tup [.str "a"])) p3 = some (.tup [.str "a"]) := upd_same
    generalize upd H2 p3 (.tup [.str "a"]) = H3 at s3 e3 ⊢
    refine ⟨by show 0 ≤ sizeLine; decide, fun p4 n4 => ?_⟩
    have s4 := same_upd (o := .lst []) n4
    have e4 : (upd H3 p4 (.lst [])) p4 = some (.lst []) := upd_same
    generalize upd H3 p4 (.lst []) = H4 at s4 e4 ⊢
    refine ⟨by show 1 ≤ sizeLine; decide, fun p5 n5 => ?_⟩
    have s5 := same_upd (o := .lst [.str "a"]) n5
    have e5 : (upd H4 p5 (.lst [.str "a"])) p5 = some (.lst [.str "a"]) := upd_same
    generalize upd H4 p5 (.lst [.str "a"]) = H5 at s5 e5 ⊢
    refine fun p6 n6 => ?_
    have s6 := same_upd (o := .dK []) n6
    have e6 : (upd H5 p6 (.dK [])) p6 = some (.dK []) := upd_same
    generalize upd H5 p6 (.dK []) = H6 at s6 e6 ⊢
    refine fun p7 n7 => ⟨upd_same, [(Sum.inr "a", .str "a")], rfl, by decide, ?_⟩
    have s7 := (same_upd (o := .dK []) n7).put (o := .dK (mergeK [] [(Sum.inr "a", V.str "a")])) n7
    have e7 : (upd (upd H6 p7 (.dK [])) p7 (.dK (mergeK [] [(Sum.inr "a", V.str "a")]))) p7 = some (.dK (mergeK [] [(Sum.inr "a", V.str "a")])) := upd_same
    generalize upd (upd H6 p7 (.dK [])) p7 (.dK (mergeK [] [(Sum.inr "a", V.str "a")])) = H7 at s7 e7 ⊢
    refine ⟨by show 2 ≤ sizeLine; decide, fun p8 n8 => ?_⟩
    have s8 := same_upd (o := .tup [.str "red", .str "blue"]) n8
    have e8 : (upd H7 p8 (.tup [.str "red", .str "blue"])) p8 = some (.tup [.str "red", .str "blue"]) := upd_same
    generalize upd H7 p8 (.tup [.str "red", .str "blue"]) = H8 at s8 e8 ⊢
    refine ⟨by show 0 ≤ sizeLine; decide, fun p9 n9 => ?_⟩
    have s9 := same_upd (o := .lst []) n9
    have e9 : (upd H8 p9 (.lst [])) p9 = some (.lst []) := upd_same
    generalize upd H8 p9 (.lst []) = H9 at s9 e9 ⊢
    refine ⟨by show 1 ≤ sizeLine; decide, fun p10 n10 => ?_⟩
    have s10 := same_upd (o := .tup [.ref p9]) n10
    have e10 : (upd H9 p10 (.tup [.ref p9])) p10 = some (.tup [.ref p9]) := upd_same
    generalize upd H9 p10 (.tup [.ref p9]) = H10 at s10 e10 ⊢
    refine fun x dx nx ndx nxd => ⟨x, dx, dv, rfl, upd_same, T.dv _, fun H11 fs b11 e11 => ⟨rfl, ?_⟩⟩
    have s11 : Same H10 H11 := fun b o e => b11 b o (ne_of_none e nx) (by rw [upd_ne (ne_of_none e nx), upd_ne (ne_of_none e ndx)]; exact e)
    refine ⟨by show 11 ≤ sizeLine; decide, fun p12 n12 => ?_⟩
    have s12 := same_upd (o := .lst (fix2 p3 p4 p5 p6 p7 p8 p10 x)) n12
    have e12 : (upd H11 p12 (.lst (fix2 p3 p4 p5 p6 p7 p8 p10 x))) p12 = some (.lst (fix2 p3 p4 p5 p6 p7 p8 p10 x)) := upd_same
    generalize upd H11 p12 (.lst (fix2 p3 p4 p5 p6 p7 p8 p10 x)) = H12 at s12 e12 ⊢
    have hl2 : H12 p2 = some (.lst (fix1 p1)) := (((((((((s3.trans s4).trans s5).trans s6).trans s7).trans s8).trans s9).trans s10).trans s11).trans s12) _ _ e2
    refine ⟨p2, p12, _, _, rfl, rfl, hl2, e12, by show 26 ≤ sizeLine; decide, fun p13 n13 => ?_⟩
    have s13 := same_upd (o := .lst (fix1 p1 ++ fix2 p3 p4 p5 p6 p7 p8 p10 x)) n13
    have e13 : (upd H12 p13 (.lst (fix1 p1 ++ fix2 p3 p4 p5 p6 p7 p8 p10 x))) p13 = some (.lst (fix1 p1 ++ fix2 p3 p4 p5 p6 p7 p8 p10 x)) := upd_same
    generalize upd H12 p13 (.lst (fix1 p1 ++ fix2 p3 p4 p5 p6 p7 p8 p10 x)) = H13 at s13 e13 ⊢
    refine ⟨_, rfl, abc, rfl, by decide, fun p14 n14 => ?_⟩
    have s14 := same_upd (o := .lst (sigV abc)) n14
    have e14 : (upd H13 p14 (.lst (sigV abc))) p14 = some (.lst (sigV abc)) := upd_same
    generalize upd H13 p14 (.lst (sigV abc)) = H14 at s14 e14 ⊢
    refine ⟨p13, p14, _, _, rfl, rfl, s14 _ _ e13, e14, by show 26 + (sigV abc).length ≤ sizeLine; decide, fun p15 n15 => ?_⟩
    have s15 := same_upd (o := .lst ((fix1 p1 ++ fix2 p3 p4 p5 p6 p7 p8 p10 x) ++ sigV abc)) n15
    have e15 : (upd H14 p15 (.lst ((fix1 p1 ++ fix2 p3 p4 p5 p6 p7 p8 p10 x) ++ sigV abc))) p15 = some (.lst ((fix1 p1 ++ fix2 p3 p4 p5 p6 p7 p8 p10 x) ++ sigV abc)) := upd_same
    generalize upd H14 p15 (.lst ((fix1 p1 ++ fix2 p3 p4 p5 p6 p7 p8 p10 x) ++ sigV abc)) = H15 at s15 e15 ⊢
    have S1 := ((((((((((((((s2.trans s3).trans s4).trans s5).trans s6).trans s7).trans s8).trans s9).trans s10).trans s11).trans s12).trans s13).trans s14).trans s15))
    have S3 := ((((((((((((s4.trans s5).trans s6).trans s7).trans s8).trans s9).trans s10).trans s11).trans s12).trans s13).trans s14).trans s15))
    have S4 := (((((((((((s5.trans s6).trans s7).trans s8).trans s9).trans s10).trans s11).trans s12).trans s13).trans s14).trans s15))
    have S5 := ((((((((((s6.trans s7).trans s8).trans s9).trans s10).trans s11).trans s12).trans s13).trans s14).trans s15))
    have S6 := (((((((((s7.trans s8).trans s9).trans s10).trans s11).trans s12).trans s13).trans s14).trans s15))
    have S7 := ((((((((s8.trans s9).trans s10).trans s11).trans s12).trans s13).trans s14).trans s15))
    have S8 := (((((((s9.trans s10).trans s11).trans s12).trans s13).trans s14).trans s15))
    have S10 := (((((s11.trans s12).trans s13).trans s14).trans s15))
    have S11 := ((((s12.trans s13).trans s14).trans s15))
    have tp : ∀ {p : Addr} {xs : List V}, H15 p = some (.tup xs) → ∃ b, Any K H15 (.ref p) b := fun e => ⟨false, .other (.base (.tup e)) (kit_ty (by decide +kernel))⟩
    have ls : ∀ {p : Addr} {xs : List V}, H15 p = some (.lst xs) → ∃ b, Any K H15 (.ref p) b := fun e => ⟨false, .other (.base (.lst e)) (kit_ty (by decide +kernel))⟩
    have dk : ∀ {p : Addr} {xs : List (Key × V)}, H15 p = some (.dK xs) → ∃ b, Any K H15 (.ref p) b := fun e => ⟨false, .other (.base (.dK e)) (kit_ty (by decide +kernel))⟩
    have st : ∀ z : Str, z.length ≤ 100 → ∃ b, Any K H15 (.str z) b := fun z h => ⟨_, .str z h⟩
    have it : ∀ i : Int, ∃ b, Any K H15 (.int i) b := fun i => ⟨false, .other (.base (.int i)) (kit_ty (by decide +kernel))⟩
    have bo : ∀ i : Bool, ∃ b, Any K H15 (.bl i) b := fun i => ⟨false, .other (.base (.bl i)) (kit_ty (by decide +kernel))⟩
    have all : ∀ v ∈ (fix1 p1 ++ fix2 p3 p4 p5 p6 p7 p8 p10 x) ++ sigV abc, ∃ b, Any K H15 v b := by
      intro v hv
      rcases List.mem_append.mp hv with two | hv
      · rcases List.mem_append.mp two with hv | hv
        · refine each (l := fix1 p1) (P := fun v => ∃ b, Any K H15 v b) ⟨⟨false, .other (.base .non) (kit_ty (by decide +kernel))⟩, bo _, bo _, it _, it _, it _, it _, st _ (by decide), st _ (by decide), st _ (by decide), st _ (by decide), st _ (by decide), st _ (by decide), st _ (by decide), tp (S1 _ _ e1), trivial⟩ v hv
        · refine each (l := fix2 p3 p4 p5 p6 p7 p8 p10 x) (P := fun v => ∃ b, Any K H15 v b) ⟨tp (S3 _ _ e3), ls (S4 _ _ e4), ls (S5 _ _ e5), dk (S6 _ _ e6), dk (S7 _ _ e7), tp (S8 _ _ e8), st _ (by decide), st _ (by decide), st _ (by decide), tp (S10 _ _ e10), ⟨false, .other (.base (.ins (S11 _ _ e11) T.cl T.asks.1 T.asks.2.1 T.asks.2.2.1 T.asks.2.2.2)) T.ck⟩, trivial⟩ v hv
      · obtain ⟨c, _, rfl⟩ := List.mem_map.mp hv
        exact st _ (by show 1 ≤ 100; decide)
    have ln : ((fix1 p1 ++ fix2 p3 p4 p5 p6 p7 p8 p10 x) ++ sigV abc).length ≤ 1000 := by show 26 + (sigV abc).length ≤ 1000; decide
    have hS15 : SqL K H15 a (ns.map V.int) := (s1.trans S1).seq hS
    generalize (fix1 p1 ++ fix2 p3 p4 p5 p6 p7 p8 p10 x) ++ sigV abc = lst at all ln e15
    -- all([..])
    refine ⟨_, rfl, p15, rfl, ⟨_, SqL.of e15⟩, fun D hD => lc_list (K := K) (a := p15) (xs := lst) (fun i H' => Same H15 H' ∧ H' D = some (.lst ((List.replicate i true).map V.bl))) ⟨same_upd hD, upd_same⟩ (fun i H' _ h => h.1.seq (SqL.of e15)) ?_ ?_⟩
    · rintro i v H' hi ⟨s16, e16⟩
      obtain ⟨b, hb⟩ := all v (List.mem_of_getElem? hi)
      refine ⟨rfl, _, rfl, v, b, rfl, hb.same s16, fun H'' s17 => ⟨_, s17 _ _ e16, ?_, (s16.trans s17).put hD, ?_⟩⟩
      · rw [List.length_map, List.length_replicate]
        exact small1000 (Nat.le_trans (Nat.le_of_lt (List.getElem?_eq_some_iff.mp hi).1) ln)
      · rw [upd_same, List.replicate_succ', List.map_append]
        rfl
    · rintro H16 ⟨s16, e16⟩
      refine ⟨D, _, rfl, SqL.of e16, ?_⟩
      have ea : (List.replicate lst.length true).all id = true := by simp
      rw [ea]
      refine ⟨_, rfl, iteF ?_⟩
      have hS16 := s16.seq hS15
      -- the draws
      refine ⟨_, rfl, a, _, rfl, .inl hS16, _, _, rfl, _, _, rfl, _, rfl, ?_, ?_, ?_⟩
      · exact (cnt _).1
      · exact (cnt _).2.1
      · refine for_range (lo := 0) (fun i σ H' => ∃ y2 y3 y4, σ = [some (.ref a), some (.ref p15), y2, y3, y4, none] ∧ Same H16 H') ⟨none, none, none, rfl, Same.refl _⟩ ?_ ?_
        · rintro i σ H17 hi ⟨y2, y3, y4, rfl, s17⟩
          have hi8 : i < 8 := Nat.lt_of_lt_of_le hi (cnt _).2.2
          refine ⟨_, rfl, _, rfl, a, ns, i, by rw [Int.zero_add]; rfl, s17.seq hS16, by omega, by omega, fun H18 p s18 np pu => ?_⟩
          have np16 : H16 p = none := s17.free np
          have s19 : Same H16 H18 := s17.trans s18
          refine ⟨12, rfl, by decide, by decide, for_range (lo := 0) (n := 12) (fun j σ H' => ∃ z4, σ = [some (.ref a), some (.ref p15), some (.int (0 + (i : Int))), some (.ref p), z4, none] ∧ Same H16 H' ∧ Pur H' p) ⟨_, rfl, s19, pu⟩ ?_ ?_⟩
          · rintro j σ H20 hj ⟨z4, rfl, s20, pu20⟩
            refine ⟨_, rfl, p, rfl, pu20, fun H21 z hz b21 pu21 => ?_⟩
            refine ⟨.str z, _, rfl, .str z hz, fun H22 s22 => ⟨_, rfl, iteF ?_⟩⟩
            refine ⟨_, rfl, fun b o e => s22 _ _ (b21 _ _ (ne_of_none e np16) (s20 _ _ e)), pu21.same s22⟩
          · rintro σ H20 ⟨z4, rfl, s20, pu20⟩
            exact ⟨_, _, _, rfl, s20⟩
        · rintro σ H17 ⟨y2, y3, y4, rfl, s17⟩
          exact q _
end
end K01
namespace K01
open PySem PySem.Spec PyProof.Rows L2 Gd
def dd (x : Str) (st : Stmt) : He.DefD := ⟨(x, none), x, x, defArgs st, defBody st, defScope st, [], []⟩
def dInit : He.DefD := ⟨("House", some "__init__"), "__init__", "House.__init__", defArgs sInit, defBody sInit, defScope sInit, [.adr (He.dflAt ("House", some "__init__") 0)], []⟩
def fn : List He.DefD := [dd "is_colour" sIsC, dd "_law_is_colour" sLIsC, dd "_law_purse" sPurse, dd "_law_draw" sDraw, dd "_law_text" sText, dd "_law_right" sRight, dd "law" sLaw, dd "is_whole" sWhole, dd "ways_of" sWays, dd "least_unreached" sLeast, dInit]
def fa : List He.Fa := [.glo "is_colour", .glo "_law_is_colour", .glo "_law_purse", .glo "_law_draw", .glo "_law_text", .glo "_law_right", .glo "law", .glo "is_whole", .glo "ways_of", .glo "least_unreached", .glo "House",
  .free "isinstance", .free "str", .free "len", .free "all", .free "max", .free "min", .free "range", .free "repr", .free "int", .free "bool", .free "tuple", .free "enumerate", .free "list",
  .str "LETTERS" abc, .int "MOST_LETTERS" 6, .int "MOST_HALLS" 64, .cls "House", .noat "House" "halls", .noat "House" "doors", .noat "House" "ways", .mkr "House"]
def more (K : PySem.W.Frag) : Bool := emptyT K (He.dflAt ("House", some "__init__") 0 K) && (insOk K (He.ga K "House") && decide (PySem.W.kitOne K (.ref (He.ga K "House")) (.type "str") = some false))
abbrev R : PySem.W.OpenRow := PySem.W.OpenLaw.row PySem.Challenge.rw_doorlots_k01_colours_of_any_kind
abbrev hk : PySem.W.Hook := hookX 6 fa fn more
abbrev loose : List Str := ["_wall", "MOST_HALLS", "MOST_COLOURS", "__name__", "InvalidInput", "StateError", "InvalidHalls", "InvalidDoors", "Unreachable", "LETTERS", "MOST_LETTERS", "is_whole", "is_colour", "is_hall", "is_door", "ways_of", "least_unreached", "House", "_law_purse", "_law_draw", "_law_is_colour", "_law_text", "_law_right"]
theorem run (w : World) : HandSHeadRun.RunEq R (PySem.W.view R.prog [25]) hk (obX 6 fa fn more) 6000 loose w := by
  intro os
  kernel_rfl
theorem facts {P : Program} {w : World} {K : PySem.W.Frag} {h : Heap} {mg : Str → Option Value} {f : Addr} (X : K.In h) (G : h.Ns mainGlobals mg) (hfa : mg ("law" : Str) = some (.ref f)) (c : He.SaysD fa fn K) (m : more K = true) :
    ∃ fd : FuncData, (∀ (s : Shared) (v : Value), BindsTo s fd ⟨[v], []⟩ [("_law_script", v)]) ∧ ∀ base : Heap, K.In base → base.Ns mainGlobals mg → FnG P w K mg base CX0 4 f fd ["_law_script"] (spLaw K) := by
  obtain ⟨fdC, FC⟩ := c.def_ 0 (d := dd "is_colour" sIsC) rfl
  obtain ⟨fdLC, FLC⟩ := c.def_ 1 (d := dd "_law_is_colour" sLIsC) rfl
  obtain ⟨fdP, FP⟩ := c.def_ 2 (d := dd "_law_purse" sPurse) rfl
  obtain ⟨fdD, FD⟩ := c.def_ 3 (d := dd "_law_draw" sDraw) rfl
  obtain ⟨fdT, FT⟩ := c.def_ 4 (d := dd "_law_text" sText) rfl
  obtain ⟨fdR, FR⟩ := c.def_ 5 (d := dd "_law_right" sRight) rfl
  obtain ⟨fd, F⟩ := c.def_ 6 (d := dd "law" sLaw) rfl
  obtain ⟨fdW, FW⟩ := c.def_ 7 (d := dd "is_whole" sWhole) rfl
  obtain ⟨fdY, FY⟩ := c.def_ 8 (d := dd "ways_of" sWays) rfl
  obtain ⟨fdU, FU⟩ := c.def_ 9 (d := dd "least_unreached" sLeast) rfl
  obtain ⟨fdI, FI⟩ := c.def_ 10 (d := dInit) rfl
  have gl : ∀ (i : Nat) (x : Str), fa[i]? = some (.glo x) → mg x = some (.ref (He.ga K x)) := fun i x e => He.glo_ok X G (c.fact i e)
  have fr : ∀ (i : Nat) (x : Str), fa[i]? = some (.free x) → mg x = none := fun i x e => He.free_ok X G (c.fact i e)
  have e := hfa.symm.trans (gl 6 "law" rfl)
  cases e
  obtain ⟨m1, m2⟩ := He.ba m
  obtain ⟨m3, m4⟩ := He.ba m2
  have cl := He.cls_ok (c.fact 27 (f := .cls "House") rfl)
  have TC : TxC K mg := ⟨fr 11 "isinstance" rfl, fr 12 "str" rfl, fr 13 "len" rfl, fr 14 "all" rfl, He.str_ok X G (c.fact 24 (f := .str "LETTERS" abc) rfl), He.int_ok X G (c.fact 25 (f := .int "MOST_LETTERS" 6) rfl)⟩
  have TP : TxP mg := ⟨fr 15 "max" rfl⟩
  have TT : TxT mg (He.ga K "_law_draw") := ⟨gl 3 "_law_draw" rfl, fr 17 "range" rfl⟩
  have TR : TxR mg (He.ga K "is_colour") (He.ga K "_law_is_colour") := ⟨gl 0 "is_colour" rfl, gl 1 "_law_is_colour" rfl, fr 18 "repr" rfl⟩
  have TH : TxH K mg (He.ga K "House") (He.ga K "is_whole") (He.ga K "ways_of") (He.ga K "least_unreached") :=
    ⟨fr 11 "isinstance" rfl, fr 19 "int" rfl, fr 20 "bool" rfl, fr 21 "tuple" rfl, fr 17 "range" rfl, fr 22 "enumerate" rfl, fr 13 "len" rfl, He.int_ok X G (c.fact 26 (f := .int "MOST_HALLS" 64) rfl), gl 7 "is_whole" rfl, gl 8 "ways_of" rfl, gl 9 "least_unreached" rfl, cl,
      He.noat_ok (c.fact 28 (f := .noat "House" "halls") rfl), He.noat_ok (c.fact 29 (f := .noat "House" "doors") rfl), He.noat_ok (c.fact 30 (f := .noat "House" "ways") rfl)⟩
  have TL : TxL K mg (He.ga K "House") (He.ga K "_law_purse") (He.ga K "_law_text") (He.ga K "_law_right") (He.ma K (He.ga K "House") "__init__") (He.dflAt ("House", some "__init__") 0 K) :=
    ⟨fr 14 "all" rfl, fr 23 "list" rfl, fr 17 "range" rfl, fr 15 "max" rfl, fr 16 "min" rfl, fr 13 "len" rfl, gl 10 "House" rfl, gl 2 "_law_purse" rfl, gl 4 "_law_text" rfl, gl 5 "_law_right" rfl, He.mkr_ok (c.fact 31 (f := .mkr "House") rfl), cl,
      emptyT_ok m1, asks_ok m3, of_decide_eq_true m4⟩
  have b := FunD.bindsA (ps := ["_law_script"]) F fun _ _ _ _ _ _ us hl => match us, hl with | [_], _ => rfl
  obtain ⟨ds, rd, bI⟩ := FunD.binds1 (ps := ["self", "halls", "doors"]) FI 2 0 (fun z => by cases z) rfl fun T kV doc pm an cdv ct us its l1 l2 => match us, its, l1, l2 with | [_, _], [_], _, _ => ⟨_, rfl, rfl⟩
  refine ⟨fd, fun s v => b s [v] rfl, fun base _ _ => ?_⟩
  exact ok_law F FP FT FR TL (ok_purse FP TP) (ok_text FT FD TT) (ok_right FR FC FLC TC TR) (ok_init1 FI FW FY FU TH) bI rd
end K01
open PySem PySem.W PySem.Calls PyProof.Rows
theorem PySem.Challenge.cw_doorlots_k01_colours_of_any_kind_holds : PySem.Challenge.rw_doorlots_k01_colours_of_any_kind.Holds := by
  w_on; o_law
  refine HandSHeadRun.head_any (r := OpenLaw.row PySem.Challenge.rw_doorlots_k01_colours_of_any_kind) (q := view (OpenLaw.row PySem.Challenge.rw_doorlots_k01_colours_of_any_kind).prog [25]) (H := K01.hk) (ob := Gd.obX 6 K01.fa K01.fn K01.more) (M := 6000) (loose := K01.loose)
    (d := HandSHeadRun.topDef (OpenLaw.row PySem.Challenge.rw_doorlots_k01_colours_of_any_kind).prog 25) (kwd := []) (Gd.obX_eq 6 K01.fa K01.fn K01.more)
    (by kernel_rfl) (fun s => by kernel_rfl) K01.run (by kernel_rfl) (by kernel_rfl) (by kernel_rfl) (by rfl) (by first | assumption | decide +kernel) (by decide +kernel) ⟨rfl, rfl, rfl, rfl, rfl, by decide +kernel⟩ ?hw ?hc
  case hw => w_witness2
  case hc =>
    refine Gd.walk_g (l := PySem.Challenge.rw_doorlots_k01_colours_of_any_kind) (n := 63) (k := 4) (x := "_law_script") (CX := L2.CX0) ⟨rfl, by decide, by decide⟩ rfl (by decide) (by kernel_rfl) (fun _ _ _ _ z => z) ?F
    intro w mg fa h Y G hmg0
    obtain ⟨K, KX, c, m⟩ := Y
    have hmg : mg ("law" : PySem.Str) = some (.ref fa) := by
      have e : (HandSHeadRun.topDef (OpenLaw.row PySem.Challenge.rw_doorlots_k01_colours_of_any_kind).prog 25).name = ("law" : PySem.Str) := by kernel_rfl
      rw [← e]
      exact hmg0
    obtain ⟨fd, hb, hF⟩ := K01.facts (P := (PySem.Challenge.rw_doorlots_k01_colours_of_any_kind).prog) (w := w) KX G hmg c m
    exact ⟨⟨K, fd, K01.spLaw K, KX, hb, fun H a ns hl _ hS => ⟨a, ns, rfl, hS, hl, fun _ => rfl⟩, hF⟩⟩
