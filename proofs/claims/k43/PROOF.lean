import PyProof.Rows.All
import Wide.All
import OpenK.AllK
import Wide.FinOn
import PyProof.ListStr
import PyProof.ReprRoads
import HandS.ForMost
import HandS.More
import HandS.Defaults
import HandS.IsInst
import HandS.Walk
import HandS.Style
import HandS.HeadEnd
import HandS.Head0
import HandS.Head1
import HandS.Head2
import HandS.HeadHook1
import HandS.HeadHook2
import KE.KStateDown
import KE.GoesEnum
import HandS.TupLe
import HandS.Sort
import HandS.SortOrd
import HandS.SortRule
import KE.KSortTup
import HandS.MakeKw
import HandS.TupMul
import HandS.TupAny
import PyProof.StrBlock2
import KE.SortData
import PyProof.Rows.SortWalk
import PyProof.TupleOfSeq
import PySem.Challenge.RW_doorlots_k43_projections
set_option Elab.async false
set_option linter.all false
set_option maxRecDepth 100000
set_option maxHeartbeats 2000000
namespace Gd
open PySem PySem.Spec PyProof.Rows L2
/-! ### promises of defs that are called while no list is being written out (repr of a list asks who writes lists around it) -/
abbrev Free (A : Around) : Prop := A.guards = some []
/-- a promise as in the layer, kept wherever nothing is being written out around -/
structure FnG (P : Program) (w : World) (K : PySem.W.Frag) (mg : Str → Option Value) (base : Heap) (CX : CXT) (k : Nat)
    (f : Addr) (fd : FuncData) (ps : List Str) (sp : Sp) : Prop where
  ar : ∀ (vs : List V) (H : Hp) (Q : VK) (E : XK), sp vs H Q E → vs.length = ps.length
  go : ∀ (A : Around) (above : List Env) (s : Shared) (H : Hp) (ag : Args) (us : List Value) (vs : List V) (Q : VK) (E : XK), Free A → Room k A → Env0 P w K mg base A above s H →
    BindsTo s fd ag (ps.zip us) → Vals vs us → sp vs H Q E → codeAny (model P w) A (.call (.ref f) ag) (CR CX above P w H s Q E) s
section
variable {P : Program} {w : World} {K : PySem.W.Frag} {mg : Str → Option Value} {base : Heap} {CX : CXT} {k : Nat} {f : Addr} {fd : FuncData} {ps : List Str} {sp : Sp}
theorem FnG.of (F : FnOk P w K mg base CX k f fd ps sp) : FnG P w K mg base CX k f fd ps sp :=
  ⟨F.len, fun A o s H ag us vs Q E _ hr e b r h => F.run A o s H ag us vs Q E hr e b r h⟩
theorem FnG.up {j : Nat} (F : FnG P w K mg base CX j f fd ps sp) (h : j ≤ k) : FnG P w K mg base CX k f fd ps sp :=
  ⟨F.ar, fun A o s H ag us vs Q E g hr e b r q => F.go A o s H ag us vs Q E g (hr.mono h) e b r q⟩
end
/-- a body in the frame X, from the arguments vs, gives what Q wants -/
abbrev Does (X : Cx) (N : List Str) (body : List Stmt) (vs : List V) (H : Hp) (Q : VK) : Prop := ∃ t, PSs X body t ∧ t { nx := fun _ => Q .non, rt := Q } (start N vs) H
/-- the rule for a def, the body's around told to be free -/
theorem fun_g {P : Program} {w : World} {K : PySem.W.Frag} {mg : Str → Option Value} {base : Heap} {CX : CXT} {k : Nat} {f : Addr} {fd : FuncData} {ps N : List Str} {sp : Sp}
    {nm qual : Str} {params : Arguments} {body : List Stmt} {scope : Scope} {dvs : List V} {kws : List (Str × V)}
    (F : FunD K nm qual params body scope dvs kws f fd) (S : FnScope N ps scope)
    (ar : ∀ (vs : List V) (H : Hp) (Q : VK) (E : XK), sp vs H Q E → vs.length = ps.length)
    (hb : ∀ (cdv : Value) (A : Around) (above : List Env) (s : Shared) (H : Hp) (vs : List V) (Q : VK) (E : XK), Free A → Room k (A.deeper (envOfC qual scope s.heap.objs.size f cdv)) → sp vs H Q E →
      Does (cxOf CX P w K mg base N qual scope f cdv A above s H E) N body vs H Q) :
    FnG P w K mg base CX (k + 1) f fd ps sp := by
  obtain ⟨_, _, _, _, _, _, _, cdv, _, _, rfl, at_, code, _, _⟩ := F.ex
  refine ⟨ar, fun A outer s H ag us vs Q E free room e0 bd rel want => ?_⟩
  have down : ∀ b o, base.get? b = some o → s.heap.get? b = some o := fun b o e => (e0.bs b o e).1
  have kin : K.In s.heap := e0.mod.kin.keeps down
  refine codeAny_call_function room.depth (kin _ _ at_) rfl S.co S.gen rfl (PySem.W.codeRec_of kin code) (bd _ _ _ _ ?_)
  refine wpAny_newFunctionEnv_cells S.kind (fun y hy => ?_) fun env he s1 x => ?_
  · obtain ⟨n, v⟩ := y
    exact (S.par n (List.of_mem_zip hy).1).imp id fun c => ⟨c, PySem.W.cellsFrom_some _ _ _ (.inl c)⟩
  subst he
  refine ⟨(e0.mod.nolimit.keeps down).keeps x.toInCall.keep, codeAny_func ?_⟩
  obtain ⟨t, ht, hq⟩ := hb cdv A outer s H vs Q E free (room.deeper _) want
  have I := inv_start (CX := CX) (E := E) S room.hd e0 (ar _ _ _ _ want) rel x
  refine wpAny_mono (ht.run [] s1 (start N vs) H _ I hq) (fun fl s' hs => ?_) fun _ _ z => z
  cases fl with
  | ret u =>
    obtain ⟨v, _, H', J, rv, q⟩ := hs
    exact ⟨v, H', J.os, J.bare, J.base, J.hok, rv, q⟩
  | next =>
    obtain ⟨_, H', J, q⟩ := hs
    exact ⟨V.non, H', J.os, J.bare, J.base, J.hok, rfl, q⟩
  | brk => obtain ⟨_, _, _, q⟩ := hs; exact q.elim
  | cont => obtain ⟨_, _, _, q⟩ := hs; exact q.elim
section
variable {X : Cx} {CX : CXT} {k : Nat} {f C : Addr} {fd : FuncData} {ps ks : List Str} {sp : Sp} {dvs : List V} {ds : List Value} {E : XK} {x : Str} {p pos : Pos} {e : Expr} {es : List Expr} {kws : List Keyword} {t tk : TA}
  {g : List Value → List Value → List Value} {gV : List V → List V → List V}
theorem go_g {pins : List (Addr × Obj)} {σ : L2.St} {H : Hp} {s : Shared} {Q : VK} {us : List Value} {vs : List V} {ag : Args} (F : FnG X.prog X.w X.K X.mg X.base CX k f fd ps sp) (fr : Free X.A) (hr : Room k X.A)
    (hx : Passes CX X E) (I : Inv X pins σ H s) (hb : BindsTo s fd ag (ps.zip us)) (r : Vals vs us) (h : sp vs H Q E) : wpAny (model X.prog X.w) X.A (call (.ref f) ag.pos ag.kw) (EP X pins σ Q) X.xe s := by
  refine wpAny_call (codeAny_mono (F.go X.A X.stack s H ag us vs Q E fr hr I.env0 hb r h) fun r s' hq => ?_)
  match r, hq with
  | .error z, hq => exact hx pins σ H s z s' I hq
  | .ok (.ret _), hq => exact I.after hq
end
end Gd
namespace Gd
open PySem PySem.Spec PyProof.Rows L2
section
variable {X : Cx} {CX : CXT} {k n : Nat} {f C : Addr} {fd : FuncData} {ps ks : List Str} {sp : Sp} {dvs : List V} {ds : List Value} {E : XK} {x : Str} {p pos : Pos} {e : Expr} {es : List Expr} {kws : List Keyword} {t tk : TA}
  {g : List Value → List Value → List Value} {gV : List V → List V → List V}
/-- f(e, ..) of a def with a promise of this kind -/
theorem pe_g (F : FnG X.prog X.w X.K X.mg X.base CX k f fd ps sp) (fr : Free X.A) (hr : Room k X.A) (gl : Gl X x) (at_ : X.mg x = some (.ref f))
    (kp : PySem.W.keepIn X.K (.ref f) = true) (bd : Binds X.K fd ps ds) (rd : Vals dvs ds) (hx : Passes CX X E) (ha : PA X (e :: es) t)
    (n1 : (x == ("__debug__" : Str)) = false := by decide) (n2 : starEach (e :: es) X.env = (false, eval e X.env) :: starEach es X.env := by rfl)
    (n3 : (backTo pos (starEach es X.env)).any (·.1) = false := by rfl) : PE X (.Call (.Name x p) (e :: es) [] pos) (tCall sp dvs E t) := by
  refine ⟨fun pins s σ H Q I h => wpAny_Call_Name_kw (ld_glob I gl at_ ?_ n1)⟩
  refine PySem.W.callWith_K (h₀ := X.base) I.ok.mod.kin kp (thn (ha.run pos pins s σ H _ I h) fun us s1 hh => ?_) n2 n3
  obtain ⟨vs, H1, J, r, q⟩ := hh
  have r2 : Vals (vs ++ dvs) (us ++ ds) := r.append rd
  exact ⟨J.kIn, go_g (ag := ⟨us, []⟩) F fr hr hx J (bd s1 us J.kIn (r2.length.symm.trans (F.ar _ _ _ _ q))) r2 q⟩
theorem pe_g0 (F : FnG X.prog X.w X.K X.mg X.base CX k f fd ps sp) (fr : Free X.A) (hr : Room k X.A) (gl : Gl X x) (at_ : X.mg x = some (.ref f))
    (kp : PySem.W.keepIn X.K (.ref f) = true) (bd : Binds X.K fd ps ds) (rd : Vals dvs ds) (hx : Passes CX X E)
    (n1 : (x == ("__debug__" : Str)) = false := by decide) : PE X (.Call (.Name x p) [] [] pos) (tCall sp dvs E tNil) := by
  refine ⟨fun pins s σ H Q I h => wpAny_Call_Name_kw (ld_glob I gl at_ ?_ n1)⟩
  refine PySem.W.callWith_K0 I.kIn kp (go_g (ag := ⟨[], []⟩) F fr hr hx I (bd s [] I.kIn (rd.length.symm.trans (F.ar _ _ _ _ h))) rd h)
/-- f(k = v, ..), nothing by position -/
theorem pe_gk0 (F : FnG X.prog X.w X.K X.mg X.base CX k f fd ps sp) (fr : Free X.A) (hr : Room k X.A) (gl : Gl X x) (at_ : X.mg x = some (.ref f))
    (kp : PySem.W.keepIn X.K (.ref f) = true) (bd : KBn X.K fd ps 0 ks g gV) (hx : Passes CX X E) (hk : PK X kws tk)
    (n0 : (backToKw pos (keywordEach kws X.env)).all (·.1.isSome) = true := by rfl) (nk : (backToKw pos (keywordEach kws X.env)).filterMap (·.1) = ks := by rfl)
    (n1 : (x == ("__debug__" : Str)) = false := by decide)
    (n3 : ((backTo pos (starEach [] X.env)).any (·.1) || (backToKw pos (keywordEach kws X.env)).any (·.1.isNone)) = false := by rfl) :
    PE X (.Call (.Name x p) [] kws pos) (tCallN 0 ks.length sp gV E tNil tk) := by
  refine ⟨fun pins s σ H Q I h => wpAny_Call_Name_kw (ld_glob I gl at_ ?_ n1)⟩
  refine PySem.W.callWith_KW0 (h₀ := X.base) I.ok.mod.kin kp n0 (thn (hk.run pos pins s σ H _ I h) fun ws s2 hh => ?_) n3
  obtain ⟨zs, H2, J, rz, _, l2, q⟩ := hh
  refine ⟨J.kIn, ?_⟩
  rw [nk]
  exact go_g (ag := ⟨[], ks.zip ws⟩) F fr hr hx J (bd.to s2 [] ws J.kIn rfl (rz.length.symm.trans l2)) (bd.rel .nil rz) q
/-! ### repr of lists and tuples of plain data; list of a text -/
def rRepr (K : PySem.W.Frag) : List V → Hp → VK → Prop := fun xs H Q => ∃ (v : V) (a : Addr) (d : PyData), xs = [v] ∧ v = .ref a ∧ Dp K H v d ∧ d.showable = true ∧ d.hasDict = false ∧ d.depth ≤ 64 ∧
  d.shown.length ≤ sizeLine ∧ Q (.str d.shown) H
theorem call_reprD (fr : Free X.A) (hu : X.A.units + 66 < cLine) : CallR X (.builtin "repr") (rRepr X.K) := by
  rintro pins s σ H _ us Q I r ⟨_, a, d, rfl, rfl, hd, h1, h2, h3, h4, q⟩
  obtain ⟨u, rfl, ru⟩ : ∃ u, us = [u] ∧ u = Value.ref a := vals1 r
  subst ru
  obtain ⟨as, rd⟩ := Dp.reads I d _ _ hd rfl
  exact repr_of_reads' rd h1 (PyData.noDict_hsm h2) fr (by omega) (fun _ _ z => z) (fun h' u tk hk => ⟨.str d.shown, H, I.kept hk, ⟨u, rfl⟩, q⟩) h4
/-- the signs of a text, each a text -/
def sigV (z : Str) : List V := z.cps.toList.map fun c => V.str ⟨#[c]⟩
theorem call_listS (hc : X.calm = true) : CallR X (.type "list") (fun xs H Q => ∃ z : Str, xs = [.str z] ∧ z.length ≤ sizeLine ∧ ∀ q, H q = none → Q (.ref q) (upd H q (.lst (sigV z)))) := by
  rintro pins s σ H _ us Q I r ⟨z, rfl, hz, q⟩
  obtain ⟨_, rfl, ⟨t, rfl⟩⟩ := vals1 r
  have ln : (sigV z).length = z.cps.size := by simp [sigV]
  refine call_list_str (I.ok.hd hc) z t (hn := hz) fun h' tk acc c' hk e hi => ?_
  refine ⟨.ref s.heap.objs.size, upd H s.heap.objs.size (.lst (sigV z)), I.laid hk (Nat.le_refl _) ⟨ln ▸ hz, acc.toList, c', ?_, by rw [Array.toArray_toList]; exact e⟩, rfl, q _ (I.hok.fresh (Nat.le_refl _))⟩
  refine vals_of_idx _ _ (by rw [ln, Array.length_toList]; exact hi.1) fun j u hj => ?_
  have at_ : acc[j]? = some u := by rw [← Array.getElem?_toList]; exact hj
  obtain ⟨c, t', hc, rfl⟩ := hi.2 j u at_
  exact ⟨.str ⟨#[c]⟩, by simp [sigV, hc], ⟨_, rfl⟩⟩
end
end Gd
namespace Gd
open PySem PySem.Spec PyProof.Rows L2
/-! ### the law's own call -/
section
variable {P : Program} {w : World} {K : PySem.W.Frag} {mg mb : Str → Option Value} {CX : CXT} {k : Nat} {fa a : Addr} {fd : FuncData} {x : Str} {sp : Sp} {s : Shared} {vs : List Value} {ns : List Int}
/-- the script's object, and the abstract heap that knows it alone -/
abbrev scr (vs : List Value) : Obj := { cls := .type "list", data := .seq vs.toArray }
/-- what the run of the law leaves -/
abbrev LawEnd (s : Shared) (r : Result) (s' : Shared) : Prop := r = .ok (.ret (.bool true)) ∧ OldK s.heap s'.heap ∧ s'.os = s.os ∧ AllBare s'.gens
theorem law_at (hr : Room k callerA) (F : ∀ base : Heap, K.In base → base.Ns mainGlobals mg → FnG P w K mg base CX k fa fd [x] sp)
    (bd : ∀ (s : Shared) (u : Value), BindsTo s fd ⟨[u], []⟩ [(x, u)]) (hCX : ∀ H e s', CX [] H s (fun _ _ _ => False) e s' → False)
    (ms : Mod K mg s.heap) (hg : s.gens = #[]) (ha : s.heap.get? a = some (scr vs)) (H : Hp) (only : Only H) (own : ∀ b, H b ≠ none → b = a) (apart : H a ≠ none → K.lookup a = none) (hok : HOk P w H s.heap)
    (want : sp [.ref a] H (fun v _ => v = .bl true) fun _ _ _ => False) : codeAny (model P w) callerA (.call (.ref fa) ⟨[.ref a], []⟩) (LawEnd s) s := by
  have nil_ : ∀ {b : Addr}, b ≠ a → H b = none := fun {b} hb => Classical.byContradiction fun z => hb (own b z)
  have dct : ∀ {b : Addr} {o : Obj} {es : Array DictEntry} {ep : Nat}, s.heap.get? b = some o → o.data = .dict es ep → (hidT s.heap H).get? b = some o := by
    intro b o es ep e d
    refine hidT_get e (nil_ fun z => ?_)
    rw [z, ha] at e
    cases e
    cases d
  have ns_ : ∀ {b : Addr} {m : Str → Option Value}, s.heap.Ns b m → (hidT s.heap H).Ns b m := by
    rintro b m ⟨o, es, ep, e, d, r⟩
    exact ⟨o, es, ep, dct e d, d, r⟩
  have kin : K.In (hidT s.heap H) := by
    intro b o e
    refine hidT_get (ms.kin b o e) ?_
    cases q : H b with
    | none => rfl
    | some u =>
      have hb := own b (by rw [q]; exact nofun)
      subst hb
      rw [apart (by rw [q]; exact nofun)] at e
      cases e
  obtain ⟨_, gl, ⟨mb, b1, b2⟩, ⟨mc, l1, l2⟩⟩ := ms
  have e0 : Env0 P w K mg (hidT s.heap H) callerA [] s H :=
    ⟨rfl, ⟨kin, ns_ gl, ⟨mb, ns_ b1, b2⟩, ⟨mc, ns_ l1, l2⟩⟩, fun b o e => of_hidT e, Nat.le_of_eq (hidT_size _ _), trivial, nofun, hok, .of_eq hg⟩
  refine codeAny_mono ((F _ kin (ns_ gl)).go callerA [] s H ⟨[.ref a], []⟩ [.ref a] [.ref a] _ _ rfl hr e0 (bd s (.ref a)) (.cons rfl .nil) want) fun r s' h => ?_
  match r, h with
  | .error e, h => exact (hCX H e s' h).elim
  | .ok (.ret u), h =>
    obtain ⟨v, H', os, bare, un, hok', ru, q⟩ := h
    subst q
    obtain rfl : u = Value.bool true := ru
    refine And.intro rfl ⟨OldK.of_keep fun b o e => ?_, os, bare⟩
    rcases only b with z | ⟨ob, xs, z⟩
    · exact un.keep b o e z nofun nofun
    · obtain ⟨e1, _⟩ := hok b _ z
      obtain ⟨e2, _⟩ := hok' b _ (un.frzs b ob _ z)
      rw [e] at e1
      cases e1
      exact e2
theorem law_run (hr : Room k callerA) (F : ∀ base : Heap, K.In base → base.Ns mainGlobals mg → FnG P w K mg base CX k fa fd [x] sp)
    (bd : ∀ (s : Shared) (u : Value), BindsTo s fd ⟨[u], []⟩ [(x, u)]) (hCX : ∀ H e s', CX [] H s (fun _ _ _ => False) e s' → False)
    (ms : Mod K mg s.heap) (hg : s.gens = #[]) (ha : s.heap.get? a = some (scr vs)) (hi : IntsAre vs ns) (hl : ns.length ≤ sizeLine)
    (want : ∀ H : Hp, Only H → SqL K H a (ns.map V.int) → sp [.ref a] H (fun v _ => v = .bl true) fun _ _ _ => False) : codeAny (model P w) callerA (.call (.ref fa) ⟨[.ref a], []⟩) (LawEnd s) s := by
  have rv := vals_ints hi
  have ln : (ns.map V.int).length ≤ sizeLine := by rw [List.length_map]; exact hl
  cases hk : K.lookup a with
  | some o =>
    have e := ms.kin a o hk
    rw [ha] at e
    cases e
    refine law_at hr F bd hCX ms hg ha (fun _ => none) (fun _ => .inl rfl) (fun b z => absurd rfl z) (fun z => absurd rfl z) (fun b u z => by cases z) (want _ (fun _ => .inl rfl) (.inr ⟨_, vs.toArray, _, hk, rfl, rfl, rfl, ?_, ?_⟩))
    · rw [List.size_toArray, ← rv.length]
      exact ln
    · exact rv
  | none =>
    let H : Hp := fun b => if b = a then some (.frz (scr vs) (.lst (ns.map V.int))) else none
    have Ha : H a = some (.frz (scr vs) (.lst (ns.map V.int))) := if_pos rfl
    have Hn : ∀ b, b ≠ a → H b = none := fun b hb => if_neg hb
    have only : Only H := fun b => by
      by_cases hb : b = a
      · exact .inr ⟨_, _, by rw [hb]; exact Ha⟩
      · exact .inl (Hn b hb)
    refine law_at hr F bd hCX ms hg ha H only (fun b z => Classical.byContradiction fun hb => z (Hn b hb)) (fun _ => hk) (fun b u z => ?_) (want _ only (.inl (.inr ⟨_, Ha⟩)))
    by_cases hb : b = a
    · subst hb
      rw [Ha] at z
      cases z
      exact ⟨ha, ln, vs, _, rv, ha⟩
    · rw [Hn b hb] at z
      cases z
end
/-- what a text's law must bring: where it stands, its promise, and that its promise holds of every script -/
structure Brings (l : PySem.W.OpenLaw) (n k : Nat) (CX : CXT) (x : Str) (w : World) (mg : Str → Option Value) (fa : Addr) (h : Heap) : Prop where
  some_ : ∃ (K : PySem.W.Frag) (fd : FuncData) (sp : Sp), K.In h ∧ (∀ s u, BindsTo s fd ⟨[u], []⟩ [(x, u)]) ∧
    (∀ H a (ns : List Int), ns.length ≤ n → Only H → SqL K H a (ns.map V.int) → sp [.ref a] H (fun v _ => v = .bl true) (fun _ _ _ => False)) ∧
    ∀ base, K.In base → base.Ns mainGlobals mg → FnG l.prog w K mg base CX k fa fd [x] sp
theorem walk_g {l : PySem.W.OpenLaw} {n k : Nat} {q : Program} {loose : List Str} {XP : (Str → Option Value) → Heap → Prop} {YP : World → Heap → Prop} {d : DefRec} {CX : CXT} {x : Str} (hr : Room k callerA)
    (most : l.most = some n) (size : n ≤ sizeLine) (plain : d.params.defaults = []) (quiet : ∀ H s e s', CX [] H s (fun _ _ _ => False) e s' → False)
    (law : ∀ w mg fa h, YP w h → h.Ns mainGlobals mg → mg d.name = some (.ref fa) → Brings l n k CX x w mg fa h) : PySem.W.WalkO q loose XP YP l.row.toRowW d [] (fun f us => PySem.call f us) := by
  refine Att.attach_call most plain fun w s₀ s₁ mg mb fa o pm cd doc a vs ns G Y _ _ _ named obj whole len gens => ?_
  obtain ⟨K, fd, sp, kin, bd, want, F⟩ := (law w mg fa _ Y G.T.g named).some_
  have module_ : Mod K mg s₁.heap := ⟨kin, G.T.g, ⟨mb, G.T.b, G.T.builtins⟩, G.T.nolimit⟩
  exact law_run hr F bd (fun H e s' => quiet H s₁ e s') module_ gens obj whole (Nat.le_trans len size) fun H only sq => want H a ns len only sq
end Gd
namespace Gd
open PySem PySem.Spec PyProof.Rows L2
/-! ### enumerate over a tuple, by what the tuple's own iterator draws -/
/-- a new enumerate object over the iterator at it -/
abbrev enumAt (it : Addr) : Obj := { cls := .type "enumerate", data := .fields #[.none, .bool false, .ref it, rawInt 0, .none, .none] }
theorem enum_made {v : Value} {o : Obj} {HB : Heap → Prop} (B : Begins v o HB) : Meets (Builtin.«enumerate.__new__» ⟨[.type "enumerate", v], []⟩)
    (fun _ R s => HB s.heap ∧ R (.ok (.ret (.ref (s.heap.push o).objs.size))) { s with heap := (s.heap.push o).push (enumAt s.heap.objs.size) }) := by
  refine .of_wp fun prog w A R s both => ?_
  rcases s with ⟨hp, g, dr, tk, os⟩
  rcases both with ⟨stands, want⟩
  have begin_ : ∀ {A2 : Around} {X2 : Value → Shared → Prop} {Q2 : Value → Shared → Prop}, Q2 (.ref hp.objs.size) ⟨hp.push o, g, dr, tk, os⟩ → wpAny (model prog w) A2 (pyIter v) Q2 X2 ⟨hp, g, dr, tk, os⟩ := by
    intro A2 X2 Q2 z
    exact B.iter prog w A2 X2 ⟨hp, g, dr, tk, os⟩ Q2 stands z
  have isSub := sub_enumerate
  wp_walk using begin_
  refine wpAny_stack_any fun around => wpAny_pure ?_
  split
  · next c _ _ _ _ _ =>
    cases h : (c == Value.type "enumerate")
    all_goals
      wp_walk using begin_
      exact ⟨_, rfl, want⟩
  · wp_walk using begin_
    exact ⟨_, rfl, want⟩
theorem enum_call {prog : Program} {w : World} {A : Around} {X : Value → Shared → Prop} {s : Shared} {v : Value} {o : Obj} {HB : Heap → Prop} {Q : Value → Shared → Prop} (B : Begins v o HB) (stands : HB s.heap)
    (want : ∀ h', IsEnum h' (s.heap.objs.size + 1) s.heap.objs.size 0 .none → h'.get? s.heap.objs.size = some o → (∀ b u, s.heap.get? b = some u → h'.get? b = some u) → Q (.ref (s.heap.objs.size + 1)) { s with heap := h' }) :
    wpAny (model prog w) A (call (.type "enumerate") [v]) Q X s := by
  have size1 : (s.heap.push o).objs.size = s.heap.objs.size + 1 := Heap.size_push ..
  have there := Heap.get?_push_size (s.heap.push o) (o := enumAt s.heap.objs.size) rfl
  rw [size1] at there
  refine callType_new F.called_enumerate (by decide) (F.typeCall_enumerate_1 v) (F.newCall_enumerate_1 v) (fun z => F.args_object_init_2 z v) F.entry_enumerate_new (enum_made B) ⟨stands, ?_⟩
  show _ ∧ _
  rw [size1]
  exact ⟨⟨_, there, rfl⟩, want _ there (Heap.get?_push_of_some _ (Heap.get?_push_size _ B.free)) fun b u z => Heap.get?_push_of_some _ (Heap.get?_push_of_some _ z)⟩
/-- the tuple xs at a, each item in a new pair with its number -/
def ItE (K : PySem.W.Frag) (a : Addr) (xs : List V) : It where
  go := fun i H => i < xs.length ∧ SqT K H a xs
  stop := fun i H => i = xs.length ∧ SqT K H a xs
  yld := fun i H v H' => ∃ x, xs[i]? = some x ∧ ∃ T, H T = none ∧ v = .ref T ∧ H' = upd H T (.tup [.int (i : Nat), x])
section
variable {P : Program} {w : World} {K : PySem.W.Frag} {a e it : Addr} {xs : List V}
theorem turn_enumT {elts : List Expr} {kk : Nat} {tpos : Pos} (ei : e ≠ it) (ea : e ≠ a) (ai : a ≠ it) :
    Turn P w K (.Tuple elts kk tpos) (ItE K a xs) [e, it] e (fun i h => (∃ old, IsEnum h e it (0 + (i : Int)) old) ∧ h.IsTupleIter it a i) := by
  have two : ∀ {b : Addr}, b ∈ [e, it] → b = e ∨ b = it := fun {b} m => by simpa using m
  have apart : e ∉ [it, a] := fun m => by
    rcases List.mem_cons.mp m with z | z
    · exact ei z
    · exact ea (List.mem_singleton.mp z)
  refine ⟨List.mem_cons_self .., ?_, ?_, ?_, ?_, ?_⟩
  · rintro i h ⟨⟨old, isE⟩, o, isI, _, dI⟩ b m
    rcases two m with z | z <;> subst z
    · exact ⟨_, isE, nofun⟩
    · exact ⟨o, isI, fun v z => by rw [dI] at z; cases z⟩
  · rintro i h h' ⟨⟨old, isE⟩, isI⟩ k
    exact ⟨⟨old, k e (by simp) _ isE⟩, isI.at fun o z => k it (by simp) o z⟩
  · rintro X rfl rfl rfl calm i pins s σ H E I foot ⟨isE, isI⟩ ⟨lt, sq⟩
    obtain ⟨us, rel, tup, _⟩ := I.tuple sq
    have W := WalksT.enumFrom (A := X.A) 0 (Draws.tuple (prog := X.prog) (w := X.w) (A := X.A.in1) (I.ok.hd calm) it a ai us.toArray) e ei apart (by simp)
    refine W.item i s _ _ (by rw [List.size_toArray, ← rel.length]; exact lt) ⟨isE, isI, tup⟩ fun T vals h1 tk pt old1 tup1 mid keep1 => ?_
    refine ⟨_, rfl, W.go elts kk tpos i T _ _ _ mid fun h2 st2 keep2 => ?_⟩
    obtain ⟨t, u, hu, ev⟩ := pt
    subst ev
    obtain ⟨x, hx, ru⟩ : ∃ x, xs[i]? = some x ∧ RelV x u := by
      obtain ⟨u2, hu2, ru⟩ := rel.get (List.getElem?_eq_getElem lt)
      have : u2 = u := by
        have z : us[i]? = some u := by simpa using hu
        exact Option.some.inj (hu2.symm.trans z)
      subst this
      exact ⟨_, List.getElem?_eq_getElem lt, ru⟩
    have tup2 : h2.IsTuple T #[.int (0 + (i : Int)) t, u] := tup1.at fun o z => keep2 T o (W.apart i T h1 mid) z
    rw [Int.zero_add] at tup2
    have J := I.turnedNew (t' := tk) (ch := [e, it]) (T := T) (ob := .tup [.int (i : Nat), x]) (h' := h2) (fun b o m z => keep2 b o m (keep1 b o m z)) foot old1
      ⟨by show 2 ≤ sizeLine; decide, [.int (i : Int) t, u], .cons ⟨t, rfl⟩ (.cons ru .nil), tup2⟩
    refine ⟨.ref T, _, J, rfl, ⟨x, hx, T, I.hok.fresh old1, rfl, rfl⟩, ⟨st2.1, st2.2.1⟩, fun b m => ?_⟩
    have lo : b < s.heap.objs.size := by
      rcases two m with z | z
      · obtain ⟨_, y⟩ := isE
        rw [z]
        exact Heap.lt_size y
      · obtain ⟨_, y, _⟩ := isI
        rw [z]
        exact Heap.lt_size y
    have other : b ≠ T := fun z => Nat.not_lt.mpr old1 (by rw [← z]; exact lo)
    rw [upd_ne other]
    exact (foot b m).1
  · rintro X rfl rfl rfl calm i pins s σ H E I foot ⟨⟨old, isE⟩, isI⟩ ⟨all_, sq⟩
    obtain ⟨us, rel, tup, _⟩ := I.tuple sq
    have len : i = us.toArray.size := by rw [List.size_toArray, ← rel.length]; exact all_
    have D := Draws.tuple (prog := X.prog) (w := X.w) (A := X.A.in1) (I.ok.hd calm) it a ai us.toArray
    obtain ⟨f1, f2, _, f4, f5, f6⟩ := foot it (by simp)
    exact wpAny_pyNext_enum_endD D isE ⟨len ▸ isI, tup⟩ fun h' ext => ⟨rfl, I.turned (t' := s.toks) (it := it) ext f1 f2 f4 f5 f6⟩
  · rintro A i s Q E ⟨⟨old, isE⟩, _⟩ q
    exact wpAny_pyIter_enum isE q
theorem walk_enumT : Walk (ItE K a xs) xs.length (fun H => SqT K H a xs) (YPair (fun i => some (.int (i : Nat))) (fun i => xs[i]?)) where
  goes := fun _ _ lt sq => ⟨lt, sq⟩
  stops := fun _ sq => ⟨rfl, sq⟩
  yields := fun _ _ _ _ _ _ ⟨x, hx, T, new, ev, eh⟩ => ⟨T, _, x, ev, new, eh, rfl, hx⟩
end
/-- what enumerate(t) asks: t is a tuple -/
def iEnumT (K : PySem.W.Frag) (ta : TA) : TI := fun σ H R => ta σ H fun vs H1 => ∃ a xs, vs = [.ref a] ∧ SqT K H1 a xs ∧ R (ItE K a xs) H1
theorem pi_enumT {X : Cx} {e : Expr} {ta : TA} {p pos tpos : Pos} {elts : List Expr} {kk : Nat} (gl : Gl X "enumerate") (no : X.mg "enumerate" = none) (ha : PA X [e] ta)
    (star : starEach [e] X.env = [(false, eval e X.env)] := by rfl) : PI X (.Tuple elts kk tpos) (.Call (.Name "enumerate" p) [e] [] pos) (iEnumT X.K ta) := by
  constructor
  intro pins s σ H R I h
  have args := ha.run pos pins s σ H _ I h
  refine Call_ (ld_blt I gl no boot_enumerate (PyProof.Rows.callWith_type1 (thn args ?_) star rfl))
  rintro us s1 ⟨vs, H1, J, rel, a, xs, rfl, sq, q⟩
  obtain ⟨u, rfl, ru⟩ : ∃ u, us = [u] ∧ RelV (.ref a) u := by
    cases rel with
    | cons r rs => cases rs; exact ⟨_, rfl, r⟩
  have eu : u = Value.ref a := ru
  subst eu
  obtain ⟨ws, rw_, tup, _⟩ := J.tuple sq
  have low : a < s1.heap.objs.size := by
    obtain ⟨o, ho, _⟩ := tup
    exact Heap.lt_size ho
  refine enum_call (begins_tuple a ws.toArray) tup fun h' isE isI kp => wpAny_pyIter_enum isE ?_
  refine ⟨s1.heap.objs.size + 1, [s1.heap.objs.size + 1, s1.heap.objs.size], _, _, H1, rfl, J.kept (t' := s1.toks) kp, turn_enumT (Nat.succ_ne_self _) ?_ (Nat.ne_of_lt low), ⟨⟨.none, isE⟩, ⟨_, isI, rfl, rfl⟩⟩, fun b m => ?_, q⟩
  · exact fun z => absurd (z ▸ low) (Nat.not_lt.mpr (Nat.le_succ _))
  · have above : s1.heap.objs.size ≤ b := by
      rcases List.mem_cons.mp m with z | z
      · rw [z]; exact Nat.le_succ _
      · rw [List.mem_singleton.mp z]; exact Nat.le_refl _
    exact J.fpOk above (J.hok.fresh above)
end Gd
namespace Gd
open PySem PySem.Spec PyProof.Rows L2
/-! ### the head's facts by names, with one more look -/
def hookX (n : Nat) (fa : List He.Fa) (fn : List He.DefD) (more : PySem.W.Frag → Bool) : PySem.W.Hook where
  α := Bool × He.AlD
  obs := fun s => (more (He.frG s.heap.get? (He.asD s.heap.get? n)), He.obsDG n fa fn s.heap.get?)
  val := fun _ => (true, He.valD fn)
  says := fun _ h => ∃ K : PySem.W.Frag, K.In h ∧ He.SaysD fa fn K ∧ more K = true
  of := fun _ _ e => ⟨_, He.frG_in, congrArg Prod.snd e, congrArg Prod.fst e⟩
  keeps := fun _ _ _ h k => by
    obtain ⟨K, i, c, m⟩ := h
    exact ⟨K, PySem.W.Frag.In.keeps i k, c, m⟩
def obX (n : Nat) (fa : List He.Fa) (fn : List He.DefD) (more : PySem.W.Frag → Bool) (s : PySem.W.SharedT) : Bool × He.AlD :=
  (more (He.frG (HandSHeadRun.getT s) (He.asD (HandSHeadRun.getT s) n)), He.obsDG n fa fn (HandSHeadRun.getT s))
theorem obX_eq (n : Nat) (fa : List He.Fa) (fn : List He.DefD) (more : PySem.W.Frag → Bool) (s : PySem.W.SharedT) : obX n fa fn more s = (hookX n fa fn more).obs s.abs := by
  have e : HandSHeadRun.getT s = s.abs.heap.get? := funext (HandSHeadRun.getT_eq s)
  unfold obX
  rw [e]
  rfl
/-- an empty tuple of the written part -/
def emptyT (K : PySem.W.Frag) (a : Addr) : Bool := match K.lookup a with
  | some ⟨.type c, _, .seq its _, _⟩ => decide (c = "tuple") && decide (its.size = 0)
  | _ => false
theorem emptyT_ok {K : PySem.W.Frag} {a : Addr} (h : emptyT K a = true) (H : Hp) : SqT K H a [] := by
  unfold emptyT at h
  cases q : K.lookup a with
  | none => rw [q] at h; cases h
  | some o =>
    obtain ⟨oc, od, dt, osl⟩ := o
    rw [q] at h
    cases oc with
    | type c =>
      cases dt with
      | seq its n =>
        obtain ⟨h1, h2⟩ := He.ba (show (decide (c = "tuple") && decide (its.size = 0)) = true from h)
        have e0 : its = #[] := Array.eq_empty_of_size_eq_zero (of_decide_eq_true h2)
        subst e0
        exact .inr ⟨_, #[], n, q, congrArg Value.type (of_decide_eq_true h1), rfl, Nat.zero_le _, .nil⟩
      | _ => cases h
    | _ => cases dt <;> cases h
/-- what isinstance asks of the class at C -/
def insOk (K : PySem.W.Frag) (C : Addr) : Bool := He.eqO (PySem.W.findIn K (.ref C) "__class__") (some (some (.builtin "object.__class__"))) &&
  (He.eqO (PySem.W.specialIn K (.builtin "object.__class__") "__get__") (some (some (.builtin "getset_descriptor.__get__"))) &&
    (decide (PySem.W.takesIn K (.builtin "object.__class__") = some true) && decide (PySem.W.mroIn K C (.type "object") = some true)))
def AsksCls (K : PySem.W.Frag) (C : Addr) : Prop := PySem.W.findIn K (.ref C) "__class__" = some (some (.builtin "object.__class__")) ∧
  PySem.W.specialIn K (.builtin "object.__class__") "__get__" = some (some (.builtin "getset_descriptor.__get__")) ∧ PySem.W.takesIn K (.builtin "object.__class__") = some true ∧ PySem.W.mroIn K C (.type "object") = some true
theorem asks_ok {K : PySem.W.Frag} {C : Addr} (h : insOk K C = true) : AsksCls K C := by
  obtain ⟨h1, h⟩ := He.ba h
  obtain ⟨h2, h⟩ := He.ba h
  obtain ⟨h3, h4⟩ := He.ba h
  exact ⟨He.eqO_ok h1, He.eqO_ok h2, of_decide_eq_true h3, of_decide_eq_true h4⟩
end Gd
namespace Gd
open PySem PySem.Spec PyProof.Rows L2
abbrev FnP (K : PySem.W.Frag) (x : Str) (st : Stmt) (f : Addr) (fd : FuncData) : Prop := FunD K x x (defArgs st) (defBody st) (defScope st) [] [] f fd
/-! ### what a colour is -/
def abc : Str := "abcdefghijklmnopqrstuvwxyz"
def allIn (z : Str) : Bool := z.cps.toList.all fun c => decide (c ∈ abc.cps.toList)
def isC (z : Str) : Bool := decide (0 < z.length) && (decide (z.length < 7) && allIn z)
theorem str_ext {a b : Str} (h : a.cps.toList = b.cps.toList) : a = b := by
  obtain ⟨x⟩ := a
  obtain ⟨y⟩ := b
  exact congrArg Str.mk (Array.ext' h)
theorem same_upd {H : Hp} {p : Addr} {o : HO} (h : H p = none) : Same H (upd H p o) := fun b x e => by
  rw [upd_ne (ne_of_none e h)]
  exact e
/-- a text of moderate length, or a thing that is no text -/
inductive Any (K : PySem.W.Frag) (H : Hp) : V → Bool → Prop
  | str (z : Str) (h : z.length ≤ 100) : Any K H (.str z) (isC z)
  | other {v : V} {t : Value} (h : TyX K H v t) (n : PySem.W.kitOne K t (.type "str") = some false) : Any K H v false
/-- is_colour, and the law's own: the value's answer; what was tracked stands -/
def spIs (K : PySem.W.Frag) : Sp := fun vs H Q _ => ∃ (v : V) (b : Bool), vs = [v] ∧ Any K H v b ∧ ∀ H', Same H H' → Q (.bl b) H'
structure TxC (K : PySem.W.Frag) (mg : Str → Option Value) : Prop where
  isi : mg "isinstance" = none
  str : mg "str" = none
  len : mg "len" = none
  all : mg "all" = none
  lets : ∃ t, mg "LETTERS" = some (.str abc t)
  most : ∃ t, mg "MOST_LETTERS" = some (.int 6 t)
theorem str_nil {z : Str} (h : z.length = 0) : z = "" := by
  obtain ⟨c⟩ := z
  have e : c = #[] := Array.eq_empty_of_size_eq_zero h
  rw [e]
  rfl
theorem kit_str {K : PySem.W.Frag} : PySem.W.kitOne K (.type "str") (.type "str") = some true := kit_ty (by decide +kernel)
theorem small100 {n : Nat} (h : n ≤ 100) : n ≤ sizeLine := Nat.le_trans h (by decide)
theorem _root_.L2.Same.put {H H' : Hp} {D : Addr} {o : HO} (s : Same H H') (h : H D = none) : Same H (upd H' D o) := fun b x e => by
  rw [upd_ne (ne_of_none e h)]
  exact s b x e
/-- the list of the comprehension [c in letters for c in z], behind i turns -/
def bl (z : Str) (i : Nat) : List Bool := (z.cps.toList.take i).map fun c => decide (c ∈ abc.cps.toList)
def bs (z : Str) (i : Nat) : List V := (bl z i).map V.bl
theorem bs_small {z : Str} (h : z.length ≤ 100) (i : Nat) : (bs z i).length < sizeLine := by
  have e : (bs z i).length ≤ z.length := by
    unfold bs bl
    rw [List.length_map, List.length_map, List.length_take]
    exact Nat.min_le_right _ _
  exact small1000 (by omega)
theorem bs_step {z : Str} {i c : Nat} (h : z.cps[i]? = some c) : bs z (i + 1) = bs z i ++ [V.bl (decide (c ∈ abc.cps.toList))] := by
  have e : z.cps.toList[i]? = some c := by rw [Array.getElem?_toList]; exact h
  unfold bs bl
  rw [List.take_add_one, e]
  simp only [Option.toList_some, List.map_append, List.map_cons, List.map_nil]
theorem bs_end (z : Str) : bs z z.cps.size = (z.cps.toList.map fun c => decide (c ∈ abc.cps.toList)).map V.bl := by
  unfold bs bl
  rw [show z.cps.size = z.cps.toList.length from rfl, List.take_length]
theorem all_end (z : Str) : (z.cps.toList.map fun c => decide (c ∈ abc.cps.toList)).all id = allIn z := by
  unfold allIn
  rw [List.all_map]
  rfl
theorem tyx_same {K : PySem.W.Frag} {H H' : Hp} {v : V} {t : Value} (s : Same H H') (h : TyX K H v t) : TyX K H' v t := by
  cases h with
  | base b =>
    refine .base ?_
    cases b with
    | non => exact .non
    | bl y => exact .bl y
    | int i => exact .int i
    | str y => exact .str y
    | flt y => exact .flt y
    | lst e => exact .lst (s _ _ e)
    | frz e => exact .frz (s _ _ e)
    | tup e => exact .tup (s _ _ e)
    | dK e => exact .dK (s _ _ e)
    | dT e => exact .dT (s _ _ e)
    | ins e c h1 h2 h3 h4 => exact .ins (s _ _ e) c h1 h2 h3 h4
  | byt b => exact .byt b
  | set e => exact .set (s _ _ e)
  | kList e c => exact .kList e c
  | kTuple e c => exact .kTuple e c
  | kDict e c => exact .kDict e c
  | fTuple e => exact .fTuple (s _ _ e)
  | fDict e => exact .fDict (s _ _ e)
theorem Any.same {K : PySem.W.Frag} {H H' : Hp} {v : V} {b : Bool} (s : Same H H') (h : Any K H v b) : Any K H' v b := by
  cases h with
  | str z hz => exact .str z hz
  | other ht hn => exact .other (tyx_same s ht) hn
theorem sqt_same {K : PySem.W.Frag} {H H' : Hp} {a : Addr} {xs : List V} (e : Same H H') (h : SqT K H a xs) : SqT K H' a xs := by
  rcases h with (own | ⟨o, own⟩) | text
  · exact .inl (.inl (e _ _ own))
  · refine .inl (.inr ⟨o, ?_⟩)
    exact e _ _ own
  · exact .inr text
/-- a purse: a list of two ints -/
def Pur (H : Hp) (p : Addr) : Prop := ∃ a b : Int, H p = some (.lst [.int a, .int b])
/-- all but p's content as it was -/
def But (p : Addr) (H H' : Hp) : Prop := ∀ b o, b ≠ p → H b = some o → H' b = some o
def spPurse (K : PySem.W.Frag) : Sp := fun vs H Q _ => ∃ (a : Addr) (ns : List Int) (k : Nat), vs = [.ref a, .int k] ∧ SqL K H a (ns.map V.int) ∧ ns.length ≤ 1000 ∧ k ≤ 1000 ∧
  ∀ H' p, Same H H' → H p = none → Pur H' p → Q (.ref p) H'
def spDraw : Sp := fun vs H Q _ => ∃ (p : Addr) (m : Int), vs = [.ref p, .int m] ∧ 0 < m ∧ m < 1000000 ∧ Pur H p ∧
  ∀ H' r, 0 ≤ r → r < m → But p H H' → Pur H' p → Q (.int r) H'
theorem cut_int (ns : List Int) (lo hi : Option Int) : ∃ n : Int, (cutV (ns.map V.int) lo hi ++ [V.int 0])[0]? = some (.int n) := by
  have e : ∃ ms : List Int, cutV (ns.map V.int) lo hi = ms.map V.int := by
    unfold cutV
    rw [← List.map_drop, ← List.map_take]
    exact ⟨_, rfl⟩
  obtain ⟨ms, e⟩ := e
  rw [e]
  cases ms with
  | nil => exact ⟨0, rfl⟩
  | cons m r => exact ⟨m, rfl⟩
theorem But.refl {p : Addr} {H : Hp} : But p H H := fun _ _ _ h => h
theorem But.trans {p : Addr} {H H1 H2 : Hp} (a : But p H H1) (b : But p H1 H2) : But p H H2 := fun c o n h => b c o n (a c o n h)
theorem But.same {p : Addr} {H H1 H2 : Hp} (a : But p H H1) (b : Same H1 H2) : But p H H2 := fun c o n h => b c o (a c o n h)
theorem Pur.same {p : Addr} {H H1 : Hp} (a : Pur H p) (b : Same H H1) : Pur H1 p := by
  obtain ⟨x, y, e⟩ := a
  exact ⟨x, y, b _ _ e⟩
theorem Pur.ne {p q : Addr} {H : Hp} (a : Pur H p) (h : H q = none) : q ≠ p := fun e => by
  obtain ⟨x, y, z⟩ := a
  rw [e, z] at h
  cases h
theorem But.free {p D : Addr} {H H' : Hp} (a : But p H H') (h : D ≠ p) (n : H' D = none) : H D = none := by
  cases e : H D with
  | none => rfl
  | some o =>
    rw [a D o h e] at n
    cases n
theorem But.put {p D : Addr} {H H' : Hp} {o : HO} (a : But p H H') (h : H D = none) : But p H (upd H' D o) := fun c x n e => by
  rw [upd_ne (ne_of_none e h)]
  exact a c x n e
theorem app_len (x y : Str) : (x ++ y).length = x.length + y.length := Array.size_append
theorem joinL_len : ∀ l : List (List Nat), (TL.joinL [] l).length = (l.map List.length).sum
  | [] => rfl
  | [p] => by simp [TL.joinL]
  | p :: q :: r => by
    have ih := joinL_len (q :: r)
    show (p ++ ([] ++ TL.joinL [] (q :: r))).length = _
    rw [List.nil_append, List.length_append, ih]
    rfl
theorem join_len {ys : List Str} (h : ∀ y ∈ ys, y.length = 1) : (Txt.join "" ys).length = ys.length := by
  have e : (Txt.join "" ys).length = (TL.joinL [] (ys.map TL.tl)).length := by
    rw [TL.join_eq]
    exact congrArg List.length (TL.tl_join "" ys)
  rw [e, joinL_len, List.map_map]
  clear e
  induction ys with
  | nil => rfl
  | cons y r ih =>
    rw [List.map_cons, List.sum_cons, ih fun z hz => h z (List.mem_cons_of_mem _ hz), List.length_cons]
    have := h y (List.mem_cons_self ..)
    show y.length + r.length = r.length + 1
    omega
theorem sum_len {ys : List Str} (h : ∀ y ∈ ys, y.length = 1) : (ys.map (·.length)).sum = ys.length := by
  induction ys with
  | nil => rfl
  | cons y r ih =>
    rw [List.map_cons, List.sum_cons, ih fun z hz => h z (List.mem_cons_of_mem _ hz), List.length_cons, h y (List.mem_cons_self ..)]
    omega
/-- each of a written list -/
def Each {α : Type} (P : α → Prop) : List α → Prop
  | [] => True
  | v :: r => P v ∧ Each P r
theorem each {α : Type} {P : α → Prop} : ∀ {l : List α}, Each P l → ∀ v ∈ l, P v
  | [], _, v, hv => by cases hv
  | u :: r, h, v, hv => by
    rcases List.mem_cons.mp hv with e | hv
    · rw [e]
      exact h.1
    · exact each h.2 v hv
variable {K : PySem.W.Frag}
theorem kitI : PySem.W.kitOne K (.type "int") (.type "int") = some true := kit_ty (by decide +kernel)
theorem kitIB : PySem.W.kitOne K (.type "int") (.type "bool") = some false := kit_ty (by decide +kernel)
theorem kitTT : PySem.W.kitOne K (.type "tuple") (.type "tuple") = some true := kit_ty (by decide +kernel)
theorem sqt_ty {H : Hp} {a : Addr} {xs : List V} (h : SqT K H a xs) : TyX K H (.ref a) (.type "tuple") := by
  rcases h with (own | ⟨_, locked⟩) | ⟨o, its, n, e, c, _⟩
  · exact .base (.tup own)
  · exact .fTuple locked
  · exact .kTuple e c
end Gd
namespace Gd
open PySem PySem.Spec PyProof.Rows L2
/-! ### data that can be written out -/
structure Nice (k W : Nat) (d : PyData) : Prop where
  sh : d.showable = true
  nd : d.hasDict = false
  dp : d.depth ≤ k
  cl : d.canLay0 = true
  is : d.intsShort 13 = true
  wt : d.weight ≤ W
theorem Nice.mono {k k' W W' : Nat} {d : PyData} (h : Nice k W d) (a : k ≤ k') (b : W ≤ W') : Nice k' W' d := ⟨h.sh, h.nd, Nat.le_trans h.dp a, h.cl, h.is, Nat.le_trans h.wt b⟩
theorem Nice.out {k W : Nat} {d : PyData} (h : Nice k W d) (hk : k ≤ 64) (hW : W ≤ 1000000) : d.showable = true ∧ d.hasDict = false ∧ d.depth ≤ 64 ∧ d.shown.length ≤ sizeLine := by
  have d64 := Nat.le_trans h.dp hk
  refine ⟨h.sh, h.nd, d64, ?_⟩
  have hl : d.layable0 = true := by
    unfold PyData.layable0
    have e : d.weight ≤ 2 ^ 20 := Nat.le_trans (Nat.le_trans h.wt hW) (by decide)
    rw [h.cl, decide_eq_true d64, decide_eq_true e] <;> rfl
  have := shown_le13 hl h.is
  rw [sizeLine_eq]
  omega
theorem small_ints : ∀ n : Nat, n < 1001 → (PyData.int (n : Int)).showable = true ∧ (PyData.int (n : Int)).intsShort 13 = true ∧ (PyData.int (n : Int)).weight ≤ 10 ∧ PyData.strOk (toString (n : Int) : String) = true ∧ Str.length (toString (n : Int) : String) ≤ 5 ∧ (n : Int).natAbs.log2 < 1920 := by
  decide +kernel
theorem nice_int {i : Int} (h0 : 0 ≤ i) (h1 : i ≤ 1000) : Nice 0 10 (.int i) := by
  obtain ⟨n, hn⟩ := Int.eq_ofNat_of_zero_le h0
  subst hn
  obtain ⟨a, b, c, _⟩ := small_ints n (by omega)
  exact ⟨a, rfl, Nat.le_refl _, rfl, b, c⟩
theorem nice_str {x : Str} {W : Nat} (h : PyData.strOk x = true) (hw : x.length ≤ W) : Nice 0 W (.str x) := ⟨rfl, rfl, Nat.le_refl _, h, rfl, hw⟩
theorem nice_bl (b : Bool) : Nice 0 0 (.bool b) := ⟨rfl, rfl, Nat.le_refl _, rfl, rfl, Nat.le_refl _⟩
structure NiceAll (k W : Nat) (ds : List PyData) : Prop where
  sh : PyData.showableAll ds = true
  nd : PyData.hasDictAll ds = false
  dp : PyData.depthAll ds ≤ k
  cl : PyData.canLayAll0 ds = true
  is : PyData.intsShortAll 13 ds = true
  wt : PyData.weightAll ds ≤ W
theorem niceAll_nil : NiceAll 0 0 [] := ⟨rfl, rfl, Nat.le_refl _, rfl, rfl, Nat.le_refl _⟩
theorem niceAll_cons {k k' W W' : Nat} {d : PyData} {ds : List PyData} (h : Nice k W d) (r : NiceAll k' W' ds) : NiceAll (max k k') (W + 1 + W') (d :: ds) where
  sh := by show (d.showable && _) = true; rw [h.sh, r.sh] <;> rfl
  nd := by show (d.hasDict || _) = false; rw [h.nd, r.nd] <;> rfl
  dp := by
    show max d.depth _ ≤ _
    have := h.dp
    have := r.dp
    omega
  cl := by show (d.canLay0 && _) = true; rw [h.cl, r.cl] <;> rfl
  is := by show (d.intsShort 13 && _) = true; rw [h.is, r.is] <;> rfl
  wt := by
    show d.weight + 1 + _ ≤ _
    have := h.wt
    have := r.wt
    omega
theorem niceAll_of {k W : Nat} : ∀ {ds : List PyData}, (∀ d ∈ ds, Nice k W d) → NiceAll k (ds.length * (W + 1)) ds
  | [], _ => ⟨rfl, rfl, Nat.zero_le _, rfl, rfl, Nat.zero_le _⟩
  | d :: ds, h => by
    have a := niceAll_cons (h d List.mem_cons_self) (niceAll_of fun e he => h e (List.mem_cons_of_mem _ he))
    have e : W + 1 + ds.length * (W + 1) = (d :: ds).length * (W + 1) := by rw [List.length_cons, Nat.add_mul, Nat.one_mul, Nat.add_comm]
    rw [e, Nat.max_self] at a
    exact a
theorem nice_lst {k W : Nat} {ds : List PyData} (h : NiceAll k W ds) : Nice (k + 1) W (.list ds) := ⟨h.sh, h.nd, Nat.succ_le_succ h.dp, h.cl, h.is, h.wt⟩
theorem nice_tup {k W : Nat} {ds : List PyData} (h : NiceAll k W ds) : Nice (k + 1) W (.tuple ds) := ⟨h.sh, h.nd, Nat.succ_le_succ h.dp, h.cl, h.is, h.wt⟩
/-- a colour -/
theorem isC_fit {z : Str} (h : isC z = true) : PyData.strOk z = true ∧ z.length ≤ 6 := by
  unfold isC at h
  rw [Bool.and_eq_true, Bool.and_eq_true] at h
  obtain ⟨_, h1, h2⟩ := h
  have h1 := of_decide_eq_true h1
  refine ⟨?_, by omega⟩
  unfold PyData.strOk
  rw [Array.all_eq_true_iff_forall_mem]
  intro c hc
  have h3 : c ∈ abc.cps.toList := by
    unfold allIn at h2
    rw [List.all_eq_true] at h2
    exact of_decide_eq_true (h2 c (Array.mem_toList_iff.mpr hc))
  have h4 : ∀ c ∈ abc.cps.toList, c < 0x110000 := by decide +kernel
  exact decide_eq_true (h4 c h3)
theorem strOk_app {x y : Str} (h : PyData.strOk x = true) (h2 : PyData.strOk y = true) : PyData.strOk (x ++ y) = true := by
  unfold PyData.strOk at *
  rw [Array.all_eq_true_iff_forall_mem] at *
  intro c hc
  have hc' : c ∈ x.cps ++ y.cps := hc
  rcases Array.mem_append.mp hc' with z | z
  · exact h c z
  · exact h2 c z
end Gd
namespace Gd
open PySem PySem.Spec PyProof.Rows L2
abbrev mW : List V := [.str "push", .str "open", .str "shut", .str "drop", .str "undo", .str "house", .str "hall", .str "lots", .str "pair", .str "chain", .str "row", .str "walk", .str "repeat", .str "free", .str "bound", .str "ok"]
abbrev mS : List Str := ["push", "open", "shut", "drop", "undo", "house", "hall", "lots", "pair", "chain", "row", "walk", "repeat", "free", "bound", "ok"]
theorem mS_ok : ∀ z ∈ mS, isC z = true := by
  have : mS.all isC = true := by decide +kernel
  exact List.all_eq_true.mp this
theorem mW_at {r : Int} (h0 : 0 ≤ r) (h1 : r < 16) : ∃ z : Str, isC z = true ∧ atI mW r = some (.str z) := by
  obtain ⟨n, en⟩ := Int.eq_ofNat_of_zero_le h0
  subst en
  have hn : n < mS.length := by show n < 16; omega
  refine ⟨mS[n], mS_ok _ (List.getElem_mem hn), atI_nat ?_⟩
  show (mS.map V.str)[n]? = _
  rw [List.getElem?_map, List.getElem?_eq_getElem hn]
  rfl
theorem abc_in {r : Int} (h0 : 0 ≤ r) (h1 : r < 26) : ∃ c : Nat, c ∈ abc.cps.toList ∧ atI abc.cps.toList r = some c := by
  obtain ⟨n, en⟩ := Int.eq_ofNat_of_zero_le h0
  subst en
  have hn : n < abc.cps.toList.length := Nat.lt_of_lt_of_le (show n < 26 by omega) (by decide)
  exact ⟨_, List.getElem_mem hn, atI_nat (List.getElem?_eq_getElem hn)⟩
theorem allIn_iff {z : Str} : allIn z = true ↔ ∀ c ∈ z.cps.toList, c ∈ abc.cps.toList := by
  unfold allIn
  rw [List.all_eq_true]
  exact ⟨fun h c hc => of_decide_eq_true (h c hc), fun h c hc => decide_eq_true (h c hc)⟩
theorem app_list (x y : Str) : (x ++ y).cps.toList = x.cps.toList ++ y.cps.toList := Array.toList_append
theorem cut_head (z : Str) {r : Int} (h : 0 ≤ r) : (cutS z none (some r)).cps.toList = z.cps.toList.take (min r.toNat z.length) := by
  obtain ⟨n, rfl⟩ := Int.eq_ofNat_of_zero_le h
  unfold cutS
  rw [HT.sIx_none, HT.sIx_nat]
  simp
theorem cut_tail (z : Str) {r : Int} (h : 0 ≤ r) : (cutS z (some r) none).cps.toList = (z.cps.toList.drop (min r.toNat z.length)).take (z.length - min r.toNat z.length) := by
  obtain ⟨n, rfl⟩ := Int.eq_ofNat_of_zero_le h
  unfold cutS
  rw [HT.sIx_none, HT.sIx_nat]
  simp
theorem word_ok {z : Str} {r : Int} {c : Nat} (hz : allIn z = true) (hl : z.length ≤ 5) (hr : 0 ≤ r) (hc : c ∈ abc.cps.toList) : isC (cutS z none (some r) ++ ⟨#[c]⟩ ++ cutS z (some r) none) = true := by
  have l1 : (cutS z none (some r)).length = min (min r.toNat z.length) z.cps.toList.length := by
    have := congrArg List.length (cut_head z hr)
    rw [List.length_take] at this
    exact this
  have l2 : (cutS z (some r) none).length = min (z.length - min r.toNat z.length) (z.cps.toList.length - min r.toNat z.length) := by
    have := congrArg List.length (cut_tail z hr)
    rw [List.length_take, List.length_drop] at this
    exact this
  have lz : z.cps.toList.length = z.length := rfl
  have a : allIn (cutS z none (some r) ++ ⟨#[c]⟩ ++ cutS z (some r) none) = true := by
    refine allIn_iff.mpr fun x hx => ?_
    rw [app_list, app_list] at hx
    rcases List.mem_append.mp hx with two | hx
    · rcases List.mem_append.mp two with hx | hx
      · rw [cut_head z hr] at hx
        exact allIn_iff.mp hz x (List.mem_of_mem_take hx)
      · have : x = c := List.mem_singleton.mp hx
        rw [this]
        exact hc
    · rw [cut_tail z hr] at hx
      exact allIn_iff.mp hz x (List.mem_of_mem_drop (List.mem_of_mem_take hx))
  have l : (cutS z none (some r) ++ ⟨#[c]⟩ ++ cutS z (some r) none).length = (cutS z none (some r)).length + 1 + (cutS z (some r) none).length := by
    rw [app_len, app_len]
    rfl
  unfold isC
  rw [a, decide_eq_true (by omega), decide_eq_true (by omega)]
  rfl
theorem join_in {ys : List Str} (h : ∀ y ∈ ys, ∃ c ∈ abc.cps.toList, y = ⟨#[c]⟩) : allIn (Txt.join "" ys) = true := by
  refine allIn_iff.mpr fun x hx => ?_
  have e : (Txt.join "" ys).cps.toList = TL.joinL [] (ys.map TL.tl) := by
    rw [TL.join_eq]
    exact TL.tl_join "" ys
  rw [e] at hx
  have aux : ∀ l : List Str, x ∈ TL.joinL [] (l.map TL.tl) → ∃ y ∈ l, x ∈ y.cps.toList := by
    intro l
    induction l with
    | nil => intro h; cases h
    | cons y r ih =>
      intro h
      cases r with
      | nil => exact ⟨y, List.mem_cons_self .., h⟩
      | cons y2 r2 =>
        have h' : x ∈ TL.tl y ++ ([] ++ TL.joinL [] ((y2 :: r2).map TL.tl)) := h
        rw [List.nil_append] at h'
        rcases List.mem_append.mp h' with z | z
        · exact ⟨y, List.mem_cons_self .., z⟩
        · obtain ⟨u, hu, hx⟩ := ih z
          exact ⟨u, List.mem_cons_of_mem _ hu, hx⟩
  obtain ⟨y, hy, hxy⟩ := aux ys hx
  obtain ⟨c, hc, rfl⟩ := h y hy
  rw [List.mem_singleton.mp hxy]
  exact hc
end Gd
namespace Gr
open PySem PySem.Spec PyProof.Rows L2 Gd
/-! ### data that stand in a heap, apart from what may change -/
theorem upd_at {H : Hp} {p a : Addr} {o u : HO} (n : a ≠ p) (e : H a = some u) : upd H p o a = some u := (upd_ne n).trans e
/-- all outside S stands as it stood -/
def Kp (S : List Addr) (H H' : Hp) : Prop := ∀ a o, a ∉ S → H a = some o → H' a = some o
theorem Kp.refl {S : List Addr} {H : Hp} : Kp S H H := fun _ _ _ h => h
theorem Kp.trans {S : List Addr} {H H1 H2 : Hp} (a : Kp S H H1) (b : Kp S H1 H2) : Kp S H H2 := fun x o n h => b x o n (a x o n h)
theorem Kp.wk {S T : List Addr} {H H1 : Hp} (a : Kp S H H1) (s : ∀ x ∈ S, x ∈ T) : Kp T H H1 := fun x o n h => a x o (fun m => n (s x m)) h
theorem Kp.new {S : List Addr} {H : Hp} {p : Addr} {o : HO} (h : H p = none) : Kp S H (upd H p o) := fun a u _ e => by
  rw [upd_ne (fun z => by rw [z, h] at e; cases e)]
  exact e
theorem Kp.put {S : List Addr} {H : Hp} {p : Addr} {o : HO} (h : p ∈ S) : Kp S H (upd H p o) := fun a u n e => upd_at (fun z => n (by rw [z]; exact h)) e
theorem Kp.same {S : List Addr} {H H' : Hp} (h : Same H H') : Kp S H H' := fun a o _ e => h a o e
theorem Kp.to {H H' : Hp} (h : Kp [] H H') : Same H H' := fun a o e => h a o (by simp) e
/-- what is not there behind was not there before -/
theorem Kp.back {S : List Addr} {H H' : Hp} {p : Addr} (h : Kp S H H') (n : p ∉ S) (e : H' p = none) : H p = none := by
  cases q : H p with
  | none => rfl
  | some o => rw [h p o n q] at e; cases e
/-- what can be read outside S can be read still -/
structure Kr (S : List Addr) (H H' : Hp) : Prop where
  tup : ∀ {a xs}, a ∉ S → H a = some (.tup xs) → H' a = some (.tup xs)
  lst : ∀ {a xs}, a ∉ S → H a = some (.lst xs) → H' a = some (.lst xs)
  ins : ∀ {a C dx fs}, a ∉ S → H a = some (.ins C dx fs) → H' a = some (.ins C dx fs)
  rd : ∀ {a u}, a ∉ S → Rd H a u → Rd H' a u
theorem Kp.kr {S : List Addr} {H H' : Hp} (h : Kp S H H') : Kr S H H' where
  tup := fun n e => h _ _ n e
  lst := fun n e => h _ _ n e
  ins := fun n e => h _ _ n e
  rd := fun n e => e.imp (fun z => h _ _ n z) fun ⟨o, z⟩ => ⟨o, h _ _ n z⟩
structure Rel (α : Type) where
  rp : List Addr → Hp → V → α → Prop
  kr : ∀ {S H H' v x}, Kr S H H' → rp S H v x → rp S H' v x
  re : ∀ {S T H v x}, (∀ a ∈ T, a ∈ S ∨ H a = none) → rp S H v x → rp T H v x
section
variable {α β γ : Type}
theorem Rel.kp (r : Rel α) {S : List Addr} {H H' : Hp} {v : V} {x : α} (k : Kp S H H') (h : r.rp S H v x) : r.rp S H' v x := r.kr k.kr h
theorem Rel.sub (r : Rel α) {S T : List Addr} {H : Hp} {v : V} {x : α} (s : ∀ a ∈ T, a ∈ S) (h : r.rp S H v x) : r.rp T H v x := r.re (fun a m => .inl (s a m)) h
theorem Rel.new (r : Rel α) {S : List Addr} {H : Hp} {v : V} {x : α} {p : Addr} (n : H p = none) (h : r.rp S H v x) : r.rp (p :: S) H v x :=
  r.re (fun a m => (List.mem_cons.mp m).elim (fun e => .inr (e ▸ n)) .inl) h
/-- two lists, item by item -/
inductive All2 (R : α → β → Prop) : List α → List β → Prop
  | nil : All2 R [] []
  | cons {a b as bs} : R a b → All2 R as bs → All2 R (a :: as) (b :: bs)
theorem All2.len {R : α → β → Prop} {as : List α} {bs : List β} (h : All2 R as bs) : as.length = bs.length := by
  induction h with
  | nil => rfl
  | cons _ _ same => exact congrArg Nat.succ same
theorem All2.imp {R R' : α → β → Prop} (f : ∀ a b, R a b → R' a b) {as : List α} {bs : List β} (h : All2 R as bs) : All2 R' as bs := by
  induction h with
  | nil => exact .nil
  | cons h _ ih => exact .cons (f _ _ h) ih
theorem All2.app {R : α → β → Prop} {as cs : List α} {bs ds : List β} (h : All2 R as bs) (k : All2 R cs ds) : All2 R (as ++ cs) (bs ++ ds) := by
  induction h with
  | nil => exact k
  | cons h _ ih => exact .cons h ih
theorem All2.snoc {R : α → β → Prop} {as : List α} {bs : List β} {a : α} {b : β} (h : All2 R as bs) (k : R a b) : All2 R (as ++ [a]) (bs ++ [b]) := h.app (.cons k .nil)
theorem All2.get {R : α → β → Prop} {as : List α} {bs : List β} (h : All2 R as bs) {i : Nat} {b : β} (e : bs[i]? = some b) : ∃ a, as[i]? = some a ∧ R a b := by
  revert i
  induction h with
  | nil => intro i e; simp at e
  | cons h _ ih =>
    intro i e
    cases i with
    | zero => exact ⟨_, rfl, Option.some.inj e ▸ h⟩
    | succ i => exact ih (by simpa using e)
theorem All2.getl {R : α → β → Prop} {as : List α} {bs : List β} (h : All2 R as bs) {i : Nat} {a : α} (e : as[i]? = some a) : ∃ b, bs[i]? = some b ∧ R a b := by
  revert i
  induction h with
  | nil => intro i e; simp at e
  | cons h _ ih =>
    intro i e
    cases i with
    | zero => exact ⟨_, rfl, Option.some.inj e ▸ h⟩
    | succ i => exact ih (by simpa using e)
theorem All2.take {R : α → β → Prop} {as : List α} {bs : List β} (h : All2 R as bs) (n : Nat) : All2 R (as.take n) (bs.take n) := by
  induction h generalizing n with
  | nil => simp; exact .nil
  | cons h _ ih =>
    cases n with
    | zero => simp; exact .nil
    | succ n => exact .cons h (ih n)
theorem All2.drop {R : α → β → Prop} {as : List α} {bs : List β} (h : All2 R as bs) (n : Nat) : All2 R (as.drop n) (bs.drop n) := by
  induction h generalizing n with
  | nil => simp; exact .nil
  | cons h hs ih =>
    cases n with
    | zero => exact .cons h hs
    | succ n => exact ih n
/-! ### the kinds -/
def rI : Rel Int := ⟨fun _ _ v x => v = .int x, fun _ h => h, fun _ h => h⟩
def rS : Rel Str := ⟨fun _ _ v x => v = .str x, fun _ h => h, fun _ h => h⟩
def rB : Rel Bool := ⟨fun _ _ v x => v = .bl x, fun _ h => h, fun _ h => h⟩
def rN : Rel Unit := ⟨fun _ _ v _ => v = .non, fun _ h => h, fun _ h => h⟩
/-- this very thing -/
def rA (p : Addr) : Rel Unit := ⟨fun _ _ v _ => v = .ref p, fun _ h => h, fun _ h => h⟩
theorem no_re {S T : List Addr} {H : Hp} {a : Addr} {o : HO} (s : ∀ a ∈ T, a ∈ S ∨ H a = none) (n : a ∉ S) (e : H a = some o) : a ∉ T := fun m =>
  (s a m).elim n fun z => by rw [z] at e; cases e
/-- a list -/
def rL (r : Rel α) : Rel (List α) where
  rp := fun S H v l => ∃ a xs, v = .ref a ∧ a ∉ S ∧ H a = some (.lst xs) ∧ All2 (r.rp S H) xs l
  kr := fun k ⟨a, xs, e, n, h, q⟩ => ⟨a, xs, e, n, k.lst n h, q.imp fun _ _ z => r.kr k z⟩
  re := fun s ⟨a, xs, e, n, h, q⟩ => ⟨a, xs, e, no_re s n h, h, q.imp fun _ _ z => r.re s z⟩
/-- what stands of a tuple in the program's text -/
def TxtT (K : PySem.W.Frag) (a : Addr) (xs : List V) : Prop := ∀ H : Hp, SqT K H a xs
/-- a tuple of any length -/
def rT (K : PySem.W.Frag) (r : Rel α) : Rel (List α) where
  rp := fun S H v l => ∃ a xs, v = .ref a ∧ ((a ∉ S ∧ H a = some (.tup xs)) ∨ TxtT K a xs) ∧ All2 (r.rp S H) xs l
  kr := fun k ⟨a, xs, e, h, q⟩ => ⟨a, xs, e, h.imp (fun z => ⟨z.1, k.tup z.1 z.2⟩) id, q.imp fun _ _ z => r.kr k z⟩
  re := fun s ⟨a, xs, e, h, q⟩ => ⟨a, xs, e, h.imp (fun z => ⟨no_re s z.1 z.2, z.2⟩) id, q.imp fun _ _ z => r.re s z⟩
/-- a pair, a triple -/
def rP (r : Rel α) (r' : Rel β) : Rel (α × β) where
  rp := fun S H v x => ∃ a v1 v2, v = .ref a ∧ a ∉ S ∧ H a = some (.tup [v1, v2]) ∧ r.rp S H v1 x.1 ∧ r'.rp S H v2 x.2
  kr := fun k ⟨a, v1, v2, e, n, h, q1, q2⟩ => ⟨a, v1, v2, e, n, k.tup n h, r.kr k q1, r'.kr k q2⟩
  re := fun s ⟨a, v1, v2, e, n, h, q1, q2⟩ => ⟨a, v1, v2, e, no_re s n h, h, r.re s q1, r'.re s q2⟩
def rP3 (r : Rel α) (r' : Rel β) (r'' : Rel γ) : Rel (α × β × γ) where
  rp := fun S H v x => ∃ a v1 v2 v3, v = .ref a ∧ a ∉ S ∧ H a = some (.tup [v1, v2, v3]) ∧ r.rp S H v1 x.1 ∧ r'.rp S H v2 x.2.1 ∧ r''.rp S H v3 x.2.2
  kr := fun k ⟨a, v1, v2, v3, e, n, h, q1, q2, q3⟩ => ⟨a, v1, v2, v3, e, n, k.tup n h, r.kr k q1, r'.kr k q2, r''.kr k q3⟩
  re := fun s ⟨a, v1, v2, v3, e, n, h, q1, q2, q3⟩ => ⟨a, v1, v2, v3, e, no_re s n h, h, r.re s q1, r'.re s q2, r''.re s q3⟩
theorem all_int {S : List Addr} {H : Hp} {xs : List V} {l : List Int} (h : All2 (rI.rp S H) xs l) : xs = l.map V.int := by
  induction h with
  | nil => rfl
  | cons h _ ih => rw [ih, List.map_cons, ← h]
theorem all_str {S : List Addr} {H : Hp} {xs : List V} {l : List Str} (h : All2 (rS.rp S H) xs l) : xs = l.map V.str := by
  induction h with
  | nil => rfl
  | cons h _ ih => rw [ih, List.map_cons, ← h]
theorem all_bl {S : List Addr} {H : Hp} {xs : List V} {l : List Bool} (h : All2 (rB.rp S H) xs l) : xs = l.map V.bl := by
  induction h with
  | nil => rfl
  | cons h _ ih => rw [ih, List.map_cons, ← h]
theorem int_all {S : List Addr} {H : Hp} : ∀ l : List Int, All2 (rI.rp S H) (l.map V.int) l
  | [] => .nil
  | _ :: l => .cons rfl (int_all l)
theorem str_all {S : List Addr} {H : Hp} : ∀ l : List Str, All2 (rS.rp S H) (l.map V.str) l
  | [] => .nil
  | _ :: l => .cons rfl (str_all l)
theorem bl_all {S : List Addr} {H : Hp} : ∀ l : List Bool, All2 (rB.rp S H) (l.map V.bl) l
  | [] => .nil
  | _ :: l => .cons rfl (bl_all l)
end
/-! ### what a call may change beside what it makes -/
structure Eff where
  S : List Addr
  ok : Hp → Prop
  loc : ∀ {H H'}, (∀ a o, a ∈ S → H a = some o → H' a = some o) → ok H → ok H'
  al : ∀ {H}, ok H → ∀ a ∈ S, H a ≠ none
def e0 : Eff := ⟨[], fun _ => True, fun _ h => h, fun _ _ m => by cases m⟩
/-- a list at p that keeps to P -/
def eP (P : List V → Prop) (p : Addr) : Eff where
  S := [p]
  ok := fun H => ∃ xs, P xs ∧ H p = some (.lst xs)
  loc := fun k ⟨xs, hp, e⟩ => ⟨xs, hp, k p _ (by simp) e⟩
  al := fun ⟨xs, _, e⟩ a m => by
    rw [List.mem_singleton.mp m, e]
    exact nofun
def Go (W : Eff) (H H' : Hp) : Prop := Kp W.S H H' ∧ W.ok H'
structure Sc (W : Eff) (S : List Addr) (H : Hp) : Prop where
  sub : ∀ a ∈ W.S, a ∈ S
  al : ∀ a ∈ S, H a ≠ none
  ok : W.ok H
section
variable {W : Eff} {S : List Addr} {H H1 H2 : Hp}
theorem Go.trans (a : Go W H H1) (b : Go W H1 H2) : Go W H H2 := ⟨a.1.trans b.1, b.2⟩
theorem Sc.here (c : Sc W S H) : Go W H H := ⟨Kp.refl, c.ok⟩
theorem Sc.go (c : Sc W S H) (g : Go W H H1) : Sc W S H1 where
  sub := c.sub
  al := fun a m => by
    by_cases q : a ∈ W.S
    · exact W.al g.2 a q
    · cases e : H a with
      | none => exact absurd e (c.al a m)
      | some o => rw [g.1 a o q e]; exact nofun
  ok := g.2
theorem Sc.kp (c : Sc W S H) (g : Go W H H1) : Kp S H H1 := g.1.wk c.sub
theorem Sc.free (c : Sc W S H) {p : Addr} (n : H p = none) : p ∉ S := fun m => c.al p m n
theorem Sc.new (c : Sc W S H) {p : Addr} (n : H p = none) {o : HO} : Go W H (upd H p o) :=
  ⟨Kp.new n, W.loc (fun a u m e => by rw [upd_ne (fun z => by rw [z, n] at e; cases e)]; exact e) c.ok⟩
/-- p is one of what may change from here on -/
theorem Sc.cons (c : Sc W S H) {p : Addr} (e : H p ≠ none) : Sc W (p :: S) H :=
  ⟨fun a m => List.mem_cons_of_mem _ (c.sub a m), fun a m => (List.mem_cons.mp m).elim (fun z => z ▸ e) (c.al a), c.ok⟩
theorem Sc.tail {p : Addr} (c : Sc W (p :: S) H) (s : ∀ a ∈ W.S, a ∈ S) : Sc W S H := ⟨s, fun a m => c.al a (List.mem_cons_of_mem _ m), c.ok⟩
theorem Sc.of0 (c : Sc W S H) : Sc e0 S H := ⟨fun a m => (by cases m), c.al, trivial⟩
theorem Sc.up0 (c : Sc W S H) (g : Go e0 H H1) : Go W H H1 := ⟨g.1.wk (fun a m => by cases m), W.loc (fun a o _ e => g.1 a o (fun m => by cases m) e) c.ok⟩
/-- a write to what may change by statements only -/
theorem Sc.put (c : Sc W S H) {m : Addr} {o : HO} (hm : m ∈ S) (hw : m ∉ W.S) : Sc W S (upd H m o) where
  sub := c.sub
  al := fun a q => by
    by_cases z : a = m
    · rw [z, upd_same]; exact nofun
    · rw [upd_ne z]; exact c.al a q
  ok := W.loc (fun a u q e => upd_at (fun z => hw (by rw [← z]; exact q)) e) c.ok
end
/-! ### what an expression gives -/
def Ev (W : Eff) (S : List Addr) (te : TE) (σ : L2.St) (H : Hp) {α : Type} (r : Rel α) (Φ : α → Prop) : Prop :=
  ∀ H1, Go W H H1 → Sc W S H1 → ∀ Q : VK, (∀ v x H2, Go W H1 H2 → r.rp S H2 v x → Φ x → Q v H2) → te σ H1 Q
def EvT (W : Eff) (S : List Addr) (tt : TT) (σ : L2.St) (H : Hp) (Φ : Bool → Prop) : Prop :=
  ∀ H1, Go W H H1 → Sc W S H1 → ∀ Q : Bool → Hp → Prop, (∀ b H2, Go W H1 H2 → Φ b → Q b H2) → tt σ H1 Q
def EvA (W : Eff) (S : List Addr) (ta : TA) (σ : L2.St) (H : Hp) (P : List V → Hp → Prop) : Prop :=
  ∀ H1, Go W H H1 → Sc W S H1 → ∀ Q : List V → Hp → Prop, (∀ vs H2, Go W H1 H2 → P vs H2 → Q vs H2) → ta σ H1 Q
section
variable {W : Eff} {S : List Addr} {σ : L2.St} {H H0 : Hp} {α β γ : Type} {r : Rel α} {r' : Rel β} {Φ : α → Prop} {te ta tb tc : TE} {tt tu : TT} {K : PySem.W.Frag}
theorem Ev.mono {Ψ : α → Prop} (h : Ev W S te σ H r Φ) (f : ∀ x, Φ x → Ψ x) : Ev W S te σ H r Ψ := fun H1 g c Q q => h H1 g c Q fun v x H2 g2 hv hx => q v x H2 g2 hv (f x hx)
theorem EvT.mono {Φ Ψ : Bool → Prop} (h : EvT W S tt σ H Φ) (f : ∀ x, Φ x → Ψ x) : EvT W S tt σ H Ψ := fun H1 g c Q q => h H1 g c Q fun b H2 g2 hx => q b H2 g2 (f b hx)
/-- behind what was done -/
theorem Ev.aft (h : Ev W S te σ H r Φ) (g : Go W H H0) : Ev W S te σ H0 r Φ := fun H1 g1 c Q q => h H1 (g.trans g1) c Q q
theorem ev_var {i : Nat} {v : V} {x : α} (e : σ[i]? = some (some v)) (h : r.rp S H v x) : Ev W S (tVar i) σ H r (· = x) := fun H1 g c Q q =>
  ⟨v, e, q v x H1 c.here (r.kp (g.1.wk c.sub) h) rfl⟩
theorem ev_int {n : Int} : Ev W S (tC (.int n)) σ H rI (· = n) := fun H1 _ c Q q => q _ n H1 c.here rfl rfl
theorem ev_str {z : Str} : Ev W S (tC (.str z)) σ H rS (· = z) := fun H1 _ c Q q => q _ z H1 c.here rfl rfl
theorem ev_bl {b : Bool} : Ev W S (tC (.bl b)) σ H rB (· = b) := fun H1 _ c Q q => q _ b H1 c.here rfl rfl
theorem ev_non : Ev W S (tC .non) σ H rN (fun _ => True) := fun H1 _ c Q q => q _ () H1 c.here rfl trivial
/-- two operands -/
theorem ev_2 {Ψ : β → Prop} {Θ : γ → Prop} {r'' : Rel γ} {op : R2} (ha : Ev W S ta σ H r Φ) (hb : Ev W S tb σ H r' Ψ)
    (f : ∀ H' v u x y, Sc W S H' → r.rp S H' v x → r'.rp S H' u y → Φ x → Ψ y → ∀ Q : VK, (∀ z c H'', Go W H' H'' → r''.rp S H'' z c → Θ c → Q z H'') → op v u H' Q) : Ev W S (tOp op ta tb) σ H r'' Θ := by
  intro H1 g c Q q
  refine ha H1 g c _ fun v x H2 g2 hv hx => ?_
  have c2 := c.go g2
  refine hb H2 (g.trans g2) c2 _ fun u y H3 g3 hu hy => ?_
  exact f H3 v u x y (c2.go g3) (r.kp (c2.kp g3) hv) hu hx hy Q fun z w H4 g4 hz hw => q z w H4 ((g2.trans g3).trans g4) hz hw
theorem ev_1 {Θ : γ → Prop} {r'' : Rel γ} {op : V → Hp → VK → Prop} (ha : Ev W S ta σ H r Φ)
    (f : ∀ H' v x, Sc W S H' → r.rp S H' v x → Φ x → ∀ Q : VK, (∀ z c H'', Go W H' H'' → r''.rp S H'' z c → Θ c → Q z H'') → op v H' Q) : Ev W S (tUn op ta) σ H r'' Θ := by
  intro H1 g c Q q
  refine ha H1 g c _ fun v x H2 g2 hv hx => ?_
  exact f H2 v x (c.go g2) hv hx Q fun z w H4 g4 hz hw => q z w H4 (g2.trans g4) hz hw
/-- a number of two numbers -/
theorem ev_I0 {Φ Ψ : Int → Prop} {f : Int → Int → Int} (ha : Ev W S ta σ H rI Φ) (hb : Ev W S tb σ H rI Ψ) : Ev W S (tOp (rI0 fun i j => .int (f i j)) ta tb) σ H rI (fun z => ∃ x y, Φ x ∧ Ψ y ∧ z = f x y) :=
  ev_2 ha hb fun H' v u x y c hv hu hx hy Q q => ⟨x, y, hv, hu, q _ _ H' c.here rfl ⟨x, y, hx, hy, rfl⟩⟩
theorem ev_add {Φ Ψ : Int → Prop} (ha : Ev W S ta σ H rI Φ) (hb : Ev W S tb σ H rI Ψ) : Ev W S (tOp L2.rAdd ta tb) σ H rI (fun z => ∃ x y, Φ x ∧ Ψ y ∧ z = x + y) :=
  ev_2 ha hb fun H' v u x y c hv hu hx hy Q q => ⟨x, y, hv, hu, q _ _ H' c.here rfl ⟨x, y, hx, hy, rfl⟩⟩
theorem ev_sub {Φ Ψ : Int → Prop} (ha : Ev W S ta σ H rI Φ) (hb : Ev W S tb σ H rI Ψ) : Ev W S (tOp L2.rSub ta tb) σ H rI (fun z => ∃ x y, Φ x ∧ Ψ y ∧ z = x - y) :=
  ev_2 ha hb fun H' v u x y c hv hu hx hy Q q => ⟨x, y, hv, hu, q _ _ H' c.here rfl ⟨x, y, hx, hy, rfl⟩⟩
theorem ev_I {Φ Ψ : Int → Prop} {C : Int → Int → Prop} {f : Int → Int → Int} (ha : Ev W S ta σ H rI Φ) (hb : Ev W S tb σ H rI Ψ) (hc : ∀ x y, Φ x → Ψ y → C x y) :
    Ev W S (tOp (L2.rI C fun i j => .int (f i j)) ta tb) σ H rI (fun z => ∃ x y, Φ x ∧ Ψ y ∧ z = f x y) :=
  ev_2 ha hb fun H' v u x y c hv hu hx hy Q q => ⟨x, y, hv, hu, hc x y hx hy, q _ _ H' c.here rfl ⟨x, y, hx, hy, rfl⟩⟩
/-- a comparison of two numbers -/
theorem ev_cmp {Φ Ψ : Int → Prop} {f : Int → Int → Bool} (ha : Ev W S ta σ H rI Φ) (hb : Ev W S tb σ H rI Ψ) : Ev W S (tOp (rI0 fun i j => .bl (f i j)) ta tb) σ H rB (fun z => ∃ x y, Φ x ∧ Ψ y ∧ z = f x y) :=
  ev_2 ha hb fun H' v u x y c hv hu hx hy Q q => ⟨x, y, hv, hu, q _ _ H' c.here rfl ⟨x, y, hx, hy, rfl⟩⟩
/-! ### tests -/
theorem et_test {Φ : Bool → Prop} (h : Ev W S te σ H rB Φ) : EvT W S (tTest te) σ H Φ := fun H1 g c Q q => h H1 g c _ fun v x H2 g2 hv hx => ⟨x, hv, q x H2 g2 hx⟩
theorem et_B {Φ : Bool → Prop} (h : Ev W S te σ H rB Φ) : EvT W S (tB te) σ H Φ := fun H1 g c Q q => h H1 g c _ fun v x H2 g2 hv hx => ⟨x, hv, q x H2 g2 hx⟩
theorem et_not {Φ : Bool → Prop} (h : EvT W S tt σ H Φ) : EvT W S (tNot tt) σ H (fun b => Φ (!b)) := fun H1 g c Q q => h H1 g c _ fun b H2 g2 hx => q _ H2 g2 (by show Φ (!!b); rw [Bool.not_not]; exact hx)
theorem et_and {Φ Ψ : Bool → Prop} (h : EvT W S tt σ H Φ) (k : Φ true → EvT W S tu σ H Ψ) : EvT W S (tAnd tt tu) σ H (fun b => (Φ false ∧ b = false) ∨ (Φ true ∧ Ψ b)) := by
  intro H1 g c Q q
  refine h H1 g c _ fun b H2 g2 hb => ?_
  cases b with
  | false => exact iteF (q _ H2 g2 (.inl ⟨hb, rfl⟩))
  | true => exact iteT (k hb H2 (g.trans g2) (c.go g2) _ fun b H3 g3 hb3 => q b H3 (g2.trans g3) (.inr ⟨hb, hb3⟩))
theorem et_or {Φ Ψ : Bool → Prop} (h : EvT W S tt σ H Φ) (k : Φ false → EvT W S tu σ H Ψ) : EvT W S (tOr tt tu) σ H (fun b => (Φ true ∧ b = true) ∨ (Φ false ∧ Ψ b)) := by
  intro H1 g c Q q
  refine h H1 g c _ fun b H2 g2 hb => ?_
  cases b with
  | true => exact iteT (q _ H2 g2 (.inl ⟨hb, rfl⟩))
  | false => exact iteF (k hb H2 (g.trans g2) (c.go g2) _ fun b H3 g3 hb3 => q b H3 (g2.trans g3) (.inr ⟨hb, hb3⟩))
/-! ### arguments, displays -/
theorem ea_nil : EvA W S tNil σ H (fun vs _ => vs = []) := fun H1 _ c Q q => q [] H1 c.here rfl
theorem ea_cons {P : List V → Hp → Prop} {tr : TA} (h : Ev W S te σ H r Φ) (k : EvA W S tr σ H P) : EvA W S (tCons te tr) σ H (fun vs H' => ∃ v us x, vs = v :: us ∧ r.rp S H' v x ∧ Φ x ∧ P us H') := by
  intro H1 g c Q q
  refine h H1 g c _ fun v x H2 g2 hv hx => ?_
  have c2 := c.go g2
  exact k H2 (g.trans g2) c2 _ fun us H3 g3 hu => q _ H3 (g2.trans g3) ⟨v, us, x, rfl, r.kp (c2.kp g3) hv, hx, hu⟩
theorem ev_pair {Ψ : β → Prop} (h : Ev W S ta σ H r Φ) (k : Ev W S tb σ H r' Ψ) : Ev W S (tTup (tCons ta (tCons tb tNil))) σ H (rP r r') (fun z => Φ z.1 ∧ Ψ z.2) := by
  intro H1 g c Q q
  refine ea_cons h (ea_cons k ea_nil) H1 g c _ fun vs H2 g2 ⟨v, us, x, e, hv, hx, u, ws, y, e2, hu, hy, e3⟩ => ?_
  subst e e2 e3
  refine ⟨by show 2 ≤ sizeLine; decide, fun p np => ?_⟩
  have c2 := c.go g2
  have g3 := c2.new np (o := .tup [v, u])
  exact q _ (x, y) _ (g2.trans g3) ⟨p, v, u, rfl, c2.free np, upd_same, r.kp (c2.kp g3) hv, r'.kp (c2.kp g3) hu⟩ ⟨hx, hy⟩
theorem ev_triple {r'' : Rel γ} {Ψ : β → Prop} {Θ : γ → Prop} (h : Ev W S ta σ H r Φ) (k : Ev W S tb σ H r' Ψ) (l : Ev W S tc σ H r'' Θ) :
    Ev W S (tTup (tCons ta (tCons tb (tCons tc tNil)))) σ H (rP3 r r' r'') (fun z => Φ z.1 ∧ Ψ z.2.1 ∧ Θ z.2.2) := by
  intro H1 g c Q q
  refine ea_cons h (ea_cons k (ea_cons l ea_nil)) H1 g c _ fun vs H2 g2 ⟨v, us, x, e, hv, hx, u, ws, y, e2, hu, hy, t, ys, z, e3, ht, hz, e4⟩ => ?_
  subst e e2 e3 e4
  refine ⟨by show 3 ≤ sizeLine; decide, fun p np => ?_⟩
  have c2 := c.go g2
  have g3 := c2.new np (o := .tup [v, u, t])
  exact q _ (x, y, z) _ (g2.trans g3) ⟨p, v, u, t, rfl, c2.free np, upd_same, r.kp (c2.kp g3) hv, r'.kp (c2.kp g3) hu, r''.kp (c2.kp g3) ht⟩ ⟨hx, hy, hz⟩
/-- items of one kind -/
inductive EvI (W : Eff) (S : List Addr) (σ : L2.St) (H : Hp) (r : Rel α) : TA → (List α → Prop) → Prop
  | nil : EvI W S σ H r tNil (· = [])
  | cons {te : TE} {tr : TA} {Φ : α → Prop} {Ψ : List α → Prop} : Ev W S te σ H r Φ → EvI W S σ H r tr Ψ → EvI W S σ H r (tCons te tr) (fun l => ∃ x m, l = x :: m ∧ Φ x ∧ Ψ m)
theorem EvI.go {tr : TA} {Ψ : List α → Prop} (h : EvI W S σ H r tr Ψ) : EvA W S tr σ H (fun vs H' => ∃ l, All2 (r.rp S H') vs l ∧ Ψ l) := by
  induction h with
  | nil => exact fun H1 _ c Q q => q [] H1 c.here ⟨[], .nil, rfl⟩
  | cons h _ ih =>
    intro H1 g c Q q
    refine ea_cons h ih H1 g c _ fun vs H2 g2 ⟨v, us, x, e, hv, hx, l, hl, hp⟩ => q _ H2 g2 ?_
    subst e
    exact ⟨x :: l, .cons hv hl, x, l, rfl, hx, hp⟩
theorem ev_list {tr : TA} {Ψ : List α → Prop} (h : EvI W S σ H r tr Ψ) (n : ∀ l, Ψ l → l.length ≤ 100000) : Ev W S (tLst tr) σ H (rL r) Ψ := by
  intro H1 g c Q q
  refine h.go H1 g c _ fun vs H2 g2 ⟨l, hl, hp⟩ => ⟨?_, fun p np => ?_⟩
  · rw [hl.len]; exact Nat.le_trans (n l hp) (by decide)
  have c2 := c.go g2
  have g3 := c2.new np (o := .lst vs)
  exact q _ l _ (g2.trans g3) ⟨p, vs, rfl, c2.free np, upd_same, hl.imp fun _ _ z => r.kp (c2.kp g3) z⟩ hp
theorem ev_tuple {tr : TA} {Ψ : List α → Prop} (h : EvI W S σ H r tr Ψ) (n : ∀ l, Ψ l → l.length ≤ 100000) : Ev W S (tTup tr) σ H (rT K r) Ψ := by
  intro H1 g c Q q
  refine h.go H1 g c _ fun vs H2 g2 ⟨l, hl, hp⟩ => ⟨?_, fun p np => ?_⟩
  · rw [hl.len]; exact Nat.le_trans (n l hp) (by decide)
  have c2 := c.go g2
  have g3 := c2.new np (o := .tup vs)
  exact q _ l _ (g2.trans g3) ⟨p, vs, rfl, .inl ⟨c2.free np, upd_same⟩, hl.imp fun _ _ z => r.kp (c2.kp g3) z⟩ hp
end
end Gr
namespace Gr
open PySem PySem.Spec PyProof.Rows L2 Gd
section
variable {W : Eff} {S : List Addr} {σ : L2.St} {H H0 : Hp} {α β γ : Type} {r : Rel α} {r' : Rel β} {Φ : α → Prop} {te ta tb tc : TE} {tt tu : TT} {K : PySem.W.Frag}
/-! ### reading where own things may be read too -/
def Flat (r : Rel α) : Prop := ∀ S T H H' v x, r.rp S H v x → r.rp T H' v x
theorem flat_I : Flat rI := fun _ _ _ _ _ _ h => h
theorem flat_S : Flat rS := fun _ _ _ _ _ _ h => h
theorem flat_B : Flat rB := fun _ _ _ _ _ _ h => h
theorem Sc.low (c : Sc W S H) : Sc W W.S H := ⟨fun _ m => m, fun a m => c.al a (c.sub a m), c.ok⟩
theorem ev_low (f : Flat r) (h : Ev W W.S te σ H r Φ) : Ev W S te σ H r Φ := fun H1 g c Q q => h H1 g c.low Q fun v x H2 g2 hv hx => q v x H2 g2 (f _ _ _ _ _ _ hv) hx
theorem et_low {Φ : Bool → Prop} (h : EvT W W.S tt σ H Φ) : EvT W S tt σ H Φ := fun H1 g c Q q => h H1 g c.low Q q
/-- a name, with what is known of it -/
theorem ev_varP {i : Nat} {v : V} {x : α} (e : σ[i]? = some (some v)) (h : r.rp S H v x) (hx : Φ x) : Ev W S (tVar i) σ H r Φ := (ev_var e h).mono fun _ z => z ▸ hx
/-! ### built-in calls -/
theorem ev_cb {rc : List V → Hp → VK → Prop} {tr : TA} {P : List V → Hp → Prop} {Θ : α → Prop} (h : EvA W S tr σ H P)
    (f : ∀ H' vs, Sc W S H' → P vs H' → ∀ Q : VK, (∀ z c H'', Go W H' H'' → r.rp S H'' z c → Θ c → Q z H'') → rc vs H' Q) : Ev W S (tCB rc tr) σ H r Θ := by
  intro H1 g c Q q
  exact h H1 g c _ fun vs H2 g2 hp => f H2 vs (c.go g2) hp Q fun z w H3 g3 hz hw => q z w H3 (g2.trans g3) hz hw
theorem ev_cb1 {rc : List V → Hp → VK → Prop} {Θ : β → Prop} (h : Ev W S ta σ H r Φ)
    (f : ∀ H' v x, Sc W S H' → r.rp S H' v x → Φ x → ∀ Q : VK, (∀ z c H'', Go W H' H'' → r'.rp S H'' z c → Θ c → Q z H'') → rc [v] H' Q) : Ev W S (tCB rc (tCons ta tNil)) σ H r' Θ :=
  ev_cb (ea_cons h ea_nil) fun H' vs c ⟨v, us, x, e, hv, hx, e2⟩ Q q => by
    subst e e2
    exact f H' v x c hv hx Q q
theorem ev_cb2 {r'' : Rel γ} {rc : List V → Hp → VK → Prop} {Ψ : β → Prop} {Θ : γ → Prop} (h : Ev W S ta σ H r Φ) (k : Ev W S tb σ H r' Ψ)
    (f : ∀ H' v u x y, Sc W S H' → r.rp S H' v x → r'.rp S H' u y → Φ x → Ψ y → ∀ Q : VK, (∀ z c H'', Go W H' H'' → r''.rp S H'' z c → Θ c → Q z H'') → rc [v, u] H' Q) : Ev W S (tCB rc (tCons ta (tCons tb tNil))) σ H r'' Θ :=
  ev_cb (ea_cons h (ea_cons k ea_nil)) fun H' vs c ⟨v, us, x, e, hv, hx, u, ws, y, e2, hu, hy, e3⟩ Q q => by
    subst e e2 e3
    exact f H' v u x y c hv hu hx hy Q q
/-- tuples and lists as they are read -/
theorem sqt_of {S : List Addr} {H : Hp} {a : Addr} {xs : List V} (h : (a ∉ S ∧ H a = some (.tup xs)) ∨ TxtT K a xs) : SqT K H a xs := h.elim (fun z => SqT.of z.2) fun z => z H
def rLenS (K : PySem.W.Frag) : List V → Hp → VK → Prop := fun us H Q => ∃ a xs, us = [.ref a] ∧ (SqL K H a xs ∨ SqT K H a xs) ∧ Q (.int xs.length) H
theorem call_lenS {X : Cx} : CallR X (.builtin "len") (rLenS X.K) := call_len_seq
def rLenZ : List V → Hp → VK → Prop := fun xs H Q => ∃ z : Str, xs = [.str z] ∧ z.length ≤ sizeLine ∧ Q (.int z.length) H
theorem call_lenZ {X : Cx} : CallR X (.builtin "len") rLenZ := call_len_str
def rTupleOf (K : PySem.W.Frag) : List V → Hp → VK → Prop := fun xs H Q => ∃ p ys, xs = [.ref p] ∧ ((SqL K H p ys ∧ ∀ l, H l = none → Q (.ref l) (upd H l (.tup ys))) ∨ (SqT K H p ys ∧ Q (.ref p) H))
theorem call_tupleOf {X : Cx} : CallR X (.type "tuple") (rTupleOf X.K) := call_tuple_of
def rListOf (K : PySem.W.Frag) : List V → Hp → VK → Prop := fun xs H Q => ∃ p ys, xs = [.ref p] ∧ (SqL K H p ys ∨ SqT K H p ys) ∧ ∀ l, H l = none → Q (.ref l) (upd H l (.lst ys))
theorem call_listOf {X : Cx} : CallR X (.type "list") (rListOf X.K) := call_list_of
def rMax2 : List V → Hp → VK → Prop := fun us H Q => ∃ i j, us = [.int i, .int j] ∧ Q (.int (if j > i then j else i)) H
theorem call_maxI {X : Cx} (hc : X.calm = true) : CallR X (.builtin "max") rMax2 := call_max2 hc
def rMin2 : List V → Hp → VK → Prop := fun xs H Q => ∃ i j, xs = [.int i, .int j] ∧ Q (.int (if j < i then j else i)) H
theorem call_minI {X : Cx} (hc : X.calm = true) : CallR X (.builtin "min") rMin2 := call_min2 hc
theorem ev_lenL {Φ : List α → Prop} (h : Ev W S ta σ H (rL r) Φ) : Ev W S (tCB (rLenS K) (tCons ta tNil)) σ H rI (fun n => ∃ l, Φ l ∧ n = (l.length : Int)) :=
  ev_cb1 h fun H' v l c ⟨a, xs, e, _, ha, al⟩ hl Q q => ⟨a, xs, by rw [e], .inl (SqL.of ha), q _ _ H' c.here rfl ⟨l, hl, by rw [al.len]⟩⟩
theorem ev_lenT {Φ : List α → Prop} (h : Ev W S ta σ H (rT K r) Φ) : Ev W S (tCB (rLenS K) (tCons ta tNil)) σ H rI (fun n => ∃ l, Φ l ∧ n = (l.length : Int)) :=
  ev_cb1 h fun H' v l c ⟨a, xs, e, ha, al⟩ hl Q q => ⟨a, xs, by rw [e], .inr (sqt_of ha), q _ _ H' c.here rfl ⟨l, hl, by rw [al.len]⟩⟩
theorem ev_lenZ {Φ : Str → Prop} (h : Ev W S ta σ H rS Φ) (n : ∀ z, Φ z → z.length ≤ 100000) : Ev W S (tCB rLenZ (tCons ta tNil)) σ H rI (fun n => ∃ z, Φ z ∧ n = (z.length : Int)) :=
  ev_cb1 h fun H' v z c e hz Q q => ⟨z, by rw [e], Nat.le_trans (n z hz) (by decide), q _ _ H' c.here rfl ⟨z, hz, rfl⟩⟩
theorem ev_tupleL {Φ : List α → Prop} (h : Ev W S ta σ H (rL r) Φ) : Ev W S (tCB (rTupleOf K) (tCons ta tNil)) σ H (rT K r) Φ :=
  ev_cb1 h fun H' v l c ⟨a, xs, e, _, ha, al⟩ hl Q q => ⟨a, xs, by rw [e], .inl ⟨SqL.of ha, fun p np => by
    have g := c.new np (o := .tup xs)
    exact q _ l _ g ⟨p, xs, rfl, .inl ⟨c.free np, upd_same⟩, al.imp fun _ _ z => r.kp (c.kp g) z⟩ hl⟩⟩
theorem ev_listT {Φ : List α → Prop} (h : Ev W S ta σ H (rT K r) Φ) : Ev W S (tCB (rListOf K) (tCons ta tNil)) σ H (rL r) Φ :=
  ev_cb1 h fun H' v l c ⟨a, xs, e, ha, al⟩ hl Q q => ⟨a, xs, by rw [e], .inr (sqt_of ha), fun p np => by
    have g := c.new np (o := .lst xs)
    exact q _ l _ g ⟨p, xs, rfl, c.free np, upd_same, al.imp fun _ _ z => r.kp (c.kp g) z⟩ hl⟩
theorem ev_max {Φ Ψ : Int → Prop} (h : Ev W S ta σ H rI Φ) (k : Ev W S tb σ H rI Ψ) : Ev W S (tCB rMax2 (tCons ta (tCons tb tNil))) σ H rI (fun z => ∃ x y, Φ x ∧ Ψ y ∧ z = if y > x then y else x) :=
  ev_cb2 h k fun H' v u x y c hv hu hx hy Q q => ⟨x, y, by rw [hv, hu], q _ _ H' c.here rfl ⟨x, y, hx, hy, rfl⟩⟩
theorem ev_min {Φ Ψ : Int → Prop} (h : Ev W S ta σ H rI Φ) (k : Ev W S tb σ H rI Ψ) : Ev W S (tCB rMin2 (tCons ta (tCons tb tNil))) σ H rI (fun z => ∃ x y, Φ x ∧ Ψ y ∧ z = if y < x then y else x) :=
  ev_cb2 h k fun H' v u x y c hv hu hx hy Q q => ⟨x, y, by rw [hv, hu], q _ _ H' c.here rfl ⟨x, y, hx, hy, rfl⟩⟩
/-! ### items and slices -/
theorem atI_of {l : List α} {i : Int} {x : α} (h : 0 ≤ i) (e : l[i.toNat]? = some x) : atI l i = some x := by
  obtain ⟨n, hn⟩ := Int.eq_ofNat_of_zero_le h
  subst hn
  exact atI_nat (by simpa using e)
theorem ev_ixL {Φ : List α → Prop} {Ψ : Int → Prop} (h : Ev W S ta σ H (rL r) Φ) (k : Ev W S tb σ H rI Ψ) (n : ∀ l i, Φ l → Ψ i → 0 ≤ i ∧ i < l.length) :
    Ev W S (tOp (rIxL K) ta tb) σ H r (fun x => ∃ l i, Φ l ∧ Ψ i ∧ 0 ≤ i ∧ l[i.toNat]? = some x) := by
  refine ev_2 h k fun H' v u l i c ⟨a, xs, e, _, ha, al⟩ hu hl hi Q q => ?_
  obtain ⟨n0, n1⟩ := n l i hl hi
  have hx : i.toNat < l.length := by omega
  obtain ⟨w, hw, rw_⟩ := al.get (List.getElem?_eq_getElem hx)
  exact ⟨a, xs, i, w, e, hu, SqL.of ha, atI_of n0 hw, q w _ H' c.here rw_ ⟨l, i, hl, hi, n0, List.getElem?_eq_getElem hx⟩⟩
theorem ev_ixT {Φ : List α → Prop} {Ψ : Int → Prop} (h : Ev W S ta σ H (rT K r) Φ) (k : Ev W S tb σ H rI Ψ) (n : ∀ l i, Φ l → Ψ i → 0 ≤ i ∧ i < l.length) :
    Ev W S (tOp (rIxT K) ta tb) σ H r (fun x => ∃ l i, Φ l ∧ Ψ i ∧ 0 ≤ i ∧ l[i.toNat]? = some x) := by
  refine ev_2 h k fun H' v u l i c ⟨a, xs, e, ha, al⟩ hu hl hi Q q => ?_
  obtain ⟨n0, n1⟩ := n l i hl hi
  have hx : i.toNat < l.length := by omega
  obtain ⟨w, hw, rw_⟩ := al.get (List.getElem?_eq_getElem hx)
  exact ⟨a, xs, i, w, e, hu, sqt_of ha, atI_of n0 hw, q w _ H' c.here rw_ ⟨l, i, hl, hi, n0, List.getElem?_eq_getElem hx⟩⟩
/-- the last item -/
theorem ev_lastL {Φ : List α → Prop} (h : Ev W S ta σ H (rL r) Φ) (k : Ev W S tb σ H rI (· = -1)) (n : ∀ l, Φ l → l ≠ []) : Ev W S (tOp (rIxL K) ta tb) σ H r (fun x => ∃ l, Φ (l ++ [x])) := by
  refine ev_2 h k fun H' v u l i c ⟨a, xs, e, _, ha, al⟩ hu hl hi Q q => ?_
  obtain ⟨x, m, em⟩ : ∃ x m, l = m ++ [x] := ⟨_, _, (List.dropLast_concat_getLast (n l hl)).symm⟩
  subst em hi
  have e2 : xs.length = m.length + 1 := by rw [al.len, List.length_append]; rfl
  have ne : xs ≠ [] := fun z => by rw [z] at e2; simp at e2
  obtain ⟨w, ys, ey⟩ : ∃ w ys, xs = ys ++ [w] := ⟨_, _, (List.dropLast_concat_getLast ne).symm⟩
  subst ey
  obtain ⟨b, hb, rb⟩ := al.getl (i := ys.length) (a := w) (by simp)
  have e3 : ys.length = m.length := by simpa using e2
  rw [e3] at hb
  have : b = x := by simpa using hb.symm
  subst this
  exact ⟨a, ys ++ [w], -1, w, e, hu, SqL.of ha, atI_last ys w, q w _ H' c.here rb ⟨m, hl⟩⟩
/-- the first, the second of a pair; those of a triple -/
theorem ev_fst {Φ : α × β → Prop} (h : Ev W S ta σ H (rP r r') Φ) (k : Ev W S tb σ H rI (· = 0)) : Ev W S (tOp (rIxT K) ta tb) σ H r (fun x => ∃ y, Φ (x, y)) :=
  ev_2 h k fun H' v u x i c ⟨a, v1, v2, e, _, ha, h1, h2⟩ hu hx hi Q q => ⟨a, [v1, v2], 0, v1, e, by rw [hu, hi], SqT.of ha, atI_nat (j := 0) rfl, q v1 _ H' c.here h1 ⟨_, hx⟩⟩
theorem ev_snd {Φ : α × β → Prop} (h : Ev W S ta σ H (rP r r') Φ) (k : Ev W S tb σ H rI (· = 1)) : Ev W S (tOp (rIxT K) ta tb) σ H r' (fun y => ∃ x, Φ (x, y)) :=
  ev_2 h k fun H' v u x i c ⟨a, v1, v2, e, _, ha, h1, h2⟩ hu hx hi Q q => ⟨a, [v1, v2], 1, v2, e, by rw [hu, hi], SqT.of ha, atI_nat (j := 1) rfl, q v2 _ H' c.here h2 ⟨_, hx⟩⟩
/-- the signs of a text -/
theorem ev_ixZ {Φ : Str → Prop} {Ψ : Int → Prop} (h : Ev W S ta σ H rS Φ) (k : Ev W S tb σ H rI Ψ) (n : ∀ z i, Φ z → Ψ i → 0 ≤ i ∧ i < z.length ∧ z.length ≤ 100000) :
    Ev W S (tOp rIxS ta tb) σ H rS (fun x => ∃ z i c, Φ z ∧ Ψ i ∧ 0 ≤ i ∧ z.cps.toList[i.toNat]? = some c ∧ x = ⟨#[c]⟩) := by
  refine ev_2 h k fun H' v u z i c hv hu hz hi Q q => ?_
  obtain ⟨n0, n1, n2⟩ := n z i hz hi
  have hx : i.toNat < z.cps.toList.length := by
    show i.toNat < z.length
    omega
  exact ⟨z, i, _, hv, hu, Nat.le_trans n2 (by decide), atI_of n0 (List.getElem?_eq_getElem hx), q _ _ H' c.here rfl ⟨z, i, _, hz, hi, n0, List.getElem?_eq_getElem hx, rfl⟩⟩
def EvO (W : Eff) (S : List Addr) (to : TO) (σ : L2.St) (H : Hp) (Φ : Option Int → Prop) : Prop :=
  ∀ H1, Go W H H1 → Sc W S H1 → ∀ Q : Option Int → Hp → Prop, (∀ o H2, Go W H1 H2 → Φ o → Q o H2) → to σ H1 Q
theorem eo_no : EvO W S tNoPart σ H (· = none) := fun H1 _ c Q q => q none H1 c.here rfl
theorem eo_at {Φ : Int → Prop} (h : Ev W S te σ H rI Φ) : EvO W S (tPart te) σ H (fun o => ∃ i, o = some i ∧ Φ i) := fun H1 g c Q q => h H1 g c _ fun v x H2 g2 hv hx => ⟨x, hv, q _ H2 g2 ⟨x, rfl, hx⟩⟩
/-- l[lo:hi] -/
def cut (l : List α) (lo hi : Option Int) : List α := (l.drop (HT.sIx l.length 0 lo)).take (HT.sIx l.length l.length hi - HT.sIx l.length 0 lo)
theorem cut_all2 {R : V → α → Prop} {xs : List V} {l : List α} (h : All2 R xs l) (lo hi : Option Int) : All2 R (cutV xs lo hi) (cut l lo hi) := by
  unfold cutV cut
  rw [h.len]
  exact (h.drop _).take _
theorem cut_len (l : List α) (lo hi : Option Int) : (cut l lo hi).length ≤ l.length := by
  unfold cut
  have := List.length_take_le (HT.sIx l.length l.length hi - HT.sIx l.length 0 lo) (l.drop (HT.sIx l.length 0 lo))
  have := List.length_take_le' (HT.sIx l.length l.length hi - HT.sIx l.length 0 lo) (l.drop (HT.sIx l.length 0 lo))
  have := List.length_drop (i := HT.sIx l.length 0 lo) (l := l)
  omega
theorem cut_to (l : List α) (n : Nat) : cut l none (some (n : Int)) = l.take n := by
  unfold cut
  rw [HT.sIx_none, HT.sIx_nat, Nat.sub_zero, List.drop_zero]
  rcases Nat.le_total n l.length with h | h
  · rw [Nat.min_eq_left h]
  · rw [Nat.min_eq_right h, List.take_length, List.take_of_length_le h]
theorem cut_from (l : List α) (n : Nat) : cut l (some (n : Int)) none = l.drop n := by
  unfold cut
  rw [HT.sIx_none, HT.sIx_nat]
  rcases Nat.le_total n l.length with h | h
  · rw [Nat.min_eq_left h, List.take_of_length_le (by rw [List.length_drop]; exact Nat.le_refl _)]
  · rw [Nat.min_eq_right h, List.drop_length, List.drop_of_length_le h]
    simp
theorem ev_slL {Φ : List α → Prop} {tl th : TO} {A B : Option Int → Prop} (h : Ev W S te σ H (rL r) Φ) (hl : EvO W S tl σ H A) (hh : EvO W S th σ H B) :
    Ev W S (tSl (rSlL K) te tl th) σ H (rL r) (fun m => ∃ l lo hi, Φ l ∧ A lo ∧ B hi ∧ m = cut l lo hi) := by
  intro H1 g c Q q
  refine h H1 g c _ fun v l H2 g2 hv hx => ?_
  have c2 := c.go g2
  refine hl H2 (g.trans g2) c2 _ fun lo H3 g3 ho => ?_
  have c3 := c2.go g3
  refine hh H3 ((g.trans g2).trans g3) c3 _ fun hi H4 g4 hi' => ?_
  have c4 := c3.go g4
  obtain ⟨a, xs, e, _, ha, al⟩ := (rL r).kp (c2.kp (g3.trans g4)) hv
  refine ⟨a, xs, e, SqL.of ha, fun p np => ?_⟩
  have g5 := c4.new np (o := .lst (cutV xs lo hi))
  exact q _ (cut l lo hi) _ (((g2.trans g3).trans g4).trans g5) ⟨p, _, rfl, c4.free np, upd_same, (cut_all2 al lo hi).imp fun _ _ z => r.kp (c4.kp g5) z⟩ ⟨l, lo, hi, hx, ho, hi', rfl⟩
theorem ev_slZ {Φ : Str → Prop} {tl th : TO} {A B : Option Int → Prop} (h : Ev W S te σ H rS Φ) (hl : EvO W S tl σ H A) (hh : EvO W S th σ H B) (n : ∀ z, Φ z → z.length ≤ 100000) :
    Ev W S (tSl rSlS te tl th) σ H rS (fun m => ∃ z lo hi, Φ z ∧ A lo ∧ B hi ∧ m = cutS z lo hi) := by
  intro H1 g c Q q
  refine h H1 g c _ fun v l H2 g2 hv hx => ?_
  have c2 := c.go g2
  refine hl H2 (g.trans g2) c2 _ fun lo H3 g3 ho => ?_
  have c3 := c2.go g3
  refine hh H3 ((g.trans g2).trans g3) c3 _ fun hi H4 g4 hi' => ?_
  exact ⟨l, hv, Nat.le_trans (n l hx) (by decide), q _ _ H4 ((g2.trans g3).trans g4) rfl ⟨l, lo, hi, hx, ho, hi', rfl⟩⟩
/-! ### + and * of lists and texts -/
theorem ev_cat {Φ Ψ : List α → Prop} (h : Ev W S ta σ H (rL r) Φ) (k : Ev W S tb σ H (rL r) Ψ) (n : ∀ l m, Φ l → Ψ m → l.length + m.length ≤ 100000) :
    Ev W S (tOp rCat ta tb) σ H (rL r) (fun z => ∃ l m, Φ l ∧ Ψ m ∧ z = l ++ m) :=
  ev_2 h k fun H' v u l m c ⟨a, xs, e, _, ha, al⟩ ⟨b, ys, e2, _, hb, bl⟩ hl hm Q q => ⟨a, b, xs, ys, e, e2, ha, hb, by
    rw [al.len, bl.len]; exact Nat.le_trans (n l m hl hm) (by decide), fun p np => by
    have g := c.new np (o := .lst (xs ++ ys))
    exact q _ (l ++ m) _ g ⟨p, _, rfl, c.free np, upd_same, (al.app bl).imp fun _ _ z => r.kp (c.kp g) z⟩ ⟨l, m, hl, hm, rfl⟩⟩
def rAddZ : R2 := fun x y H Q => ∃ i j, x = .str i ∧ y = .str j ∧ i.length + j.length ≤ sizeLine ∧ Q (.str (i ++ j)) H
theorem op_addZ {X : Cx} : OpR X (binaryOp .Add) rAddZ := op_add_str
theorem ev_addZ {Φ Ψ : Str → Prop} (h : Ev W S ta σ H rS Φ) (k : Ev W S tb σ H rS Ψ) (n : ∀ x y, Φ x → Ψ y → x.length + y.length ≤ 100000) :
    Ev W S (tOp rAddZ ta tb) σ H rS (fun z => ∃ x y, Φ x ∧ Ψ y ∧ z = x ++ y) :=
  ev_2 h k fun H' v u x y c hv hu hx hy Q q => ⟨x, y, hv, hu, Nat.le_trans (n x y hx hy) (by decide), q _ _ H' c.here rfl ⟨x, y, hx, hy, rfl⟩⟩
/-! ### in -/
theorem ev_in {neg : Bool} {Φ : Str → Prop} {Ψ : List Str → Prop} (h : Ev W S ta σ H rS Φ) (k : Ev W S tb σ H (rT K rS) Ψ) : Ev W S (tOp (rIn K neg) ta tb) σ H rB (fun z => ∃ x l, Φ x ∧ Ψ l ∧ z = (decide (x ∈ l) != neg)) := by
  refine ev_2 h k fun H' v u x l c hv ⟨b, ys, e2, hb, bl⟩ hx hl Q q => ?_
  have ey := all_str bl
  subst ey
  have f1 : flatV v = true := by rw [hv]; rfl
  refine ⟨b, _, e2, .inr (sqt_of hb), f1, ?_, q _ (decide (x ∈ l) != neg) H' c.here ?_ ⟨x, l, hx, hl, rfl⟩⟩
  · rw [List.all_map]; exact List.all_eq_true.mpr fun _ _ => rfl
  · show V.bl _ = V.bl _
    congr 1
    have : inV v (l.map V.str) = decide (x ∈ l) := by
      rw [hv]
      unfold inV
      rw [List.any_map]
      refine Bool.eq_iff_iff.mpr (List.any_eq_true.trans (Iff.trans ?_ decide_eq_true_iff.symm))
      constructor
      · rintro ⟨y, hy, e⟩
        have : y = x := beq_iff_eq.mp (show (y == x) = true from e)
        exact this ▸ hy
      · intro hy
        exact ⟨x, hy, beq_self_eq_true x⟩
    rw [this]
    cases neg <;> cases decide (x ∈ l) <;> rfl
end
end Gr
namespace Gr
open PySem PySem.Spec PyProof.Rows L2 Gd
section
variable {W : Eff} {S : List Addr} {σ : L2.St} {H H0 : Hp} {α β γ : Type} {r : Rel α} {r' : Rel β} {Φ : α → Prop} {te ta tb tc : TE} {tt tu : TT} {K : PySem.W.Frag} {D : Ends} {ts tw : TS}
/-! ### statements -/
theorem st_set {i : Nat} (c : Sc W S H) (h : Ev W S te σ H r Φ) (k : ∀ v x H1, Go W H H1 → Kp S H H1 → Sc W S H1 → r.rp S H1 v x → Φ x → D.nx (σ.set i (some v)) H1) : tAsg te (gName i) D σ H :=
  h H c.here c _ fun v x H2 g hv hx => k v x H2 g (c.kp g) (c.go g) hv hx
theorem st_ret (c : Sc W S H) (h : Ev W S te σ H r Φ) (k : ∀ v x H1, Go W H H1 → Kp S H H1 → Sc W S H1 → r.rp S H1 v x → Φ x → D.rt v H1) : tRet te D σ H :=
  h H c.here c _ fun v x H2 g hv hx => k v x H2 g (c.kp g) (c.go g) hv hx
theorem st_drop (c : Sc W S H) (h : Ev W S te σ H r Φ) (k : ∀ x H1, Go W H H1 → Kp S H H1 → Sc W S H1 → Φ x → D.nx σ H1) : tDrop te D σ H :=
  h H c.here c _ fun _ x H2 g _ hx => k x H2 g (c.kp g) (c.go g) hx
theorem st_if {Φ : Bool → Prop} (c : Sc W S H) (h : EvT W S tt σ H Φ) (k1 : ∀ H1, Go W H H1 → Kp S H H1 → Sc W S H1 → Φ true → ts D σ H1) (k2 : ∀ H1, Go W H H1 → Kp S H H1 → Sc W S H1 → Φ false → tw D σ H1) : tIfS tt ts tw D σ H := by
  refine h H c.here c _ fun b H2 g hb => ?_
  cases b with
  | true => exact iteT (k1 H2 g (c.kp g) (c.go g) hb)
  | false => exact iteF (k2 H2 g (c.kp g) (c.go g) hb)
/-- a pair taken apart -/
theorem g_pair {i j : Nat} {v : V} {x : α × β} {Q : L2.St → Hp → Prop} (h : (rP r r').rp S H v x) (k : ∀ v1 v2, r.rp S H v1 x.1 → r'.rp S H v2 x.2 → Q ((σ.set i (some v1)).set j (some v2)) H) :
    gTup K 2 (gCons (gName i) (gCons (gName j) gNil)) v σ H Q := by
  obtain ⟨a, v1, v2, e, _, ha, h1, h2⟩ := h
  exact ⟨a, [v1, v2], e, SqT.of ha, rfl, v1, [v2], rfl, v2, [], rfl, rfl, k v1 v2 h1 h2⟩
theorem g_triple {r'' : Rel γ} {i j l : Nat} {v : V} {x : α × β × γ} {Q : L2.St → Hp → Prop} (h : (rP3 r r' r'').rp S H v x)
    (k : ∀ v1 v2 v3, r.rp S H v1 x.1 → r'.rp S H v2 x.2.1 → r''.rp S H v3 x.2.2 → Q (((σ.set i (some v1)).set j (some v2)).set l (some v3)) H) :
    gTup K 3 (gCons (gName i) (gCons (gName j) (gCons (gName l) gNil))) v σ H Q := by
  obtain ⟨a, v1, v2, v3, e, _, ha, h1, h2, h3⟩ := h
  exact ⟨a, [v1, v2, v3], e, SqT.of ha, rfl, v1, [v2, v3], rfl, v2, [v3], rfl, v3, [], rfl, rfl, k v1 v2 v3 h1 h2 h3⟩
/-- a, b = e1, e2 by way of a tuple -/
theorem st_pair {Ψ : β → Prop} {i j : Nat} (c : Sc W S H) (h : Ev W S ta σ H r Φ) (h' : Ev W S tb σ H r' Ψ)
    (k : ∀ v u x y H1, Go W H H1 → Kp S H H1 → Sc W S H1 → r.rp S H1 v x → r'.rp S H1 u y → Φ x → Ψ y → D.nx ((σ.set i (some v)).set j (some u)) H1) :
    tAsg (tTup (tCons ta (tCons tb tNil))) (gTup K 2 (gCons (gName i) (gCons (gName j) gNil))) D σ H :=
  ev_pair h h' H c.here c _ fun v x H2 g hv hx => g_pair hv fun v1 v2 h1 h2 => k v1 v2 _ _ H2 g (c.kp g) (c.go g) h1 h2 hx.1 hx.2
theorem st_triple {r'' : Rel γ} {Ψ : β → Prop} {Θ : γ → Prop} {i j l : Nat} (c : Sc W S H) (h : Ev W S ta σ H r Φ) (h' : Ev W S tb σ H r' Ψ) (h'' : Ev W S tc σ H r'' Θ)
    (k : ∀ v u w x y z H1, Go W H H1 → Kp S H H1 → Sc W S H1 → r.rp S H1 v x → r'.rp S H1 u y → r''.rp S H1 w z → Φ x → Ψ y → Θ z → D.nx (((σ.set i (some v)).set j (some u)).set l (some w)) H1) :
    tAsg (tTup (tCons ta (tCons tb (tCons tc tNil)))) (gTup K 3 (gCons (gName i) (gCons (gName j) (gCons (gName l) gNil)))) D σ H :=
  ev_triple h h' h'' H c.here c _ fun v x H2 g hv hx => g_triple hv fun v1 v2 v3 h1 h2 h3 => k v1 v2 v3 _ _ _ H2 g (c.kp g) (c.go g) h1 h2 h3 hx.1 hx.2.1 hx.2.2
/-- a, b = e1, e2 with no tuple made -/
theorem st_par {Ψ : β → Prop} {i j : Nat} (c : Sc W S H) (h : Ev W S ta σ H r Φ) (h' : Ev W S tb σ H r' Ψ)
    (k : ∀ v u x y H1, Go W H H1 → Kp S H H1 → Sc W S H1 → r.rp S H1 v x → r'.rp S H1 u y → Φ x → Ψ y → D.nx ((σ.set i (some v)).set j (some u)) H1) : tPar i j (tCons ta (tCons tb tNil)) D σ H :=
  ea_cons h (ea_cons h' ea_nil) H c.here c _ fun vs H2 g ⟨v, us, x, e, hv, hx, u, ws, y, e2, hu, hy, e3⟩ => by
    subst e e2 e3
    exact ⟨v, u, rfl, k v u x y H2 g (c.kp g) (c.go g) hv hu hx hy⟩
theorem st_par3 {r'' : Rel γ} {Ψ : β → Prop} {Θ : γ → Prop} {i j l : Nat} (c : Sc W S H) (h : Ev W S ta σ H r Φ) (h' : Ev W S tb σ H r' Ψ) (h'' : Ev W S tc σ H r'' Θ)
    (k : ∀ v u w x y z H1, Go W H H1 → Kp S H H1 → Sc W S H1 → r.rp S H1 v x → r'.rp S H1 u y → r''.rp S H1 w z → Φ x → Ψ y → Θ z → D.nx (((σ.set i (some v)).set j (some u)).set l (some w)) H1) : tPar3 i j l (tCons ta (tCons tb (tCons tc tNil))) D σ H :=
  ea_cons h (ea_cons h' (ea_cons h'' ea_nil)) H c.here c _ fun vs H2 g ⟨v, us, x, e, hv, hx, u, ws, y, e2, hu, hy, t, ys, z, e3, ht, hz, e4⟩ => by
    subst e e2 e3 e4
    exact ⟨v, u, t, rfl, k v u t x y z H2 g (c.kp g) (c.go g) hv hu ht hx hy hz⟩
/-! ### own lists -/
theorem st_own {tr : TA} {Ψ : List α → Prop} {i : Nat} (c : Sc W S H) (h : EvI W S σ H r tr Ψ) (n : ∀ l, Ψ l → l.length ≤ 100000)
    (k : ∀ m xs l H1, H m = none → m ∉ S → m ∉ W.S → Go W H H1 → Sc W (m :: S) H1 → H1 m = some (.lst xs) → All2 (r.rp (m :: S) H1) xs l → Ψ l → D.nx (σ.set i (some (.ref m))) H1) : tAsg (tLst tr) (gName i) D σ H := by
  refine h.go H c.here c _ fun vs H2 g2 ⟨l, hl, hp⟩ => ⟨?_, fun p np => ?_⟩
  · rw [hl.len]; exact Nat.le_trans (n l hp) (by decide)
  have c2 := c.go g2
  have g3 := c2.new np (o := .lst vs)
  have c3 := c2.go g3
  have pS := c2.free np
  refine k p vs l _ (g2.1.back (fun m => pS (c.sub _ m)) np) pS (fun m => pS (c.sub _ m)) (g2.trans g3) (c3.cons (by rw [upd_same]; exact nofun)) upd_same ?_ hp
  refine hl.imp fun v x z => ?_
  have z2 := r.new np z
  exact r.kr (Kp.kr (fun a o m e => (show Kp S H2 _ from c2.kp g3) a o (fun q => m (List.mem_cons_of_mem _ q)) e)) z2
theorem st_app {i m : Nat} {xs : List V} (c : Sc W S H) (hm : m ∈ S) (hw : m ∉ W.S) (e : H m = some (.lst xs)) (s : σ[i]? = some (some (.ref m))) (n : xs.length < 100000) (h : Ev W S te σ H r Φ)
    (k : ∀ v x H1, Kp (m :: W.S) H H1 → Sc W S H1 → H1 m = some (.lst (xs ++ [v])) → r.rp S H1 v x → Φ x → D.nx σ H1) : tDrop (tBM K "list" rAppend (tVar i) (tCons te tNil)) D σ H := by
  refine ⟨_, s, .inl ⟨rfl, _, SqL.of e⟩, ?_⟩
  refine h H c.here c _ fun v x H2 g hv hx => ?_
  have e2 := g.1 m _ hw e
  have c2 := c.go g
  refine ⟨m, xs, v, rfl, rfl, e2, Nat.lt_of_lt_of_le n (by decide), ?_⟩
  refine k v x _ ?_ (c2.put hm hw) upd_same (r.kp (Kp.put hm) hv) hx
  exact (g.1.wk fun a q => List.mem_cons_of_mem _ q).trans (Kp.put (by simp))
/-- an own list, done with, is data -/
theorem own_done {m : Nat} {xs : List V} {l : List α} (e : H m = some (.lst xs)) (n : m ∉ S) (h : All2 (r.rp (m :: S) H) xs l) : (rL r).rp S H (.ref m) l :=
  ⟨m, xs, rfl, n, e, h.imp fun _ _ z => r.sub (fun _ q => List.mem_cons_of_mem _ q) z⟩
/-! ### what is walked -/
def Wk (S : List Addr) (r : Rel α) (J : It) (l : List α) (H0 : Hp) : Prop := ∀ T, (∀ a ∈ T, a ∈ S ∨ H0 a = none) →
  Walk J l.length (fun H' => Kp T H0 H') (fun i H' v H'' => H'' = H' ∧ ∃ x, l[i]? = some x ∧ r.rp T H' v x)
def Src (W : Eff) (S : List Addr) (wi : TI) (σ : L2.St) (H : Hp) (r : Rel α) (Φ : List α → Prop) : Prop :=
  ∀ H1, Go W H H1 → Sc W S H1 → ∀ R : It → Hp → Prop, (∀ J l H2, Go W H1 H2 → Φ l → Wk S r J l H2 → R J H2) → wi σ H1 R
theorem wk_list {a : Addr} {xs : List V} {l : List α} (na : a ∉ S) (ha : H a = some (.lst xs)) (al : All2 (r.rp S H) xs l) : Wk S r (Itl K a) l H := fun T ht => by
  have w := walk_list (K := K) (a := a) (xs := xs)
  rw [al.len] at w
  refine w.mono (fun H' k => SqL.of (k a _ (no_re ht na ha) ha)) fun i H' v H'' _ k ⟨e, hv⟩ => ⟨e, ?_⟩
  obtain ⟨x, hx, rx⟩ := al.getl hv
  exact ⟨x, hx, r.kp k (r.re ht rx)⟩
theorem wk_tup {a : Addr} {xs : List V} {l : List α} (ha : (a ∉ S ∧ H a = some (.tup xs)) ∨ TxtT K a xs) (al : All2 (r.rp S H) xs l) : Wk S r (Itt K a) l H := fun T ht => by
  have w := walk_tup (K := K) (a := a) (xs := xs)
  rw [al.len] at w
  refine w.mono (fun H' k => ?_) fun i H' v H'' _ k ⟨e, hv⟩ => ⟨e, ?_⟩
  · exact ha.elim (fun z => SqT.of (k a _ (no_re ht z.1 z.2) z.2)) fun z => z H'
  · obtain ⟨x, hx, rx⟩ := al.getl hv
    exact ⟨x, hx, r.kp k (r.re ht rx)⟩
def upto (n : Nat) : List Int := (List.range n).map Int.ofNat
theorem upto_len (n : Nat) : (upto n).length = n := by unfold upto; rw [List.length_map, List.length_range]
theorem upto_at {n i : Nat} {x : Int} (h : (upto n)[i]? = some x) : x = (i : Int) ∧ i < n := by
  unfold upto at h
  rw [List.getElem?_map] at h
  by_cases q : i < n
  · rw [List.getElem?_range q] at h
    exact ⟨(Option.some.inj h).symm, q⟩
  · rw [List.getElem?_eq_none (by rw [List.length_range]; omega)] at h
    cases h
theorem upto_get {n i : Nat} (h : i < n) : (upto n)[i]? = some (i : Int) := by
  unfold upto
  rw [List.getElem?_map, List.getElem?_range h]
  rfl
theorem wk_range {n : Nat} : Wk S rI (Itr 0 n) (upto n) H := fun T _ => by
  have w := walk_range (lo := 0) (n := n)
  rw [upto_len]
  exact w.mono (fun _ _ => trivial) fun i H' v H'' hi _ ⟨e, hv⟩ => ⟨e, i, upto_get hi, by rw [hv]; show V.int _ = V.int _; rw [Int.zero_add]⟩
theorem src_list {Φ : List α → Prop} (h : Ev W S te σ H (rL r) Φ) : Src W S (iList K te) σ H r Φ := fun H1 g c R q =>
  h H1 g c _ fun v l H2 g2 ⟨a, xs, e, na, ha, al⟩ hl => ⟨a, e, ⟨xs, SqL.of ha⟩, q _ l H2 g2 hl (wk_list na ha al)⟩
theorem src_tup {Φ : List α → Prop} (h : Ev W S te σ H (rT K r) Φ) : Src W S (iTup K te) σ H r Φ := fun H1 g c R q =>
  h H1 g c _ fun v l H2 g2 ⟨a, xs, e, ha, al⟩ hl => ⟨a, e, ⟨xs, sqt_of ha⟩, q _ l H2 g2 hl (wk_tup ha al)⟩
theorem src_range {Φ : Int → Prop} (h : Ev W S te σ H rI Φ) (n : ∀ i, Φ i → -(2 ^ 62) ≤ i ∧ i < 2 ^ 62) : Src W S (iRng1 (tCons te tNil)) σ H rI (fun l => ∃ i, Φ i ∧ l = upto i.toNat) := fun H1 g c R q =>
  ea_cons h ea_nil H1 g c _ fun vs H2 g2 ⟨v, us, x, e, hv, hx, e2⟩ => by
    subst e e2
    exact ⟨x, by rw [hv], (n x hx).1, (n x hx).2, q _ _ H2 g2 ⟨x, hx, rfl⟩ wk_range⟩
def signs (z : Str) : List Str := z.cps.toList.map fun c => ⟨#[c]⟩
theorem src_str {Φ : Str → Prop} (h : Ev W S te σ H rS Φ) : Src W S (iStr te) σ H rS (fun l => ∃ z, Φ z ∧ l = signs z) := fun H1 g c R q =>
  h H1 g c _ fun v z H2 g2 hv hz => ⟨z, hv, q _ _ H2 g2 ⟨z, hz, rfl⟩ fun T _ => by
    have w := walk_str (z := z)
    have e : (signs z).length = z.cps.size := by unfold signs; rw [List.length_map]; rfl
    rw [e]
    refine w.mono (fun _ _ => trivial) fun i H' v H'' hi _ ⟨e, x, hx, hv⟩ => ⟨e, _, ?_, hv⟩
    unfold signs
    rw [List.getElem?_map, Array.getElem?_toList, hx]
    rfl⟩
/-- a for over it -/
theorem st_for {wi : TI} {g : TG} {Φ : List α → Prop} (c : Sc W S H) (s : Src W S wi σ H r Φ)
    (b : ∀ l H1, Φ l → Go W H H1 → Sc W S H1 → ∃ I : Nat → L2.St → Hp → Prop, I 0 σ H1 ∧ (∀ k σ' H', I k σ' H' → Kp S H1 H') ∧
      (∀ k x v σ' H', l[k]? = some x → I k σ' H' → r.rp S H' v x → g v σ' H' fun σ2 H2 => ts { D with nx := I (k + 1), ct := I (k + 1), bk := D.nx } σ2 H2) ∧ ∀ σ' H', I l.length σ' H' → D.nx σ' H') :
    tFor wi g ts D σ H := by
  refine s H c.here c _ fun J l H2 g2 hl w => ?_
  obtain ⟨I, i0, ik, is, id⟩ := b l H2 hl g2 (c.go g2)
  refine for_it (w S fun a m => .inl m) I i0 (fun k σ' H' _ h => ik k σ' H' h) (fun k v σ' H' H'' hk h ⟨e, x, hx, hv⟩ => ?_) id
  subst e
  exact is k x v σ' _ hx h hv
/-! ### comprehensions -/
theorem et_yes : EvT W S tYes σ H (· = true) := fun H1 _ c Q q => q true H1 c.here rfl
/-- from S to D :: S, over what was done meanwhile -/
theorem carry {D : Addr} {H1 H' : Hp} (n : H1 D = none) (k : Kp (D :: S) H1 H') (q : Rel β) {u : V} {y : β} (h : q.rp S H1 u y) : q.rp (D :: S) H' u y := q.kp k (q.new n h)
theorem into {D : Addr} {H1 H' : Hp} (c : Sc W S H) (g : Go W H H1) (n : H1 D = none) (k : Kp (D :: S) H1 H') {q : Rel β} {u : V} {y : β} (h : q.rp S H u y) : q.rp (D :: S) H' u y := carry n k q (q.kp (c.kp g) h)
theorem ev_lc {ρ : Rel β} {wi : TI} {g : TG} {vs : List Nat} {Φ : List α → Prop} {Ω : List β → Prop} (s : Src W S wi σ H r Φ) (len : ∀ l, Φ l → l.length ≤ 100000)
    (b : ∀ D l H1, Φ l → Go W H H1 → Sc W S H1 → H1 D = none → ∃ J : Nat → List β → Prop, J 0 [] ∧
      (∀ k x v acc H', l[k]? = some x → J k acc → Kp (D :: S) H1 H' → Sc W (D :: S) H' → r.rp (D :: S) H' v x →
        ∃ σ2, (∀ Q : L2.St → Hp → Prop, Q σ2 H' → g v (wipe σ vs) H' Q) ∧ wipe σ2 vs = wipe σ vs ∧ ∃ Ψ : Bool → Prop, EvT W (D :: S) tt σ2 H' Ψ ∧ (Ψ false → J (k + 1) acc) ∧
          (Ψ true → ∃ Θ : β → Prop, Ev W (D :: S) te σ2 H' ρ Θ ∧ ∀ y, Θ y → J (k + 1) (acc ++ [y]))) ∧ ∀ m, J l.length m → Ω m) :
    Ev W S (tLc wi g tt te vs) σ H (rL ρ) Ω := by
  intro H1 g1 c Q q
  refine s H1 g1 c _ fun J l H2 g2 hl w D nD => ?_
  have c2 := c.go g2
  obtain ⟨P, p0, ps, pd⟩ := b D l H2 hl (g1.trans g2) c2 nD
  have dS := c2.free nD
  have g3 := c2.new nD (o := .lst [])
  have cD : Sc W (D :: S) (upd H2 D (.lst [])) := (c2.go g3).cons (by rw [upd_same]; exact nofun)
  have dW : D ∉ W.S := fun m => dS (c.sub _ m)
  have wl : ∀ a ∈ W.S, a ∈ D :: W.S := fun a m => List.mem_cons_of_mem _ m
  refine lc_it (w (D :: S) fun a m => (List.mem_cons.mp m).elim (fun e => .inr (e ▸ nD)) .inl)
    (fun k H' => ∃ acc us, P k acc ∧ acc.length ≤ k ∧ H' D = some (.lst us) ∧ All2 (ρ.rp (D :: S) H') us acc ∧ Kp (D :: W.S) H2 H' ∧ Sc W (D :: S) H') ?_ ?_ ?_ ?_
  · exact ⟨[], [], p0, Nat.le_refl _, upd_same, .nil, g3.1.wk wl, cD⟩
  · rintro k H' _ ⟨_, _, _, _, _, _, kp, c'⟩
    exact kp.wk fun a m => (List.mem_cons.mp m).elim (fun z => z ▸ List.mem_cons_self ..) fun z => List.mem_cons_of_mem _ (c.sub a z)
  · rintro k v H' H'' hk ⟨acc, us, hp, la, eD, al, kp, c'⟩ ⟨e, x, hx, hv⟩
    subst e
    have kp' : Kp (D :: S) H2 H'' := kp.wk fun a m => (List.mem_cons.mp m).elim (fun z => z ▸ List.mem_cons_self ..) fun z => List.mem_cons_of_mem _ (c.sub a z)
    obtain ⟨σ2, hg, hwp, Ψ, ht, hf, hy⟩ := ps k x v acc H'' hx hp kp' c' hv
    refine hg _ ⟨hwp, ht H'' c'.here c' _ fun bb H3 g3 hb => ?_⟩
    have c3 := c'.go g3
    have k3 := kp.trans (g3.1.wk wl)
    cases bb with
    | false => exact iteF ⟨acc, us, hf hb, by omega, g3.1 D _ dW eD, al.imp fun _ _ z => ρ.kp (c'.kp g3) z, k3, c3⟩
    | true =>
      obtain ⟨Θ, hev, hth⟩ := hy hb
      refine iteT (hev H3 g3 c3 _ fun u y H4 g4 hu hyy => ?_)
      have c4 := c3.go g4
      have eD4 := (g3.trans g4).1 D _ dW eD
      refine ⟨us, eD4, ?_, acc ++ [y], us ++ [u], hth y hyy, ?_, upd_same, ?_, ?_, ?_⟩
      · rw [al.len]
        exact Nat.lt_of_le_of_lt (Nat.le_trans la (Nat.le_of_lt hk)) (Nat.lt_of_le_of_lt (len l hl) (by decide))
      · simp only [List.length_append, List.length_cons, List.length_nil]; omega
      · exact ((al.imp fun _ _ z => ρ.kp (c'.kp (g3.trans g4)) z).snoc hu).imp fun _ _ z => ρ.kp (Kp.put (List.mem_cons_self ..)) z
      · exact (k3.trans (g4.1.wk wl)).trans (Kp.put (List.mem_cons_self ..))
      · exact c4.put (List.mem_cons_self ..) dW
  · rintro H' ⟨acc, us, hp, la, eD, al, kp, c'⟩
    refine q _ acc H' (g2.trans ⟨fun a o n e => ?_, c'.ok⟩) (own_done eD dS al) (pd acc hp)
    exact kp a o (fun m => (List.mem_cons.mp m).elim (fun z => by rw [z, nD] at e; cases e) n) e
/-- one name as the target -/
theorem ev_lcn {ρ : Rel β} {wi : TI} {j : Nat} {vs : List Nat} {Φ : List α → Prop} {Ω : List β → Prop} (s : Src W S wi σ H r Φ) (len : ∀ l, Φ l → l.length ≤ 100000) (hw : ∀ v, wipe ((wipe σ vs).set j (some v)) vs = wipe σ vs)
    (b : ∀ D l H1, Φ l → Go W H H1 → Sc W S H1 → H1 D = none → ∃ J : Nat → List β → Prop, J 0 [] ∧
      (∀ k x v acc H', l[k]? = some x → J k acc → Kp (D :: S) H1 H' → Sc W (D :: S) H' → r.rp (D :: S) H' v x →
        ∃ Ψ : Bool → Prop, EvT W (D :: S) tt ((wipe σ vs).set j (some v)) H' Ψ ∧ (Ψ false → J (k + 1) acc) ∧
          (Ψ true → ∃ Θ : β → Prop, Ev W (D :: S) te ((wipe σ vs).set j (some v)) H' ρ Θ ∧ ∀ y, Θ y → J (k + 1) (acc ++ [y]))) ∧ ∀ m, J l.length m → Ω m) :
    Ev W S (tLc wi (gName j) tt te vs) σ H (rL ρ) Ω := by
  refine ev_lc s len fun D l H1 hl g c n => ?_
  obtain ⟨J, j0, js, jd⟩ := b D l H1 hl g c n
  refine ⟨J, j0, fun k x v acc H' hx hj kp c' hv => ?_, jd⟩
  obtain ⟨Ψ, e1, e2, e3⟩ := js k x v acc H' hx hj kp c' hv
  exact ⟨_, fun Q h => h, hw v, Ψ, e1, e2, e3⟩
/-- the same test and item of each, for sure -/
theorem ev_lcm {ρ : Rel β} {wi : TI} {j : Nat} {vs : List Nat} {Φ : List α → Prop} (p : α → Bool) (f : α → β) (s : Src W S wi σ H r Φ) (len : ∀ l, Φ l → l.length ≤ 100000) (hw : ∀ v, wipe ((wipe σ vs).set j (some v)) vs = wipe σ vs)
    (b : ∀ D l H1, Φ l → Go W H H1 → Sc W S H1 → H1 D = none → ∀ x v H', x ∈ l → Kp (D :: S) H1 H' → Sc W (D :: S) H' → r.rp (D :: S) H' v x →
      EvT W (D :: S) tt ((wipe σ vs).set j (some v)) H' (· = p x) ∧ (p x = true → Ev W (D :: S) te ((wipe σ vs).set j (some v)) H' ρ (· = f x))) :
    Ev W S (tLc wi (gName j) tt te vs) σ H (rL ρ) (fun m => ∃ l, Φ l ∧ m = (l.filter p).map f) := by
  refine ev_lc s len fun D l H1 hl g c n => ⟨fun k acc => acc = ((l.take k).filter p).map f, rfl, fun k x v acc H' hx hp kp c' hv => ?_, fun m hm => ⟨l, hl, by rw [hm, List.take_length]⟩⟩
  obtain ⟨b1, b2⟩ := b D l H1 hl g c n x v H' (List.mem_of_getElem? hx) kp c' hv
  have tk : l.take (k + 1) = l.take k ++ [x] := by rw [List.take_add_one, hx]; rfl
  refine ⟨_, fun Q h => h, hw v, _, b1, fun e => ?_, fun e => ⟨_, b2 e.symm, fun y hy => ?_⟩⟩
  · show acc = ((l.take (k + 1)).filter p).map f
    rw [tk, List.filter_append, List.filter_cons_of_neg (by rw [← e]; exact Bool.false_ne_true), show acc = ((l.take k).filter p).map f from hp]; simp
  · show acc ++ [y] = ((l.take (k + 1)).filter p).map f
    rw [tk, List.filter_append, List.filter_cons_of_pos e.symm, show acc = ((l.take k).filter p).map f from hp, show y = f x from hy]; simp
/-! ### calls of defs -/
/-- a def of one, two, three arguments that changes nothing -/
def C1 (r1 : Rel α) (r : Rel β) (pre : α → Prop) (post : α → β → Prop) : Sp := fun vs H Q _ => ∃ S v x, vs = [v] ∧ Sc e0 S H ∧ r1.rp S H v x ∧ pre x ∧ ∀ u y H', Go e0 H H' → r.rp S H' u y → post x y → Q u H'
def C2 {δ : Type} (r1 : Rel α) (r2 : Rel β) (r : Rel δ) (pre : α → β → Prop) (post : α → β → δ → Prop) : Sp := fun vs H Q _ => ∃ S v1 v2 x y, vs = [v1, v2] ∧ Sc e0 S H ∧ r1.rp S H v1 x ∧ r2.rp S H v2 y ∧ pre x y ∧ ∀ u z H', Go e0 H H' → r.rp S H' u z → post x y z → Q u H'
def C3 {δ : Type} (r1 : Rel α) (r2 : Rel β) (r3 : Rel γ) (r : Rel δ) (pre : α → β → γ → Prop) (post : α → β → γ → δ → Prop) : Sp := fun vs H Q _ => ∃ S v1 v2 v3 x y z, vs = [v1, v2, v3] ∧ Sc e0 S H ∧ r1.rp S H v1 x ∧ r2.rp S H v2 y ∧ r3.rp S H v3 z ∧ pre x y z ∧
  ∀ u d H', Go e0 H H' → r.rp S H' u d → post x y z d → Q u H'
/-- a def whose first argument is a list that keeps to P, which it may change -/
def D0 (P : List V → Prop) (r : Rel α) (post : α → Prop) : Sp := fun vs H Q _ => ∃ S p, vs = [.ref p] ∧ Sc (eP P p) S H ∧ ∀ u y H', Go (eP P p) H H' → r.rp S H' u y → post y → Q u H'
def D1 (P : List V → Prop) (r1 : Rel α) (r : Rel β) (pre : α → Prop) (post : α → β → Prop) : Sp := fun vs H Q _ => ∃ S p v x, vs = [.ref p, v] ∧ Sc (eP P p) S H ∧ r1.rp S H v x ∧ pre x ∧ ∀ u y H', Go (eP P p) H H' → r.rp S H' u y → post x y → Q u H'
def D2 {δ : Type} (P : List V → Prop) (r1 : Rel α) (r2 : Rel β) (r : Rel δ) (pre : α → β → Prop) (post : α → β → δ → Prop) : Sp := fun vs H Q _ => ∃ S p v1 v2 x y, vs = [.ref p, v1, v2] ∧ Sc (eP P p) S H ∧ r1.rp S H v1 x ∧ r2.rp S H v2 y ∧ pre x y ∧
  ∀ u z H', Go (eP P p) H H' → r.rp S H' u z → post x y z → Q u H'
variable {E : XK} {P : List V → Prop} {p : Addr}
theorem ev_c1 {pre : α → Prop} {post : α → β → Prop} (h : Ev W S ta σ H r Φ) (hp : ∀ x, Φ x → pre x) : Ev W S (tCall (C1 r r' pre post) [] E (tCons ta tNil)) σ H r' (fun y => ∃ x, Φ x ∧ post x y) := by
  intro H1 g c Q q
  refine ea_cons h ea_nil H1 g c _ fun vs H2 g2 ⟨v, us, x, e, hv, hx, e2⟩ => ?_
  subst e e2
  have c2 := c.go g2
  exact ⟨S, v, x, rfl, c2.of0, hv, hp x hx, fun u y H' g3 hu hy => q u y H' (g2.trans (c2.up0 g3)) hu ⟨x, hx, hy⟩⟩
theorem ev_c2 {δ : Type} {r'' : Rel δ} {Ψ : β → Prop} {pre : α → β → Prop} {post : α → β → δ → Prop} (h : Ev W S ta σ H r Φ) (k : Ev W S tb σ H r' Ψ) (hp : ∀ x y, Φ x → Ψ y → pre x y) :
    Ev W S (tCall (C2 r r' r'' pre post) [] E (tCons ta (tCons tb tNil))) σ H r'' (fun z => ∃ x y, Φ x ∧ Ψ y ∧ post x y z) := by
  intro H1 g c Q q
  refine ea_cons h (ea_cons k ea_nil) H1 g c _ fun vs H2 g2 ⟨v, us, x, e, hv, hx, w, ws, y, e2, hw, hy, e3⟩ => ?_
  subst e e2 e3
  have c2 := c.go g2
  exact ⟨S, v, w, x, y, rfl, c2.of0, hv, hw, hp x y hx hy, fun u z H' g3 hu hz => q u z H' (g2.trans (c2.up0 g3)) hu ⟨x, y, hx, hy, hz⟩⟩
theorem ev_c3 {δ : Type} {r3 : Rel γ} {r'' : Rel δ} {Ψ : β → Prop} {Θ : γ → Prop} {pre : α → β → γ → Prop} {post : α → β → γ → δ → Prop} (h : Ev W S ta σ H r Φ) (k : Ev W S tb σ H r' Ψ) (l : Ev W S tc σ H r3 Θ) (hp : ∀ x y z, Φ x → Ψ y → Θ z → pre x y z) :
    Ev W S (tCall (C3 r r' r3 r'' pre post) [] E (tCons ta (tCons tb (tCons tc tNil)))) σ H r'' (fun d => ∃ x y z, Φ x ∧ Ψ y ∧ Θ z ∧ post x y z d) := by
  intro H1 g c Q q
  refine ea_cons h (ea_cons k (ea_cons l ea_nil)) H1 g c _ fun vs H2 g2 ⟨v, us, x, e, hv, hx, w, ws, y, e2, hw, hy, t, ts, z, e3, ht, hz, e4⟩ => ?_
  subst e e2 e3 e4
  have c2 := c.go g2
  exact ⟨S, v, w, t, x, y, z, rfl, c2.of0, hv, hw, ht, hp x y z hx hy hz, fun u d H' g3 hu hd => q u d H' (g2.trans (c2.up0 g3)) hu ⟨x, y, z, hx, hy, hz, hd⟩⟩
theorem ev_d0 {post : α → Prop} (h : Ev (eP P p) S ta σ H (rA p) (fun _ => True)) : Ev (eP P p) S (tCall (D0 P r post) [] E (tCons ta tNil)) σ H r post := by
  intro H1 g c Q q
  refine ea_cons h ea_nil H1 g c _ fun vs H2 g2 ⟨v, us, x, e, hv, hx, e2⟩ => ?_
  subst e e2
  exact ⟨S, p, by rw [show v = .ref p from hv]; rfl, c.go g2, fun u y H' g3 hu hy => q u y H' (g2.trans g3) hu hy⟩
theorem ev_d1 {pre : α → Prop} {post : α → β → Prop} (h : Ev (eP P p) S ta σ H (rA p) (fun _ => True)) (k : Ev (eP P p) S tb σ H r Φ) (hp : ∀ x, Φ x → pre x) :
    Ev (eP P p) S (tCall (D1 P r r' pre post) [] E (tCons ta (tCons tb tNil))) σ H r' (fun y => ∃ x, Φ x ∧ post x y) := by
  intro H1 g c Q q
  refine ea_cons h (ea_cons k ea_nil) H1 g c _ fun vs H2 g2 ⟨v, us, _, e, hv, _, w, ws, x, e2, hw, hx, e3⟩ => ?_
  subst e e2 e3
  exact ⟨S, p, w, x, by rw [show v = .ref p from hv]; rfl, c.go g2, hw, hp x hx, fun u y H' g3 hu hy => q u y H' (g2.trans g3) hu ⟨x, hx, hy⟩⟩
theorem ev_d2 {δ : Type} {r'' : Rel δ} {Ψ : β → Prop} {pre : α → β → Prop} {post : α → β → δ → Prop} (h : Ev (eP P p) S ta σ H (rA p) (fun _ => True)) (k : Ev (eP P p) S tb σ H r Φ) (l : Ev (eP P p) S tc σ H r' Ψ) (hp : ∀ x y, Φ x → Ψ y → pre x y) :
    Ev (eP P p) S (tCall (D2 P r r' r'' pre post) [] E (tCons ta (tCons tb (tCons tc tNil)))) σ H r'' (fun z => ∃ x y, Φ x ∧ Ψ y ∧ post x y z) := by
  intro H1 g c Q q
  refine ea_cons h (ea_cons k (ea_cons l ea_nil)) H1 g c _ fun vs H2 g2 ⟨v, us, _, e, hv, _, w, ws, x, e2, hw, hx, t, ts, y, e3, ht, hy, e4⟩ => ?_
  subst e e2 e3 e4
  exact ⟨S, p, w, t, x, y, by rw [show v = .ref p from hv]; rfl, c.go g2, hw, ht, hp x y hx hy, fun u z H' g3 hu hz => q u z H' (g2.trans g3) hu ⟨x, y, hx, hy, hz⟩⟩
theorem ev_self {i : Nat} (e : σ[i]? = some (some (.ref p))) : Ev W S (tVar i) σ H (rA p) (fun _ => True) := fun H1 _ c Q q => ⟨_, e, q _ () H1 c.here rfl trivial⟩
end
end Gr
namespace Gr
open PySem PySem.Spec PyProof.Rows L2 Gd
section
variable {W : Eff} {S : List Addr} {σ : L2.St} {H H0 : Hp} {α β γ : Type} {r : Rel α} {r' : Rel β} {Φ : α → Prop} {te ta tb tc : TE} {tt tu : TT} {K : PySem.W.Frag}
/-! ### numbers -/
theorem ev_plus {Φ Ψ : Int → Prop} (ha : Ev W S ta σ H rI Φ) (hb : Ev W S tb σ H rI Ψ) : Ev W S (tOp (rI0 fun i j => .int (i + j)) ta tb) σ H rI (fun z => ∃ x y, Φ x ∧ Ψ y ∧ z = x + y) := ev_I0 ha hb
theorem ev_minus {Φ Ψ : Int → Prop} (ha : Ev W S ta σ H rI Φ) (hb : Ev W S tb σ H rI Ψ) : Ev W S (tOp (rI0 fun i j => .int (i - j)) ta tb) σ H rI (fun z => ∃ x y, Φ x ∧ Ψ y ∧ z = x - y) := ev_I0 ha hb
/-- one factor within 64 bits -/
theorem ev_mulL {Φ Ψ : Int → Prop} (ha : Ev W S ta σ H rI Φ) (hb : Ev W S tb σ H rI Ψ) (n : ∀ x, Φ x → -(2 ^ 64) < x ∧ x < 2 ^ 64) : Ev W S (tOp (L2.rI CMul fun i j => .int (i * j)) ta tb) σ H rI (fun z => ∃ x y, Φ x ∧ Ψ y ∧ z = x * y) :=
  ev_I ha hb fun x _ hx _ => .inl (n x hx)
theorem ev_mulR {Φ Ψ : Int → Prop} (ha : Ev W S ta σ H rI Φ) (hb : Ev W S tb σ H rI Ψ) (n : ∀ x, Ψ x → -(2 ^ 64) < x ∧ x < 2 ^ 64) : Ev W S (tOp (L2.rI CMul fun i j => .int (i * j)) ta tb) σ H rI (fun z => ∃ x y, Φ x ∧ Ψ y ∧ z = x * y) :=
  ev_I ha hb fun _ y _ hy => .inr (n y hy)
theorem ev_mod {Φ Ψ : Int → Prop} (ha : Ev W S ta σ H rI Φ) (hb : Ev W S tb σ H rI Ψ) (n : ∀ x, Ψ x → 0 < x) : Ev W S (tOp (L2.rI (fun _ j => 0 < j) fun i j => .int (i % j)) ta tb) σ H rI (fun z => ∃ x y, Φ x ∧ Ψ y ∧ z = x % y) :=
  ev_I ha hb fun _ y _ hy => n y hy
theorem ev_fdiv {Φ Ψ : Int → Prop} (ha : Ev W S ta σ H rI Φ) (hb : Ev W S tb σ H rI Ψ) (n : ∀ x, Ψ x → 0 < x ∧ x < 1073741824) : Ev W S (tOp (L2.rI CDiv fun i j => .int (i / j)) ta tb) σ H rI (fun z => ∃ x y, Φ x ∧ Ψ y ∧ z = x / y) :=
  ev_I ha hb fun _ y _ hy => n y hy
theorem ev_pow {Φ Ψ : Int → Prop} (ha : Ev W S ta σ H rI Φ) (hb : Ev W S tb σ H rI Ψ) (n : ∀ x y, Φ x → Ψ y → 0 ≤ y ∧ y ≤ 1000000 ∧ x.natAbs < 2 ^ 64) : Ev W S (tOp (L2.rI CPow fun i j => .int (i ^ j.toNat)) ta tb) σ H rI (fun z => ∃ x y, Φ x ∧ Ψ y ∧ z = x ^ y.toNat) :=
  ev_I ha hb fun x y hx hy => n x y hx hy
theorem ev_neg {Φ : Int → Prop} (ha : Ev W S ta σ H rI Φ) : Ev W S (tUn (rU fun i => .int (-i)) ta) σ H rI (fun z => ∃ x, Φ x ∧ z = -x) :=
  ev_1 ha fun H' v x c hv hx Q q => ⟨x, hv, q _ _ H' c.here rfl ⟨x, hx, rfl⟩⟩
def rAbs1 : List V → Hp → VK → Prop := fun xs H Q => ∃ i, xs = [.int i] ∧ Q (.int (if i < 0 then -i else i)) H
theorem call_absI {X : Cx} : CallR X (.builtin "abs") rAbs1 := L2.call_abs
theorem ev_abs {Φ : Int → Prop} (ha : Ev W S ta σ H rI Φ) : Ev W S (tCB rAbs1 (tCons ta tNil)) σ H rI (fun z => ∃ x, Φ x ∧ z = if x < 0 then -x else x) :=
  ev_cb1 ha fun H' v x c hv hx Q q => ⟨x, by rw [hv], q _ _ H' c.here rfl ⟨x, hx, rfl⟩⟩
def rInt1 : List V → Hp → VK → Prop := fun xs H Q => (∃ i, xs = [.int i] ∧ Q (.int i) H) ∨ ∃ k, xs = [.bl k] ∧ Q (.int (if k then 1 else 0)) H
theorem call_intI {X : Cx} : CallR X (.type "int") rInt1 := L2.call_int1
theorem ev_intB {Φ : Bool → Prop} (ha : Ev W S ta σ H rB Φ) : Ev W S (tCB rInt1 (tCons ta tNil)) σ H rI (fun z => ∃ b, Φ b ∧ z = if b then 1 else 0) :=
  ev_cb1 ha fun H' v x c hv hx Q q => .inr ⟨x, by rw [hv], q _ _ H' c.here rfl ⟨x, hx, rfl⟩⟩
/-! ### equal, less -/
theorem ev_eqI {Φ Ψ : Int → Prop} (ha : Ev W S ta σ H rI Φ) (hb : Ev W S tb σ H rI Ψ) : Ev W S (tOp rEq ta tb) σ H rB (fun z => ∃ x y, Φ x ∧ Ψ y ∧ z = decide (x = y)) :=
  ev_2 ha hb fun H' v u x y c hv hu hx hy Q q => ⟨by rw [hv, hu]; rfl, q _ (decide (x = y)) H' c.here (by rw [hv, hu]; simp [rB]) ⟨x, y, hx, hy, rfl⟩⟩
theorem ev_eqZ {Φ Ψ : Str → Prop} (ha : Ev W S ta σ H rS Φ) (hb : Ev W S tb σ H rS Ψ) : Ev W S (tOp rEq ta tb) σ H rB (fun z => ∃ x y, Φ x ∧ Ψ y ∧ z = decide (x = y)) :=
  ev_2 ha hb fun H' v u x y c hv hu hx hy Q q => ⟨by rw [hv, hu]; rfl, q _ (decide (x = y)) H' c.here (by rw [hv, hu]; simp [rB]) ⟨x, y, hx, hy, rfl⟩⟩
theorem ev_eqB {Φ Ψ : Bool → Prop} (ha : Ev W S ta σ H rB Φ) (hb : Ev W S tb σ H rB Ψ) : Ev W S (tOp rEq ta tb) σ H rB (fun z => ∃ x y, Φ x ∧ Ψ y ∧ z = decide (x = y)) :=
  ev_2 ha hb fun H' v u x y c hv hu hx hy Q q => ⟨by rw [hv, hu]; rfl, q _ (decide (x = y)) H' c.here (by rw [hv, hu]; simp [rB]) ⟨x, y, hx, hy, rfl⟩⟩
theorem ev_neI {Φ Ψ : Int → Prop} (ha : Ev W S ta σ H rI Φ) (hb : Ev W S tb σ H rI Ψ) : Ev W S (tOp rNe ta tb) σ H rB (fun z => ∃ x y, Φ x ∧ Ψ y ∧ z = !decide (x = y)) :=
  ev_2 ha hb fun H' v u x y c hv hu hx hy Q q => ⟨by rw [hv, hu]; rfl, q _ (!decide (x = y)) H' c.here (by rw [hv, hu]; simp [rB]) ⟨x, y, hx, hy, rfl⟩⟩
theorem ev_neZ {Φ Ψ : Str → Prop} (ha : Ev W S ta σ H rS Φ) (hb : Ev W S tb σ H rS Ψ) : Ev W S (tOp rNe ta tb) σ H rB (fun z => ∃ x y, Φ x ∧ Ψ y ∧ z = !decide (x = y)) :=
  ev_2 ha hb fun H' v u x y c hv hu hx hy Q q => ⟨by rw [hv, hu]; rfl, q _ (!decide (x = y)) H' c.here (by rw [hv, hu]; simp [rB]) ⟨x, y, hx, hy, rfl⟩⟩
def rLtZ : R2 := fun x y H Q => ∃ i j, x = .str i ∧ y = .str j ∧ Q (.bl (decide (i.cps.toList < j.cps.toList))) H
theorem op_ltZ {X : Cx} : OpR X (compareOp .Lt) rLtZ := op_lt_str
theorem ev_ltZ {Φ Ψ : Str → Prop} (ha : Ev W S ta σ H rS Φ) (hb : Ev W S tb σ H rS Ψ) : Ev W S (tOp rLtZ ta tb) σ H rB (fun z => ∃ x y, Φ x ∧ Ψ y ∧ z = decide (x.cps.toList < y.cps.toList)) :=
  ev_2 ha hb fun H' v u x y c hv hu hx hy Q q => ⟨x, y, hv, hu, q _ _ H' c.here rfl ⟨x, y, hx, hy, rfl⟩⟩
/-! ### and, or, not, if as values -/
theorem ev_notV {Φ : Bool → Prop} (h : Ev W S ta σ H rB Φ) : Ev W S (tNotV ta) σ H rB (fun b => Φ (!b)) := fun H1 g c Q q => h H1 g c _ fun v x H2 g2 hv hx => ⟨x, hv, q _ (!x) H2 g2 rfl (by show Φ (!!x); rw [Bool.not_not]; exact hx)⟩
theorem ev_orV {Φ Ψ : Bool → Prop} (h : Ev W S ta σ H rB Φ) (k : Φ false → Ev W S tb σ H rB Ψ) : Ev W S (tOrV ta tb) σ H rB (fun b => (Φ true ∧ b = true) ∨ (Φ false ∧ Ψ b)) := by
  intro H1 g c Q q
  refine h H1 g c _ fun v x H2 g2 hv hx => ⟨x, hv, ?_⟩
  cases x with
  | true => exact iteT (q _ true H2 g2 rfl (.inl ⟨hx, rfl⟩))
  | false => exact iteF (k hx H2 (g.trans g2) (c.go g2) _ fun v b H3 g3 hv hb => q v b H3 (g2.trans g3) hv (.inr ⟨hx, hb⟩))
theorem ev_andV {Φ Ψ : Bool → Prop} (h : Ev W S ta σ H rB Φ) (k : Φ true → Ev W S tb σ H rB Ψ) : Ev W S (tAndV ta tb) σ H rB (fun b => (Φ false ∧ b = false) ∨ (Φ true ∧ Ψ b)) := by
  intro H1 g c Q q
  refine h H1 g c _ fun v x H2 g2 hv hx => ⟨x, hv, ?_⟩
  cases x with
  | false => exact iteF (q _ false H2 g2 rfl (.inl ⟨hx, rfl⟩))
  | true => exact iteT (k hx H2 (g.trans g2) (c.go g2) _ fun v b H3 g3 hv hb => q v b H3 (g2.trans g3) hv (.inr ⟨hx, hb⟩))
theorem ev_ifx {Φ : Bool → Prop} {Θ : α → Prop} (h : EvT W S tt σ H Φ) (k1 : Φ true → Ev W S ta σ H r Θ) (k2 : Φ false → Ev W S tb σ H r Θ) : Ev W S (tIf tt ta tb) σ H r Θ := by
  intro H1 g c Q q
  refine h H1 g c _ fun b H2 g2 hb => ?_
  cases b with
  | true => exact iteT (k1 hb H2 (g.trans g2) (c.go g2) _ fun v x H3 g3 hv hx => q v x H3 (g2.trans g3) hv hx)
  | false => exact iteF (k2 hb H2 (g.trans g2) (c.go g2) _ fun v x H3 g3 hv hx => q v x H3 (g2.trans g3) hv hx)
/-! ### sorted, join, * -/
theorem ev_sortS {Φ : List Str → Prop} (h : Ev W S ta σ H (rL rS) Φ) (n : ∀ l, Φ l → l.length < 64) : Ev W S (tCB (rSortedS K) (tCons ta tNil)) σ H (rL rS) (fun m => ∃ l, Φ l ∧ m.Perm l ∧ sortedS m = true) :=
  ev_cb1 h fun H' v l c ⟨a, xs, e, _, ha, al⟩ hl Q q => by
    have ex := all_str al
    subst ex
    refine ⟨a, l, by rw [e], SqL.of ha, n l hl, fun ys p pm so np => ?_⟩
    have g := c.new np (o := .lst (ys.map V.str))
    exact q _ ys _ g ⟨p, _, rfl, c.free np, upd_same, str_all ys⟩ ⟨l, hl, pm, so⟩
theorem rep_all2 {R : α → β → Prop} {xs : List α} {l : List β} (h : All2 R xs l) (j : Nat) : All2 R (List.replicate j xs).flatten (List.replicate j l).flatten := by
  induction j with
  | zero => exact .nil
  | succ j ih => rw [List.replicate_succ, List.replicate_succ, List.flatten_cons, List.flatten_cons]; exact h.app ih
theorem ev_rep {Φ : List α → Prop} {Ψ : Int → Prop} (h : Ev W S ta σ H (rL r) Φ) (k : Ev W S tb σ H rI Ψ) (n : ∀ l i, Φ l → Ψ i → 0 ≤ i ∧ i ≤ 10000 ∧ l.length * i.toNat ≤ 100000) :
    Ev W S (tOp rRep ta tb) σ H (rL r) (fun m => ∃ l i, Φ l ∧ Ψ i ∧ m = (List.replicate i.toNat l).flatten) := by
  refine ev_2 h k fun H' v u l i c ⟨a, xs, e, _, ha, al⟩ hu hl hi Q q => ?_
  obtain ⟨n0, n1, n2⟩ := n l i hl hi
  refine ⟨a, i, xs, e, hu, ha, ?_, ?_, ?_, fun p np => ?_⟩
  · exact Int.le_trans (by decide) n0
  · exact Int.lt_of_le_of_lt n1 (by decide)
  · rw [al.len]; exact Nat.le_trans n2 (by decide)
  · have g := c.new np (o := .lst (List.replicate i.toNat xs).flatten)
    refine q _ (List.replicate i.toNat l).flatten _ g ⟨p, _, rfl, c.free np, upd_same, ?_⟩ ⟨l, i, hl, hi, rfl⟩
    exact rep_all2 (al.imp fun _ _ z => r.kp (c.kp g) z) _
end
end Gr
namespace Gr
open PySem PySem.Spec PyProof.Rows L2 Gd
section
variable {W : Eff} {S : List Addr} {σ : L2.St} {H H0 : Hp} {α β γ : Type} {r : Rel α} {r' : Rel β} {Φ : α → Prop} {te ta tb tc : TE} {tt tu : TT} {K : PySem.W.Frag} {D : Ends} {ts tw : TS}
theorem ixN_at {n j : Nat} (h : j < n) : ixN n (j : Int) = some j := by
  unfold ixN
  rw [if_pos (Int.natCast_nonneg j), if_pos (Int.ofNat_lt.mpr h)]
  simp
/-- m[j] = e, m own -/
theorem st_put {i m j : Nat} {xs : List V} (c : Sc W S H) (hm : m ∈ S) (hw : m ∉ W.S) (e : H m = some (.lst xs)) (s : σ[i]? = some (some (.ref m))) (n : j < xs.length) (h : Ev W S te σ H r Φ)
    (k : ∀ v x H1, Kp (m :: W.S) H H1 → Sc W S H1 → H1 m = some (.lst (xs.set j v)) → r.rp S H1 v x → Φ x → D.nx σ H1) : tAsg te (gSub (tVar i) (tC (.int (j : Int))) rSetL) D σ H := by
  refine h H c.here c _ fun v x H2 g hv hx => ?_
  have e2 := g.1 m _ hw e
  have c2 := c.go g
  refine ⟨_, s, m, xs, _, j, rfl, rfl, e2, ixN_at n, ?_⟩
  exact k v x _ ((g.1.wk fun a q => List.mem_cons_of_mem _ q).trans (Kp.put (List.mem_cons_self ..))) (c2.put hm hw) upd_same (r.kp (Kp.put hm) hv) hx
def rDm : List V → Hp → VK → Prop := fun xs H Q => ∃ i j, xs = [.int i, .int j] ∧ CDiv i j ∧ ∀ p, H p = none → Q (.ref p) (upd H p (.tup [.int (i / j), .int (i % j)]))
theorem call_dm {X : Cx} : CallR X (.builtin "divmod") rDm := call_divmod
/-- m[0], x = divmod(e1, e2), m own -/
theorem st_dm {i l m j : Nat} {xs : List V} {Φ Ψ : Int → Prop} (c : Sc W S H) (hm : m ∈ S) (hw : m ∉ W.S) (e : H m = some (.lst xs)) (s : σ[i]? = some (some (.ref m))) (n : j < xs.length) (h : Ev W S ta σ H rI Φ) (h' : Ev W S tb σ H rI Ψ)
    (b : ∀ y, Ψ y → 0 < y ∧ y < 1073741824)
    (k : ∀ x y H1, Kp (m :: W.S) H H1 → Sc W S H1 → H1 m = some (.lst (xs.set j (.int (x / y)))) → Φ x → Ψ y → D.nx (σ.set l (some (.int (x % y)))) H1) :
    tAsg (tCB rDm (tCons ta (tCons tb tNil))) (gTup K 2 (gCons (gSub (tVar i) (tC (.int (j : Int))) rSetL) (gCons (gName l) gNil))) D σ H := by
  unfold tAsg tCB
  refine ea_cons h (ea_cons h' ea_nil) H c.here c _ fun vs H2 g ⟨v, us, x, ev, hv, hx, u, ws, y, e2, hu, hy, e3⟩ => ?_
  subst ev e2 e3
  have c2 := c.go g
  refine ⟨x, y, by rw [hv, hu], b y hy, fun p np => ?_⟩
  have g3 := c2.new np (o := .tup [.int (x / y), .int (x % y)])
  have c3 := c2.go g3
  have e3 := (g.trans g3).1 m _ hw e
  refine ⟨p, _, rfl, SqT.of upd_same, rfl, _, _, rfl, ?_⟩
  refine ⟨_, s, m, xs, _, j, rfl, rfl, e3, ixN_at n, _, _, rfl, rfl, ?_⟩
  exact k x y _ (((g.trans g3).1.wk fun a q => List.mem_cons_of_mem _ q).trans (Kp.put (List.mem_cons_self ..))) (c3.put hm hw) upd_same hx hy
/-! ### enumerate of a tuple -/
def enumL (l : List α) : List (Int × α) := (upto l.length).zip l
theorem enumL_len (l : List α) : (enumL l).length = l.length := by unfold enumL; rw [List.length_zip, upto_len, Nat.min_self]
/-- for i, x in enumerate(t): the pair is taken apart at once -/
theorem st_enum {i j : Nat} {Φ : List α → Prop} (c : Sc W S H) (h : Ev W S te σ H (rT K r) Φ)
    (b : ∀ l H1, Φ l → Go W H H1 → Kp S H H1 → Sc W S H1 → ∃ I : Nat → L2.St → Hp → Prop, I 0 σ H1 ∧ (∀ k σ' H', I k σ' H' → Kp S H1 H' ∧ Sc W S H') ∧
      (∀ k x v σ' H' H2, l[k]? = some x → I k σ' H' → Go W H' H2 → Sc W S H2 → r.rp S H2 v x → ts { D with nx := I (k + 1), ct := I (k + 1), bk := D.nx } ((σ'.set i (some (.int (k : Int)))).set j (some v)) H2) ∧ ∀ σ' H', I l.length σ' H' → D.nx σ' H') :
    tFor (iEnumT K (tCons te tNil)) (gTup K 2 (gCons (gName i) (gCons (gName j) gNil))) ts D σ H := by
  unfold tFor iEnumT
  refine ea_cons h ea_nil H c.here c _ fun vs H1 g ⟨v, us, l, e, ⟨a, xs, e2, ha, al⟩, hl, e3⟩ => ?_
  subst e e3 e2
  have c1 := c.go g
  obtain ⟨I, i0, ik, is, id⟩ := b l H1 hl g (c.kp g) c1
  refine ⟨a, xs, rfl, sqt_of ha, for_it walk_enumT I i0 (fun k σ' H' _ hI => ?_) (fun k v σ' H' H'' hk hI ⟨T, x, y, ev, nT, eH, ex, ey⟩ => ?_) (fun σ' H' hI => id σ' H' (by rw [← al.len]; exact hI))⟩
  · exact ha.elim (fun z => SqT.of ((ik k σ' H' hI).1 a _ z.1 z.2)) fun z => z H'
  · subst ev eH
    cases ex
    obtain ⟨kp, c'⟩ := ik k σ' H' hI
    have g2 := c'.new nT (o := .tup [.int (k : Int), y])
    obtain ⟨z, hz, rz⟩ := al.getl ey
    refine ⟨T, _, rfl, SqT.of upd_same, rfl, _, _, rfl, _, _, rfl, rfl, ?_⟩
    exact is k z y σ' H' _ hz hI g2 (c'.go g2) (r.kp (kp.trans (c'.kp g2)) rz)
end
end Gr
namespace Gr
open PySem PySem.Spec PyProof.Rows L2 Gd
/-! ### defs by their names -/
/-- the module's name x holds a def that keeps the promise sp -/
structure Fn (P : Program) (w : World) (K : PySem.W.Frag) (mg : Str → Option Value) (base : Heap) (x : Str) (k : Nat) (ps : List Str) (sp : Sp) : Prop where
  ex : ∃ f fd, FnG P w K mg base CX0 k f fd ps sp ∧ PySem.W.keepIn K (.ref f) = true ∧ Binds K fd ps [] ∧ mg x = some (.ref f)
/-- the same, called with keywords -/
structure FnK (P : Program) (w : World) (K : PySem.W.Frag) (mg : Str → Option Value) (base : Heap) (x : Str) (k : Nat) (ps : List Str) (sp : Sp) (n : Nat) (ks : List Str) (gV : List V → List V → List V) : Prop where
  ex : ∃ f fd g, FnG P w K mg base CX0 k f fd ps sp ∧ PySem.W.keepIn K (.ref f) = true ∧ KBn K fd ps n ks g gV ∧ mg x = some (.ref f)
section
variable {X : Cx} {x : Str} {k j : Nat} {ps ks : List Str} {sp : Sp} {e : Expr} {es : List Expr} {kws : List Keyword} {p pos : Pos} {t tk : TA} {gV : List V → List V → List V}
theorem Fn.up {P : Program} {w : World} {K : PySem.W.Frag} {mg : Str → Option Value} {base : Heap} (F : Fn P w K mg base x k ps sp) (h : k ≤ j) : Fn P w K mg base x j ps sp := by
  obtain ⟨f, fd, G, r⟩ := F.ex
  exact ⟨f, fd, G.up h, r⟩
theorem FnK.up {P : Program} {w : World} {K : PySem.W.Frag} {mg : Str → Option Value} {base : Heap} {n : Nat} (F : FnK P w K mg base x k ps sp n ks gV) (h : k ≤ j) : FnK P w K mg base x j ps sp n ks gV := by
  obtain ⟨f, fd, g, G, r⟩ := F.ex
  exact ⟨f, fd, g, G.up h, r⟩
theorem pe_fn (F : Fn X.prog X.w X.K X.mg X.base x k ps sp) (fr : Free X.A) (hr : Room k X.A) (gl : Gl X x) (ha : PA X (e :: es) t) (n1 : (x == ("__debug__" : Str)) = false := by decide)
    (n2 : starEach (e :: es) X.env = (false, eval e X.env) :: starEach es X.env := by rfl) (n3 : (backTo pos (starEach es X.env)).any (·.1) = false := by rfl) : PE X (.Call (.Name x p) (e :: es) [] pos) (tCall sp [] E0 t) := by
  obtain ⟨f, fd, G, kp, bd, at_⟩ := F.ex
  exact pe_g G fr hr gl at_ kp bd .nil pass0 ha n1 n2 n3
theorem pe_fn0 (F : Fn X.prog X.w X.K X.mg X.base x k ps sp) (fr : Free X.A) (hr : Room k X.A) (gl : Gl X x) (n1 : (x == ("__debug__" : Str)) = false := by decide) : PE X (.Call (.Name x p) [] [] pos) (tCall sp [] E0 tNil) := by
  obtain ⟨f, fd, G, kp, bd, at_⟩ := F.ex
  exact pe_g0 G fr hr gl at_ kp bd .nil pass0 n1
theorem pe_fnk (F : FnK X.prog X.w X.K X.mg X.base x k ps sp 0 ks gV) (fr : Free X.A) (hr : Room k X.A) (gl : Gl X x) (hk : PK X kws tk)
    (n0 : (backToKw pos (keywordEach kws X.env)).all (·.1.isSome) = true := by rfl) (nk : (backToKw pos (keywordEach kws X.env)).filterMap (·.1) = ks := by rfl) (n1 : (x == ("__debug__" : Str)) = false := by decide)
    (n3 : ((backTo pos (starEach [] X.env)).any (·.1) || (backToKw pos (keywordEach kws X.env)).any (·.1.isNone)) = false := by rfl) : PE X (.Call (.Name x p) [] kws pos) (tCallN 0 ks.length sp gV E0 tNil tk) := by
  obtain ⟨f, fd, g, G, kp, bd, at_⟩ := F.ex
  exact pe_gk0 G fr hr gl at_ kp bd pass0 hk n0 nk n1 n3
end
section
variable {W : Eff} {S : List Addr} {σ : L2.St} {H H0 : Hp} {α β γ : Type} {r : Rel α} {r' : Rel β} {Φ : α → Prop} {te ta tb tc : TE} {tt tu : TT} {K : PySem.W.Frag}
/-! ### data as they are written out -/
/-- what a kind's values are as data -/
def Dat (K : PySem.W.Frag) (r : Rel α) (f : α → PyData) : Prop := ∀ S H v x, r.rp S H v x → Dp K H v (f x)
theorem dat_I : Dat K rI PyData.int := fun _ _ _ x h => by
  cases (show _ = V.int x from h)
  exact .int x
theorem dat_S : Dat K rS PyData.str := fun _ _ _ x h => by
  cases (show _ = V.str x from h)
  exact .str x
theorem dat_B : Dat K rB PyData.bool := fun _ _ _ x h => by
  cases (show _ = V.bl x from h)
  exact .bl x
theorem dat_all {f : α → PyData} (d : Dat K r f) {xs : List V} {l : List α} (h : All2 (r.rp S H) xs l) : DpAll K H xs (l.map f) := by
  induction h with
  | nil => exact .nil
  | cons h _ ih => exact .cons (d _ _ _ _ h) ih
theorem dat_L {f : α → PyData} (d : Dat K r f) : Dat K (rL r) (fun l => .list (l.map f)) := fun _ _ _ _ ⟨a, xs, e, _, ha, al⟩ => by
  subst e
  exact .lst (SqL.of ha) (dat_all d al)
theorem dat_T {f : α → PyData} (d : Dat K r f) : Dat K (rT K r) (fun l => .tuple (l.map f)) := fun _ _ _ _ ⟨a, xs, e, ha, al⟩ => by
  subst e
  exact .tup (sqt_of ha) (dat_all d al)
theorem dat_P {f : α → PyData} {g : β → PyData} (d : Dat K r f) (d' : Dat K r' g) : Dat K (rP r r') (fun x => .tuple [f x.1, g x.2]) := fun _ _ _ _ ⟨a, v1, v2, e, _, ha, h1, h2⟩ => by
  subst e
  exact .tup (SqT.of ha) (.cons (d _ _ _ _ h1) (.cons (d' _ _ _ _ h2) .nil))
theorem dat_P3 {r'' : Rel γ} {f : α → PyData} {g : β → PyData} {h : γ → PyData} (d : Dat K r f) (d' : Dat K r' g) (d'' : Dat K r'' h) : Dat K (rP3 r r' r'') (fun x => .tuple [f x.1, g x.2.1, h x.2.2]) := fun _ _ _ _ ⟨a, v1, v2, v3, e, _, ha, h1, h2, h3⟩ => by
  subst e
  exact .tup (SqT.of ha) (.cons (d _ _ _ _ h1) (.cons (d' _ _ _ _ h2) (.cons (d'' _ _ _ _ h3) .nil)))
/-- things that are objects -/
def IsRef (r : Rel α) : Prop := ∀ S H v x, r.rp S H v x → ∃ a, v = .ref a
theorem ref_L : IsRef (rL r) := fun _ _ _ _ ⟨a, _, e, _⟩ => ⟨a, e⟩
theorem ref_T : IsRef (rT K r) := fun _ _ _ _ ⟨a, _, e, _⟩ => ⟨a, e⟩
theorem ref_P : IsRef (rP r r') := fun _ _ _ _ ⟨a, _, _, e, _⟩ => ⟨a, e⟩
theorem ev_repr {f : α → PyData} (d : Dat K r f) (o : IsRef r) (h : Ev W S ta σ H r Φ) (n : ∀ x, Φ x → Nice 60 900000 (f x)) : Ev W S (tCB (rRepr K) (tCons ta tNil)) σ H rS (fun z => ∃ x, Φ x ∧ z = (f x).shown) :=
  ev_cb1 h fun H' v x c hv hx Q q => by
    obtain ⟨a, e⟩ := o _ _ _ _ hv
    obtain ⟨n1, n2, n3, n4⟩ := (n x hx).out (by decide) (by decide)
    exact ⟨v, a, f x, rfl, e, d _ _ _ _ hv, n1, n2, n3, n4, q _ _ H' c.here rfl ⟨x, hx, rfl⟩⟩
theorem shaped_of {k N : Nat} {d : PyData} (h : Nice k N d) (hk : k ≤ 60) (hN : N ≤ 900000) : SeqAt.shaped d = true := by
  unfold SeqAt.shaped
  rw [h.cl, Bool.true_and]
  exact decide_eq_true (Nat.le_trans (Nat.le_trans h.dp hk) (by decide))
theorem ev_neD {f : α → PyData} {g : β → PyData} {Ψ : β → Prop} (d : Dat K r f) (d' : Dat K r' g) (h : Ev W S ta σ H r Φ) (k : Ev W S tb σ H r' Ψ) (n : ∀ x, Φ x → Nice 60 900000 (f x)) (m : ∀ x, Ψ x → Nice 60 900000 (g x)) :
    Ev W S (tOp (rNeD K) ta tb) σ H rB (fun z => ∃ x y, Φ x ∧ Ψ y ∧ z = !PyData.eqv (f x) (g y)) :=
  ev_2 h k fun H' v u x y c hv hu hx hy Q q => ⟨_, _, d _ _ _ _ hv, d' _ _ _ _ hu, shaped_of (n x hx) (by decide) (by decide), shaped_of (m y hy) (by decide) (by decide), q _ _ H' c.here rfl ⟨x, y, hx, hy, rfl⟩⟩
theorem ev_eqD {f : α → PyData} {g : β → PyData} {Ψ : β → Prop} (d : Dat K r f) (d' : Dat K r' g) (h : Ev W S ta σ H r Φ) (k : Ev W S tb σ H r' Ψ) (n : ∀ x, Φ x → Nice 60 900000 (f x)) (m : ∀ x, Ψ x → Nice 60 900000 (g x)) :
    Ev W S (tOp (rEqD K) ta tb) σ H rB (fun z => ∃ x y, Φ x ∧ Ψ y ∧ z = PyData.eqv (f x) (g y)) :=
  ev_2 h k fun H' v u x y c hv hu hx hy Q q => ⟨_, _, d _ _ _ _ hv, d' _ _ _ _ hu, shaped_of (n x hx) (by decide) (by decide), shaped_of (m y hy) (by decide) (by decide), q _ _ H' c.here rfl ⟨x, y, hx, hy, rfl⟩⟩
/-- sep.join(list of texts) -/
theorem ev_join {Φ : Str → Prop} {Ψ : List Str → Prop} {K : PySem.W.Frag} (h : Ev W S ta σ H rS Φ) (k : Ev W S tb σ H (rL rS) Ψ) (n : ∀ x l, Φ x → Ψ l → (l.map (·.length)).sum + l.length * x.length ≤ 100000) :
    Ev W S (tM1 (fun x xs H Q => ∃ a p, ∃ ys : List Str, x = .str a ∧ xs = [.ref p] ∧ (SqL K H p (ys.map V.str) ∨ SqT K H p (ys.map V.str)) ∧
      (ys.map (·.length)).sum + ys.length * a.length ≤ 16777216 ∧ Q (.str (Txt.join a ys)) H) ta tb) σ H rS (fun z => ∃ x l, Φ x ∧ Ψ l ∧ z = Txt.join x l) := by
  intro H1 g c Q q
  refine h H1 g c _ fun v x H2 g2 hv hx => ⟨⟨x, hv⟩, ?_⟩
  have c2 := c.go g2
  refine k H2 (g.trans g2) c2 _ fun u l H3 g3 ⟨a, xs, e, _, ha, al⟩ hl => ?_
  have ex := all_str al
  subst ex e
  exact ⟨x, a, l, hv, rfl, .inl (SqL.of ha), Nat.le_trans (n x l hx hl) (by decide), q _ _ H3 (g2.trans g3) rfl ⟨x, l, hx, hl, rfl⟩⟩
end
end Gr
namespace Gr
open PySem PySem.Spec PyProof.Rows L2 Gd
/-! ### texts and numbers of the text, as they stand -/
def strsT : List Str → TA
  | [] => tNil
  | z :: zs => tCons (tC (.str z)) (strsT zs)
def intsT : List Int → TA
  | [] => tNil
  | z :: zs => tCons (tC (.int z)) (intsT zs)
section
variable {W : Eff} {S : List Addr} {σ : L2.St} {H : Hp}
theorem evi_strs : ∀ zs : List Str, EvI W S σ H rS (strsT zs) (· = zs)
  | [] => .nil
  | z :: zs => by
    have e : (fun l => ∃ x m, l = x :: m ∧ x = z ∧ m = zs) = (· = z :: zs) := funext fun l => propext ⟨fun ⟨_, _, e, e1, e2⟩ => by rw [e, e1, e2], fun e => ⟨z, zs, e, rfl, rfl⟩⟩
    have h := EvI.cons (ev_str (W := W) (S := S) (σ := σ) (H := H) (z := z)) (evi_strs zs)
    rw [e] at h
    exact h
theorem evi_ints : ∀ zs : List Int, EvI W S σ H rI (intsT zs) (· = zs)
  | [] => .nil
  | z :: zs => by
    have e : (fun l => ∃ x m, l = x :: m ∧ x = z ∧ m = zs) = (· = z :: zs) := funext fun l => propext ⟨fun ⟨_, _, e, e1, e2⟩ => by rw [e, e1, e2], fun e => ⟨z, zs, e, rfl, rfl⟩⟩
    have h := EvI.cons (ev_int (W := W) (S := S) (σ := σ) (H := H) (n := z)) (evi_ints zs)
    rw [e] at h
    exact h
end
/-! ### the drawn words: colours, each once -/
def Wds (m : Int) (ws : List Str) : Prop := (ws.length : Int) = m ∧ (∀ z ∈ ws, isC z = true) ∧ ws.Nodup
theorem upto_map {α : Type} {f : Int → α} {n : Nat} (h : ∀ i j : Nat, i < n → j < n → f i = f j → i = j) : ((upto n).map f).Nodup := by
  unfold upto
  rw [List.map_map]
  refine List.pairwise_map.mpr ?_
  refine List.Pairwise.imp_of_mem ?_ (List.nodup_range (n := n))
  intro a b ha hb ne e
  exact ne (h a b (List.mem_range.mp ha) (List.mem_range.mp hb) e)
theorem mem_upto_map {α : Type} {f : Int → α} {n : Nat} {z : α} (h : z ∈ (upto n).map f) : ∃ i : Nat, i < n ∧ z = f i := by
  obtain ⟨x, hx, e⟩ := List.mem_map.mp h
  unfold upto at hx
  obtain ⟨i, hi, e2⟩ := List.mem_map.mp hx
  exact ⟨i, List.mem_range.mp hi, by rw [← e, ← e2]; rfl⟩
def menuW (a k : Int) : Str := mS.getD ((a + 3 * k) % 16).toNat ""
theorem menu_inj : ∀ a i j : Fin 16, menuW (a.val : Int) (i.val : Int) = menuW (a.val : Int) (j.val : Int) → i = j := by decide +kernel
theorem menu_isC : ∀ i : Fin 16, isC (mS.getD i.val "") = true := by decide +kernel
theorem menu_wds {a m : Int} (a0 : 0 ≤ a) (a1 : a < 16) (m0 : 0 ≤ m) (m1 : m ≤ 16) : Wds m ((upto m.toNat).map (menuW a)) := by
  refine ⟨by rw [List.length_map, upto_len]; omega, fun z hz => ?_, upto_map fun i j hi hj e => ?_⟩
  · obtain ⟨i, hi, e⟩ := mem_upto_map hz
    rw [e]
    exact menu_isC ⟨((a + 3 * (i : Int)) % 16).toNat, by omega⟩
  · have ea : ((⟨a.toNat, by omega⟩ : Fin 16).val : Int) = a := by show ((a.toNat : Nat) : Int) = a; omega
    have := menu_inj ⟨a.toNat, by omega⟩ ⟨i, by omega⟩ ⟨j, by omega⟩ (by rw [ea]; exact e)
    exact congrArg Fin.val this
def letC (b k : Int) : Nat := abc.cps.toList.getD ((b + 5 * k) % 26).toNat 0
theorem let_in {b k : Int} : letC b k ∈ abc.cps.toList := by
  have : ∀ i : Fin 26, abc.cps.toList.getD i.val 0 ∈ abc.cps.toList := by decide +kernel
  exact this ⟨((b + 5 * k) % 26).toNat, by omega⟩
theorem let_inj : ∀ a i j : Fin 26, letC (a.val : Int) (i.val : Int) = letC (a.val : Int) (j.val : Int) → i = j := by decide +kernel
def stemW (z : Str) (t b k : Int) : Str := cutS z none (some t) ++ ⟨#[letC b k]⟩ ++ cutS z (some t) none
theorem stem_wds {z : Str} {t b m : Int} (hz : allIn z = true) (lz : z.length ≤ 5) (t0 : 0 ≤ t) (b0 : 0 ≤ b) (b1 : b < 26) (m0 : 0 ≤ m) (m1 : m ≤ 26) : Wds m ((upto m.toNat).map (stemW z t b)) := by
  refine ⟨by rw [List.length_map, upto_len]; omega, fun y hy => ?_, upto_map fun i j hi hj e => ?_⟩
  · obtain ⟨i, hi, e⟩ := mem_upto_map hy
    rw [e]
    exact word_ok hz lz t0 let_in
  · have e1 := congrArg (fun s : Str => s.cps.toList) e
    unfold stemW at e1
    simp only [app_list, List.append_assoc, List.append_cancel_left_eq, List.append_cancel_right_eq] at e1
    have e2 : letC b i = letC b j := by simpa using e1
    have eb : ((⟨b.toNat, by omega⟩ : Fin 26).val : Int) = b := by show ((b.toNat : Nat) : Int) = b; omega
    have := let_inj ⟨b.toNat, by omega⟩ ⟨i, by omega⟩ ⟨j, by omega⟩ (by rw [eb]; exact e2)
    exact congrArg Fin.val this
end Gr
namespace Gd
open PySem PySem.Spec PyProof.Rows L2
/-! ### the one sorted order -/
theorem rising_pw : ∀ (l : List Str) (p : Str), risingS p l = true → (p :: l).Pairwise (fun a b : Str => a.cps.toList ≤ b.cps.toList)
  | [], p, _ => List.pairwise_singleton ..
  | x :: r, p, h => by
    have h' : (!ltCps x.cps.toList p.cps.toList && risingS x r) = true := h
    rw [Bool.and_eq_true, Bool.not_eq_true', ltCps_eq, decide_eq_false_iff_not] at h'
    have ih := rising_pw r x h'.2
    have hx : p.cps.toList ≤ x.cps.toList := h'.1
    refine List.pairwise_cons.mpr ⟨fun y hy => ?_, ih⟩
    rcases List.mem_cons.mp hy with same | later
    · rw [same]; exact hx
    · exact List.le_trans hx ((List.pairwise_cons.mp ih).1 y later)
theorem sorted_one {ys zs : List Str} (p : ys.Perm zs) (h : sortedS ys = true) (h2 : sortedS zs = true) : ys = zs := by
  have pw : ∀ l : List Str, sortedS l = true → l.Pairwise (fun a b : Str => a.cps.toList ≤ b.cps.toList) := fun l hl => by
    cases l with
    | nil => exact List.Pairwise.nil
    | cons x r => exact rising_pw r x hl
  exact List.Perm.eq_of_pairwise (fun a b _ _ h1 h2 => str_ext (List.le_antisymm h1 h2)) (pw ys h) (pw zs h2) p
end Gd
namespace Gr
open PySem PySem.Spec PyProof.Rows L2 Gd
theorem FnG.weak {P : Program} {w : World} {K : PySem.W.Frag} {mg : Str → Option Value} {base : Heap} {CX : CXT} {k : Nat} {f : Addr} {fd : FuncData} {ps : List Str} {sp sp' : Sp} (F : FnG P w K mg base CX k f fd ps sp) (h : ∀ vs H Q E, sp' vs H Q E → sp vs H Q E) : FnG P w K mg base CX k f fd ps sp' :=
  ⟨fun vs H Q E z => F.ar vs H Q E (h vs H Q E z), fun A o s H ag us vs Q E g hr e b r z => F.go A o s H ag us vs Q E g hr e b r (h vs H Q E z)⟩
section
variable {W : Eff} {S : List Addr} {σ : L2.St} {H H0 : Hp} {α β γ : Type} {r : Rel α} {r' : Rel β} {Φ : α → Prop} {te ta tb tc : TE} {tt tu : TT} {K : PySem.W.Frag} {D : Ends} {ts tw : TS}
theorem sqt_tyx {H : Hp} {a : Addr} {xs : List V} (h : SqT K H a xs) : TyX K H (.ref a) (.type "tuple") := by
  rcases h with (own | ⟨_, locked⟩) | ⟨o, its, n, e, c, _⟩
  · exact .base (.tup own)
  · exact .fTuple locked
  · exact .kTuple e c
theorem ev_isT {Φ : List α → Prop} (h : Ev W S ta σ H (rT K r) Φ) : Ev W S (tCB (rIsi K) (tCons ta (tCons (tC (.ty "tuple")) tNil))) σ H rB (· = true) := by
  intro H1 g c Q q
  refine h H1 g c _ fun v l H2 g2 ⟨a, xs, e, ha, al⟩ hl => ?_
  exact ⟨v, .ty "tuple", _, _, true, rfl, .ty "tuple", e ▸ sqt_tyx (sqt_of ha), kit_ty (by decide +kernel), q _ _ H2 g2 rfl rfl⟩
theorem ev_isS {Φ : Str → Prop} (h : Ev W S ta σ H rS Φ) : Ev W S (tCB (rIsi K) (tCons ta (tCons (tC (.ty "str")) tNil))) σ H rB (· = true) := by
  intro H1 g c Q q
  refine h H1 g c _ fun v z H2 g2 e hl => ?_
  exact ⟨v, .ty "str", _, _, true, rfl, .ty "str", (show v = .str z from e) ▸ .base (.str z), kit_str, q _ _ H2 g2 rfl rfl⟩
/-- if t: raise .., t false -/
theorem st_ifF {Φ : Bool → Prop} (c : Sc W S H) (h : EvT W S tt σ H Φ) (n : ¬ Φ true) (k2 : ∀ H1, Go W H H1 → Kp S H H1 → Sc W S H1 → tw D σ H1) : tIfS tt ts tw D σ H := st_if c h (fun _ _ _ _ z => absurd z n) fun H1 g k c _ => k2 H1 g k c
/-! ### colours in order -/
def Asc (l : List Str) : Prop := l.Pairwise fun a b => a.cps.toList < b.cps.toList
theorem Asc.at {l : List Str} (h : Asc l) {i : Nat} {a b : Str} (ha : l[i]? = some a) (hb : l[i + 1]? = some b) : a.cps.toList < b.cps.toList := by
  obtain ⟨h1, e1⟩ := List.getElem?_eq_some_iff.mp ha
  obtain ⟨h2, e2⟩ := List.getElem?_eq_some_iff.mp hb
  rw [← e1, ← e2]
  exact List.pairwise_iff_getElem.mp h i (i + 1) h1 h2 (Nat.lt_succ_self i)
theorem asc_of {l m : List Str} (pm : m.Perm l) (nd : l.Nodup) (so : sortedS m = true) : Asc m := by
  have nm : m.Nodup := pm.nodup_iff.mpr nd
  have le : m.Pairwise (fun a b : Str => a.cps.toList ≤ b.cps.toList) := by
    cases m with
    | nil => exact .nil
    | cons x r => exact rising_pw r x so
  refine (le.and nm).imp fun {a b} ⟨h1, h2⟩ => ?_
  by_cases q : a.cps.toList < b.cps.toList
  · exact q
  · exact absurd (str_ext (List.le_antisymm h1 (List.not_lt.mp q))) h2
end
end Gr
namespace Gr
open PySem PySem.Spec PyProof.Rows L2 Gd
section
variable {W : Eff} {S T : List Addr} {σ : L2.St} {H H0 H1 H2 H' : Hp} {α β γ : Type} {r : Rel α} {m : Addr}
theorem Kp.drop (n : H m = none) (k : Kp (m :: T) H H') : Kp T H H' := fun a o na e => k a o (fun q => (List.mem_cons.mp q).elim (fun z => by rw [z, n] at e; cases e) na) e
theorem Kp.cons (k : Kp T H H') : Kp (m :: T) H H' := k.wk fun _ q => List.mem_cons_of_mem _ q
theorem own_in {v : V} {x : α} (c : Sc W S H) (g : Go W H H1) (n : H m = none) (h : r.rp S H v x) : r.rp (m :: S) H1 v x := r.kp (c.kp g).cons (r.new n h)
theorem own_go (n : H m = none) (g : Go W H H1) (k : Kp (m :: W.S) H1 H') (ok : W.ok H') : Go W H H' := ⟨Kp.drop n (g.1.cons.trans k), ok⟩
/-- all but m and what the call may change, seen from S -/
theorem Sc.kpo (c : Sc W S H) (k : Kp (m :: W.S) H H') : Kp (m :: S) H H' := k.wk fun a q => (List.mem_cons.mp q).elim (fun z => z ▸ List.mem_cons_self ..) fun z => List.mem_cons_of_mem _ (c.sub a z)
theorem Sc.kpi (c : Sc W S H) (hm : m ∈ S) (k : Kp (m :: W.S) H H') : Kp S H H' := k.wk fun a q => (List.mem_cons.mp q).elim (fun z => z ▸ hm) (c.sub a)
end
end Gr
namespace Gr
open PySem PySem.Spec PyProof.Rows L2 Gd
section
variable {W : Eff} {S : List Addr} {σ : L2.St} {H H0 : Hp} {α β γ : Type} {r : Rel α} {r' : Rel β} {Φ : α → Prop} {te ta tb tc : TE} {tt tu : TT} {K : PySem.W.Frag} {D : Ends} {ts tw : TS}
/-- a, b, m = e1, e2, [] -/
theorem st_par3o {Ψ : β → Prop} {i j l : Nat} (c : Sc W S H) (h : Ev W S ta σ H r Φ) (h' : Ev W S tb σ H r' Ψ)
    (k : ∀ m v u x y H1, H m = none → m ∉ S → m ∉ W.S → Go W H H1 → Sc W (m :: S) H1 → H1 m = some (.lst []) → r.rp (m :: S) H1 v x → r'.rp (m :: S) H1 u y → Φ x → Ψ y → D.nx (((σ.set i (some v)).set j (some u)).set l (some (.ref m))) H1) :
    tPar3 i j l (tCons ta (tCons tb (tCons (tLst tNil) tNil))) D σ H := by
  refine h H c.here c _ fun v x H1 g1 hv hx => ?_
  have c1 := c.go g1
  refine h' H1 g1 c1 _ fun u y H2 g2 hu hy => ?_
  have c2 := c1.go g2
  refine ⟨Nat.zero_le _, fun m n => ?_⟩
  have g3 := c2.new n (o := .lst [])
  have mS := c2.free n
  have mW : m ∉ W.S := fun q => mS (c.sub _ q)
  refine ⟨v, u, _, rfl, k m v u x y _ ((g1.trans g2).1.back mW n) mS mW ((g1.trans g2).trans g3) ((c2.go g3).cons (by rw [upd_same]; exact nofun)) upd_same (own_in c2 g3 n (r.kp (c1.kp g2) hv)) (own_in c2 g3 n hu) hx hy⟩
/-- a call with two keywords, in the def's order and the other way about -/
theorem ev_k2 {δ : Type} {r'' : Rel δ} {Ψ : β → Prop} {pre : α → β → Prop} {post : α → β → δ → Prop} {E : XK} (h : Ev W S ta σ H r Φ) (k : Ev W S tb σ H r' Ψ) (hp : ∀ x y, Φ x → Ψ y → pre x y) :
    Ev W S (tCallN 0 2 (C2 r r' r'' pre post) (fun _ zs => zs) E tNil (tCons ta (tCons tb tNil))) σ H r'' (fun z => ∃ x y, Φ x ∧ Ψ y ∧ post x y z) := by
  intro H1 g c Q q
  show tCons ta (tCons tb tNil) σ H1 (fun zs H2 => ([] : List V).length = 0 ∧ zs.length = 2 ∧ C2 r r' r'' pre post zs H2 Q E)
  refine ea_cons h (ea_cons k ea_nil) H1 g c _ fun vs H2 g2 ⟨v, us, x, e, hv, hx, w, ws, y, e2, hw, hy, e3⟩ => ?_
  subst e e2 e3
  have c2 := c.go g2
  exact ⟨rfl, rfl, S, v, w, x, y, rfl, c2.of0, hv, hw, hp x y hx hy, fun u z H' g3 hu hz => q u z H' (g2.trans (c2.up0 g3)) hu ⟨x, y, hx, hy, hz⟩⟩
theorem ev_k2s {δ : Type} {r'' : Rel δ} {Ψ : β → Prop} {pre : β → α → Prop} {post : β → α → δ → Prop} {E : XK} (h : Ev W S ta σ H r Φ) (k : Ev W S tb σ H r' Ψ) (hp : ∀ x y, Φ x → Ψ y → pre y x) :
    Ev W S (tCallN 0 2 (C2 r' r r'' pre post) (fun _ zs => [zs.getD 1 .non, zs.getD 0 .non]) E tNil (tCons ta (tCons tb tNil))) σ H r'' (fun z => ∃ x y, Φ x ∧ Ψ y ∧ post y x z) := by
  intro H1 g c Q q
  show tCons ta (tCons tb tNil) σ H1 (fun zs H2 => ([] : List V).length = 0 ∧ zs.length = 2 ∧ C2 r' r r'' pre post [zs.getD 1 .non, zs.getD 0 .non] H2 Q E)
  refine ea_cons h (ea_cons k ea_nil) H1 g c _ fun vs H2 g2 ⟨v, us, x, e, hv, hx, w, ws, y, e2, hw, hy, e3⟩ => ?_
  subst e e2 e3
  have c2 := c.go g2
  exact ⟨rfl, rfl, S, w, v, y, x, rfl, c2.of0, hw, hv, hp x y hx hy, fun u z H' g3 hu hz => q u z H' (g2.trans (c2.up0 g3)) hu ⟨x, y, hx, hy, hz⟩⟩
end
theorem vals_at {zs : List V} {ws : List Value} (r : Vals zs ws) (i : Nat) : RelV (zs.getD i .non) (ws.getD i .none) := by
  induction r generalizing i with
  | nil => cases i <;> rfl
  | cons h _ ih =>
    cases i with
    | zero => exact h
    | succ i => exact ih i
theorem vals_swap {zs : List V} {ws : List Value} (r : Vals zs ws) : Vals [zs.getD 1 .non, zs.getD 0 .non] [ws.getD 1 .none, ws.getD 0 .none] := .cons (vals_at r 1) (.cons (vals_at r 0) .nil)
end Gr
namespace Gr
open PySem PySem.W PySem.Spec PyProof.Rows L2 Gd
/-! ### sorted of a list or a tuple of alike data: the one sorted list -/
section
variable {prog : Program} {w : World} {A : Around} {X : Value → Shared → Prop} {s : Shared} {β : Type} {vs : List Value} {bs : List β} {enc : β → PyData} {R : Value → β → Prop}
/-- sorted of whatever gives the values vs when it is gone through -/
theorem sorted_got {v : Value} {Q : Value → Shared → Prop} (got : ∀ (A' : Around) (X' : Value → Shared → Prop) (Q' : List Value → Shared → Prop), (∀ h', (∀ b o, s.heap.get? b = some o → h'.get? b = some o) → Q' vs { s with heap := h' }) → wpAny (model prog w) A' (collect v) Q' X' s)
    (each : EachIs R vs bs) (read : EachIs (fun u b => ∃ as, Reads s.heap u (enc b) as) vs bs) (al : AllAlike (bs.map enc)) (so : Sortable (bs.map enc)) (len : bs.length ≤ sizeLine) (room : ∀ b ∈ bs, A.units + 2 + (enc b).depth < cLine)
    (want : ∀ (h1 h' : Heap) (out : List Value) (n : Nat), (∀ b o, s.heap.get? b = some o → h1.get? b = some o) → (∀ b o, h1.get? b = some o → h'.get? b = some o) → h'.get? h1.objs.size = some (seqObj "list" out.toArray n) → EachIs R out (bs.mergeSort (dataLe false enc)) → out.length = bs.length → Q (.ref h1.objs.size) { s with heap := h' }) :
    wpAny (model prog w) A (call (.builtin "sorted") [v]) Q X s := by
  have lv : vs.length ≤ sizeLine := by rw [each.length]; exact len
  refine Calls.call_function_entry kind_sorted plain_sorted entry_sorted (args_sorted1 v) ?_
  unfold Builtin.«sorted»
  refine wpAny_bind (m := checkCount "sorted" 1 1 _) (wpAny_pure (wpAny_bind (got _ _ _ fun h1 keep1 => ?_)))
  have new : (h1.push (seqObj "list" vs.toArray 0)).get? h1.objs.size = some (seqObj "list" vs.toArray 0) := Heap.get?_push_size _ rfl
  have below : ∀ {b o}, s.heap.get? b = some o → b ≠ h1.objs.size := fun {b o} e => Nat.ne_of_lt (Heap.lt_size (keep1 b o e))
  have old : ∀ b o, s.heap.get? b = some o → (h1.push (seqObj "list" vs.toArray 0)).get? b = some o := fun b o e => Heap.get?_push_of_some _ (keep1 b o e)
  refine wpAny_bind (wpAny_newList ?_ lv)
  have read' : EachIs (fun u b => ∃ as, Reads (sortingHeap (h1.push (seqObj "list" vs.toArray 0)) h1.objs.size vs) u (enc b) as) vs bs := read.mono fun _ _ ⟨as, r⟩ => ⟨as, PyProof.Rows.Reads.keeps (fun b o e => sortingHeap_old (below e) (old b o e)) r⟩
  have S := SortsAt.data (prog := prog) (w := w) (A := A.in1.in1) (s := { s with heap := sortingHeap (h1.push (seqObj "list" vs.toArray 0)) h1.objs.size vs }) (each_map (R := fun u d => ∃ as, Reads (sortingHeap (h1.push (seqObj "list" vs.toArray 0)) h1.objs.size vs) u d as) enc read') al so (bound_map room)
  refine wpAny_bind (wpAny_holding (wpAny_call_entry slot_list_sort ⟨_, new, rfl⟩ entry_list_sort (list_sort_vals (s := { s with heap := h1.push (seqObj "list" vs.toArray 0) }) new S lv ⟨_, rfl, wpAny_pure ⟨_, rfl, ?_⟩⟩) (args_list_sort _)))
  obtain ⟨n, at_⟩ := sortedHeap_at (out := (sortVals (dataKind (sortingHeap (h1.push (seqObj "list" vs.toArray 0)) h1.objs.size vs) (bs.map enc)) false vs vs).toArray) new
  refine want h1 _ _ n keep1 (fun b o e => ?_) at_ (sortVals_data false each read' al) (by rw [sortVals_length false rfl]; exact each.length)
  rw [sortedHeap_old (Nat.ne_of_lt (Heap.lt_size e)) (Nat.lt_of_lt_of_le (Heap.lt_size e) (by rw [Heap.size_push]; exact Nat.le_succ _))]
  exact Heap.get?_push_of_some (seqObj "list" vs.toArray 0) e
end
/-- what sorted asks: a list or a tuple of alike data; a new list of them is handed back -/
def rSortD (K : PySem.W.Frag) {β : Type} (enc : β → PyData) : List V → Hp → VK → Prop := fun us H Q => ∃ (a : Addr) (xs : List V) (bs : List β), us = [.ref a] ∧ (SqL K H a xs ∨ SqT K H a xs) ∧ xs.length = bs.length ∧ DpAll K H xs (bs.map enc) ∧ AllAlike (bs.map enc) ∧ Sortable (bs.map enc) ∧
  (∀ b ∈ bs, (enc b).depth ≤ 60) ∧ ∀ (ys : List V) (p : Addr), H p = none → (∀ R : V → β → Prop, All2 R xs bs → All2 R ys (bs.mergeSort (dataLe false enc))) → Q (.ref p) (upd H p (.lst ys))
theorem vals_zip {β : Type} : ∀ {xs : List V} {bs : List β} {us : List Value}, Vals xs us → xs.length = bs.length → EachIs (fun u (q : V × β) => RelV q.1 u) us (xs.zip bs)
  | [], [], _, .nil, _ => .nil
  | _ :: _, _ :: _, _, .cons r rs, h => .cons r (vals_zip rs (by simpa using h))
  | _ :: _, [], _, _, h => by simp at h
  | [], _ :: _, _, _, h => by simp at h
theorem reads_zip {β : Type} {X : Cx} {pins : List (Addr × Obj)} {σ : L2.St} {H : Hp} {s : Shared} {enc : β → PyData} (I : Inv X pins σ H s) : ∀ {xs : List V} {bs : List β} {us : List Value}, Vals xs us → DpAll X.K H xs (bs.map enc) → EachIs (fun u (q : V × β) => ∃ as, Reads s.heap u (enc q.2) as) us (xs.zip bs)
  | [], [], _, .nil, _ => .nil
  | _ :: _, b :: _, _, .cons r rs, .cons d ds => .cons (Dp.reads I (enc b) _ _ d r) (reads_zip I rs ds)
theorem zip_snd {α β : Type} : ∀ {xs : List α} {bs : List β}, xs.length = bs.length → (xs.zip bs).map Prod.snd = bs
  | [], [], _ => rfl
  | _ :: _, _ :: _, h => by rw [List.zip_cons_cons, List.map_cons, zip_snd (by simpa using h)]
  | _ :: _, [], no => by simp at no
  | [], _ :: _, no => by simp at no
theorem all2_zip {α β : Type} {R : α → β → Prop} : ∀ {xs : List α} {bs : List β}, All2 R xs bs → ∀ q ∈ xs.zip bs, R q.1 q.2
  | _, _, .nil, q, h => by cases h
  | _, _, .cons r rs, q, h => by
    rw [List.zip_cons_cons] at h
    rcases List.mem_cons.mp h with here | later
    · rw [here]; exact r
    · exact all2_zip rs q later
theorem all2_of {α β : Type} {R : α → β → Prop} : ∀ {l : List (α × β)}, (∀ q ∈ l, R q.1 q.2) → All2 R (l.map Prod.fst) (l.map Prod.snd)
  | [], _ => .nil
  | q :: l, h => .cons (h q (List.mem_cons_self ..)) (all2_of fun z m => h z (List.mem_cons_of_mem _ m))
theorem each_vals {β : Type} : ∀ {us : List Value} {l : List (V × β)}, EachIs (fun u (q : V × β) => RelV q.1 u) us l → Vals (l.map Prod.fst) us
  | _, _, .nil => .nil
  | _, _, .cons r rs => .cons r (each_vals rs)
theorem call_sortD {X : Cx} {β : Type} {enc : β → PyData} (hu : X.A.units + 66 < cLine) : CallR X (.builtin "sorted") (rSortD X.K enc) := by
  rintro pins s σ H _ us Q I r ⟨a, xs, bs, rfl, sq, len, dp, al, so, dep, q⟩
  obtain ⟨u, rfl, ru⟩ : ∃ u, us = [u] ∧ u = Value.ref a := vals1 r
  subst ru
  have zs := zip_snd len
  have mp : (xs.zip bs).map (fun q => enc q.2) = bs.map enc := by
    have : (fun q : V × β => enc q.2) = enc ∘ Prod.snd := rfl
    rw [this, ← List.map_map, zs]
  obtain ⟨its, rv, got, lx⟩ : ∃ its : List Value, Vals xs its ∧ (∀ (A' : Around) (X' : Value → Shared → Prop) (Q' : List Value → Shared → Prop), (∀ h', (∀ b o, s.heap.get? b = some o → h'.get? b = some o) → Q' its { s with heap := h' }) → wpAny (model X.prog X.w) A' (collect (.ref a)) Q' X' s) ∧ xs.length ≤ sizeLine := by
    rcases sq with sq | sq
    · obtain ⟨its, rv, ⟨o, n, ho, hc, hdn, hd⟩, lx⟩ := I.list sq
      refine ⟨its, rv, fun A' X' Q' h => ?_, lx⟩
      exact wpAny_collect_seq a (.inl rfl) ho hc hd h (by rw [List.size_toArray, ← rv.length]; exact lx)
    · obtain ⟨its, rv, ⟨o, ho, hc, n, hd⟩, lx⟩ := I.tuple sq
      refine ⟨its, rv, fun A' X' Q' h => ?_, lx⟩
      exact wpAny_collect_seq a (.inr rfl) ho hc hd h (by rw [List.size_toArray, ← rv.length]; exact lx)
  have lz : (xs.zip bs).length = bs.length := by rw [← List.length_map (f := Prod.snd), zs]
  refine sorted_got (bs := xs.zip bs) (enc := fun q => enc q.2) got (vals_zip rv len) (reads_zip I rv dp) (by rw [mp]; exact al) (by rw [mp]; exact so) (by rw [lz, ← len]; exact lx) (fun q m => ?_) fun h1 h' out n k1 k2 at_ each lo => ?_
  · have := dep q.2 (by rw [← zs]; exact List.mem_map.mpr ⟨q, m, rfl⟩)
    omega
  · have srt : ((xs.zip bs).mergeSort (dataLe false fun q => enc q.2)).map Prod.snd = bs.mergeSort (dataLe false enc) := by
      have := List.map_mergeSort (r := dataLe false fun q : V × β => enc q.2) (s := dataLe false enc) (f := Prod.snd) (l := xs.zip bs) fun _ _ _ _ => rfl
      rw [this, zs]
    have vals := each_vals each
    have ly : (((xs.zip bs).mergeSort (dataLe false fun q => enc q.2)).map Prod.fst).length = bs.length := by rw [vals.length, lo, lz]
    have I1 : Inv X pins σ H { s with heap := h1 } := I.kept (t' := s.toks) k1
    refine ⟨.ref h1.objs.size, _, I1.laid (t' := s.toks) (o := .lst (((xs.zip bs).mergeSort (dataLe false fun q => enc q.2)).map Prod.fst)) k2 (Nat.le_refl _) ⟨by rw [ly, ← len]; exact lx, out, n, vals, at_⟩, rfl, q _ _ (I1.hok.fresh (Nat.le_refl _)) fun R hR => ?_⟩
    rw [← srt]
    exact all2_of fun z m => all2_zip hR z ((List.mergeSort_perm _ _).mem_iff.mp m)
section
variable {W : Eff} {S : List Addr} {σ : L2.St} {H : Hp} {α : Type} {r : Rel α} {ta : TE} {K : PySem.W.Frag} {f : α → PyData}
/-- items that can be sorted -/
structure Ordered (f : α → PyData) : Prop where
  al : ∀ a b, alike (f a) (f b) = true
  so : (∀ a, ∃ x r, f a = .tuple (x :: r)) ∨ ∀ a, f a ≠ .none ∧ ∀ xs, f a ≠ .tuple xs
  dep : ∀ a, (f a).depth ≤ 60
theorem Ordered.go (o : Ordered f) (l : List α) : AllAlike (l.map f) ∧ Sortable (l.map f) := ⟨AllAlike.of o.al, o.so.elim (fun h => Sortable.tuples h) fun h => Sortable.others h⟩
theorem ord_int : Ordered PyData.int := ⟨fun _ _ => rfl, .inr fun _ => ⟨nofun, nofun⟩, fun _ => Nat.zero_le _⟩
theorem ord_str : Ordered PyData.str := ⟨fun _ _ => rfl, .inr fun _ => ⟨nofun, nofun⟩, fun _ => Nat.zero_le _⟩
theorem ev_sortL {Φ : List α → Prop} (o : Ordered f) (d : Dat K r f) (h : Ev W S ta σ H (rL r) Φ) : Ev W S (tCB (rSortD K f) (tCons ta tNil)) σ H (rL r) (fun m => ∃ l, Φ l ∧ m = l.mergeSort (dataLe false f)) :=
  ev_cb1 h fun H' v l c ⟨a, xs, e, na, ha, al⟩ hl Q q => ⟨a, xs, l, by rw [e], .inl (SqL.of ha), al.len, dat_all d al, (o.go l).1, (o.go l).2, fun b _ => o.dep b, fun ys p np hy => by
    have g := c.new np (o := .lst ys)
    exact q _ _ _ g ⟨p, ys, rfl, c.free np, upd_same, (hy _ al).imp fun _ _ z => r.kp (c.kp g) z⟩ ⟨l, hl, rfl⟩⟩
theorem ev_sortT {Φ : List α → Prop} (o : Ordered f) (d : Dat K r f) (h : Ev W S ta σ H (rT K r) Φ) : Ev W S (tCB (rSortD K f) (tCons ta tNil)) σ H (rL r) (fun m => ∃ l, Φ l ∧ m = l.mergeSort (dataLe false f)) :=
  ev_cb1 h fun H' v l c ⟨a, xs, e, ha, al⟩ hl Q q => ⟨a, xs, l, by rw [e], .inr (sqt_of ha), al.len, dat_all d al, (o.go l).1, (o.go l).2, fun b _ => o.dep b, fun ys p np hy => by
    have g := c.new np (o := .lst ys)
    exact q _ _ _ g ⟨p, ys, rfl, c.free np, upd_same, (hy _ al).imp fun _ _ z => r.kp (c.kp g) z⟩ ⟨l, hl, rfl⟩⟩
end
theorem srt_str (l : List Str) : l.mergeSort (dataLe false PyData.str) = l.mergeSort fun a b => decide (a.cps.toList ≤ b.cps.toList) := by rw [dataLe_str fun b : Str => b]
theorem srt_int (l : List Int) : l.mergeSort (dataLe false PyData.int) = l.mergeSort fun a b => decide (a ≤ b) := by rw [dataLe_int fun b : Int => b]
theorem str_pw (l : List Str) : (l.mergeSort (dataLe false PyData.str)).Pairwise fun a b => a.cps.toList ≤ b.cps.toList := by
  rw [srt_str]
  refine (List.pairwise_mergeSort (fun a b c h1 h2 => ?_) (fun a b => ?_) l).imp fun h => of_decide_eq_true h
  · exact decide_eq_true (List.le_trans (of_decide_eq_true h1) (of_decide_eq_true h2))
  · rcases List.le_total a.cps.toList b.cps.toList with h | h
    · rw [decide_eq_true h]; rfl
    · rw [decide_eq_true h, Bool.or_true]
theorem asc_sort {l : List Str} (nd : l.Nodup) : Asc (l.mergeSort (dataLe false PyData.str)) := by
  refine ((str_pw l).and ((List.mergeSort_perm _ _).nodup_iff.mpr nd)).imp fun {a b} ⟨h1, h2⟩ => ?_
  by_cases q : a.cps.toList < b.cps.toList
  · exact q
  · exact absurd (str_ext (List.le_antisymm h1 (List.not_lt.mp q))) h2
end Gr
namespace Gr
open PySem PySem.W PySem.Spec PyProof.Rows L2 Gd
/-! ### * of texts and tuples, slices of tuples -/
def rMulZ : R2 := fun x y H Q => ∃ z n, x = .str z ∧ y = .int n ∧ MulOk z n ∧ Q (.str (Txt.mul z n)) H
theorem op_mulZ {X : Cx} : OpR X (binaryOp .Mult) rMulZ := by
  rintro pins s σ H _ _ v u Q I rx ry ⟨z, n, rfl, rfl, ok, q⟩
  obtain ⟨t, rfl⟩ := rx
  obtain ⟨t', rfl⟩ := ry
  exact SB.mul ok fun t' k => ⟨.str (Txt.mul z n), H, I.tok k, ⟨t', rfl⟩, q⟩
section
variable {W : Eff} {S : List Addr} {σ : L2.St} {H H0 : Hp} {α β γ : Type} {r : Rel α} {r' : Rel β} {Φ : α → Prop} {te ta tb tc : TE} {tt tu : TT} {K : PySem.W.Frag}
theorem mulOk_small {z : Str} {n : Int} (h0 : 0 ≤ n) (h1 : n ≤ 1000) (hz : z.length ≤ 1000) : MulOk z n := by
  refine ⟨?_, fun _ _ => ?_, fun _ _ => ?_⟩
  · rw [decide_eq_false (by omega), decide_eq_false (by omega)]; rfl
  · rcases Int.lt_or_eq_of_le h0 with p | p
    · have m : (z.length : Int) * n ≤ 1000 * 1000 := Int.mul_le_mul (by omega) h1 h0 (by decide)
      exact Int.not_lt.mpr (Int.le_ediv_of_mul_le p (Int.le_trans m (by decide)))
    · rw [← p]; omega
  · have : z.length * n.toNat ≤ 1000 * 1000 := Nat.mul_le_mul hz (by omega)
    exact decide_eq_false (show ¬ z.length * n.toNat > sizeLine by rw [sizeLine_eq]; omega)
theorem ev_mulZ {Φ : Str → Prop} {Ψ : Int → Prop} (ha : Ev W S ta σ H rS Φ) (hb : Ev W S tb σ H rI Ψ) (n : ∀ x y, Φ x → Ψ y → 0 ≤ y ∧ y ≤ 1000 ∧ x.length ≤ 1000) : Ev W S (tOp rMulZ ta tb) σ H rS (fun z => ∃ x y, Φ x ∧ Ψ y ∧ z = Txt.mul x y) :=
  ev_2 ha hb fun H' v u x y c hv hu hx hy Q q => by
    obtain ⟨n0, n1, n2⟩ := n x y hx hy
    exact ⟨x, y, hv, hu, mulOk_small n0 n1 n2, q _ _ H' c.here rfl ⟨x, y, hx, hy, rfl⟩⟩
theorem ev_repT {Φ : List α → Prop} {Ψ : Int → Prop} (h : Ev W S ta σ H (rT K r) Φ) (k : Ev W S tb σ H rI Ψ) (n : ∀ l i, Φ l → Ψ i → 2 ≤ i ∧ i ≤ 1000 ∧ l ≠ [] ∧ l.length ≤ 1000) :
    Ev W S (tOp (rRepT K) ta tb) σ H (rT K r) (fun m => ∃ l i, Φ l ∧ Ψ i ∧ m = (List.replicate i.toNat l).flatten) := by
  refine ev_2 h k fun H' v u l i c ⟨a, xs, e, ha, al⟩ hu hl hi Q q => ?_
  obtain ⟨n0, n1, n2, n3⟩ := n l i hl hi
  refine ⟨a, i, xs, e, hu, sqt_of ha, fun z => n2 ?_, n0, n1, by rw [al.len]; exact n3, fun p np => ?_⟩
  · have := al.len
    rw [z] at this
    exact List.length_eq_zero_iff.mp this.symm
  · have g := c.new np (o := .tup (List.replicate i.toNat xs).flatten)
    exact q _ _ _ g ⟨p, _, rfl, .inl ⟨c.free np, upd_same⟩, rep_all2 (al.imp fun _ _ z => r.kp (c.kp g) z) _⟩ ⟨l, i, hl, hi, rfl⟩
theorem cut_whole {l : List α} {lo hi : Option Int} (h : HT.sIx l.length 0 lo = 0 ∧ HT.sIx l.length l.length hi = l.length) : cut l lo hi = l := by
  unfold cut
  rw [h.1, h.2, Nat.sub_zero, List.drop_zero, List.take_length]
theorem ev_slT {Φ : List α → Prop} {tl th : TO} {A B : Option Int → Prop} (h : Ev W S te σ H (rT K r) Φ) (hl : EvO W S tl σ H A) (hh : EvO W S th σ H B) :
    Ev W S (tSl (rSlA K) te tl th) σ H (rT K r) (fun m => ∃ l lo hi, Φ l ∧ A lo ∧ B hi ∧ m = cut l lo hi) := by
  intro H1 g c Q q
  refine h H1 g c _ fun v l H2 g2 hv hx => ?_
  have c2 := c.go g2
  refine hl H2 (g.trans g2) c2 _ fun lo H3 g3 ho => ?_
  have c3 := c2.go g3
  refine hh H3 ((g.trans g2).trans g3) c3 _ fun hi H4 g4 hi' => ?_
  have c4 := c3.go g4
  have hv4 := (rT K r).kp (c2.kp (g3.trans g4)) hv
  obtain ⟨a, xs, e, ha, al⟩ := _root_.id hv4
  refine ⟨a, xs, e, sqt_of ha, fun all => ?_, fun _ p np => ?_⟩
  · rw [← e]
    rw [al.len] at all
    exact q _ (cut l lo hi) _ ((g2.trans g3).trans g4) (by rw [cut_whole all]; exact hv4) ⟨l, lo, hi, hx, ho, hi', rfl⟩
  · have g5 := c4.new np (o := .tup (cutV xs lo hi))
    exact q _ (cut l lo hi) _ (((g2.trans g3).trans g4).trans g5) ⟨p, _, rfl, .inl ⟨c4.free np, upd_same⟩, (cut_all2 al lo hi).imp fun _ _ z => r.kp (c4.kp g5) z⟩ ⟨l, lo, hi, hx, ho, hi', rfl⟩
end
end Gr
namespace Gr
open PySem PySem.W PySem.Spec PyProof.Rows L2 Gd
/-! ### the script -/
def TxtL (K : PySem.W.Frag) (a : Addr) (xs : List V) : Prop := ∀ H : Hp, SqL K H a xs
def rScr (K : PySem.W.Frag) : Rel (List Int) where
  rp := fun S H v l => ∃ a, v = .ref a ∧ ((a ∉ S ∧ Rd H a (.lst (l.map V.int))) ∨ TxtL K a (l.map V.int))
  kr := fun k ⟨a, e, h⟩ => ⟨a, e, h.imp (fun z => ⟨z.1, k.rd z.1 z.2⟩) id⟩
  re := fun s ⟨a, e, h⟩ => ⟨a, e, h.imp (fun z => ⟨z.2.elim (fun q => no_re s z.1 q) fun ⟨_, q⟩ => no_re s z.1 q, z.2⟩) id⟩
section
variable {W : Eff} {S : List Addr} {σ : L2.St} {H H0 : Hp} {α β γ : Type} {r : Rel α} {te ta tb tc : TE} {tt tu : TT} {K : PySem.W.Frag}
theorem scr_of {a : Addr} {ns : List Int} (h : SqL K H a (ns.map V.int)) : (rScr K).rp [] H (.ref a) ns := ⟨a, rfl, h.imp (fun z => ⟨nofun, z⟩) fun z _ => .inr z⟩
theorem scr_sq {v : V} {l : List Int} (h : (rScr K).rp S H v l) : ∃ a, v = .ref a ∧ SqL K H a (l.map V.int) := by
  obtain ⟨a, e, h⟩ := h
  exact ⟨a, e, h.elim (fun z => .inl z.2) fun z => z H⟩
theorem ev_lenR {Φ : List Int → Prop} (h : Ev W S ta σ H (rScr K) Φ) : Ev W S (tCB (rLenS K) (tCons ta tNil)) σ H rI (fun n => ∃ l, Φ l ∧ n = (l.length : Int)) :=
  ev_cb1 h fun H' v l c hv hl Q q => by
    obtain ⟨a, e, sq⟩ := scr_sq hv
    exact ⟨a, _, by rw [e], .inl sq, q _ _ H' c.here rfl ⟨l, hl, by rw [List.length_map]⟩⟩
theorem ev_ixR {Φ : List Int → Prop} {Ψ : Int → Prop} (h : Ev W S ta σ H (rScr K) Φ) (k : Ev W S tb σ H rI Ψ) (n : ∀ l i, Φ l → Ψ i → 0 ≤ i ∧ i < l.length) : Ev W S (tOp (rIxL K) ta tb) σ H rI (fun x => ∃ l i, Φ l ∧ Ψ i ∧ 0 ≤ i ∧ l[i.toNat]? = some x) := by
  refine ev_2 h k fun H' v u l i c hv hu hl hi Q q => ?_
  obtain ⟨a, e, sq⟩ := scr_sq hv
  obtain ⟨n0, n1⟩ := n l i hl hi
  have hx : i.toNat < l.length := by omega
  exact ⟨a, _, i, .int l[i.toNat], e, hu, sq, atI_of n0 (by rw [List.getElem?_map, List.getElem?_eq_getElem hx]; rfl), q _ _ H' c.here rfl ⟨l, i, hl, hi, n0, List.getElem?_eq_getElem hx⟩⟩
theorem ev_slR {Φ : List Int → Prop} {tl th : TO} {A B : Option Int → Prop} (h : Ev W S te σ H (rScr K) Φ) (hl : EvO W S tl σ H A) (hh : EvO W S th σ H B) :
    Ev W S (tSl (rSlL K) te tl th) σ H (rL rI) (fun m => ∃ l lo hi, Φ l ∧ A lo ∧ B hi ∧ m = cut l lo hi) := by
  intro H1 g c Q q
  refine h H1 g c _ fun v l H2 g2 hv hx => ?_
  have c2 := c.go g2
  refine hl H2 (g.trans g2) c2 _ fun lo H3 g3 ho => ?_
  have c3 := c2.go g3
  refine hh H3 ((g.trans g2).trans g3) c3 _ fun hi H4 g4 hi' => ?_
  have c4 := c3.go g4
  obtain ⟨a, e, sq⟩ := scr_sq ((rScr K).kp (c2.kp (g3.trans g4)) hv)
  refine ⟨a, _, e, sq, fun p np => ?_⟩
  have g5 := c4.new np (o := .lst (cutV (l.map V.int) lo hi))
  exact q _ (cut l lo hi) _ (((g2.trans g3).trans g4).trans g5) ⟨p, _, rfl, c4.free np, upd_same, cut_all2 (int_all l) lo hi⟩ ⟨l, lo, hi, hx, ho, hi', rfl⟩
theorem ev_all {Φ : List Bool → Prop} (h : Ev W S ta σ H (rL rB) Φ) : Ev W S (tCB (rAll K) (tCons ta tNil)) σ H rB (fun z => ∃ l, Φ l ∧ z = l.all id) :=
  ev_cb1 h fun H' v l c ⟨a, xs, e, na, ha, al⟩ hl Q q => by
    have ex := all_bl al
    subst ex
    exact ⟨a, l, by rw [e], SqL.of ha, q _ _ H' c.here rfl ⟨l, hl, rfl⟩⟩
theorem ev_any {Φ : List Bool → Prop} (h : Ev W S ta σ H (rL rB) Φ) : Ev W S (tCB (rAny K) (tCons ta tNil)) σ H rB (fun z => ∃ l, Φ l ∧ z = l.any id) :=
  ev_cb1 h fun H' v l c ⟨a, xs, e, na, ha, al⟩ hl Q q => by
    have ex := all_bl al
    subst ex
    exact ⟨a, l, by rw [e], SqL.of ha, q _ _ H' c.here rfl ⟨l, hl, rfl⟩⟩
/-- a new purse of a number -/
def spNew (P : List V → Prop) : Sp := fun vs H Q _ => ∃ x : Int, vs = [.int x] ∧ ∀ p H', Same H H' → H p = none → (∃ xs, P xs ∧ H' p = some (.lst xs)) → Q (.ref p) H'
theorem ev_new0 {P : List V → Prop} {Φ : Int → Prop} {post : α → Prop} {E E' : XK} (f : Flat r) (h : Ev W S ta σ H rI Φ) : Ev W S (tCall (D0 P r post) [] E (tCons (tCall (spNew P) [] E' (tCons ta tNil)) tNil)) σ H r post := by
  intro H1 g c Q q
  refine h H1 g c _ fun v x H2 g2 hv hx => ?_
  have c2 := c.go g2
  refine ⟨x, by rw [show v = .int x from hv]; rfl, fun p H3 s3 np ok => ?_⟩
  have ne : ∀ {a : Addr} {o : HO}, H2 a = some o → a ≠ p := fun e z => by rw [z, np] at e; cases e
  refine ⟨p :: S, p, rfl, ⟨fun a m => (by rw [List.mem_singleton.mp m]; exact List.mem_cons_self ..), fun a m => ?_, ok⟩, fun u y H4 g4 hu hy => q u y H4 (g2.trans ⟨fun a o _ e => ?_, ?_⟩) (f _ _ _ _ _ _ hu) hy⟩
  · rcases List.mem_cons.mp m with z | z
    · obtain ⟨xs, _, e⟩ := ok
      rw [z, e]; exact nofun
    · cases e : H2 a with
      | none => exact absurd e (c2.al a z)
      | some o => rw [s3 a o e]; exact nofun
  · exact g4.1 a o (fun m => ne e (List.mem_singleton.mp m)) (s3 a o e)
  · exact W.loc (fun a o _ e => g4.1 a o (fun m => ne e (List.mem_singleton.mp m)) (s3 a o e)) c2.ok
end
/-- the law's own promise -/
def spLawS (K : PySem.W.Frag) : Sp := fun vs H Q _ => ∃ (a : Addr) (ns : List Int), vs = [.ref a] ∧ SqL K H a (ns.map V.int) ∧ ns.length ≤ 63 ∧ ∀ H', Q (.bl true) H'
end Gr
namespace K43
open PySem PySem.Spec PyProof.Rows L2 Gd Gr
/-! ### the text -/
def top (i : Nat) : Stmt := PySem.Challenge.pw_doorlots_k43_projections.main.body.getD i (.Pass ⟨0, 0, 0, 0⟩)
/-- the names that the text's defs ask for -/
structure TX (mg : Str → Option Value) : Prop where
  f_len : mg "len" = none
  f_range : mg "range" = none
  f_isinstance : mg "isinstance" = none
  f_str : mg "str" = none
  f_tuple : mg "tuple" = none
  f_all : mg "all" = none
  f_max : mg "max" = none
  f_min : mg "min" = none
  f_abs : mg "abs" = none
  f_divmod : mg "divmod" = none
  f_int : mg "int" = none
  f_sorted : mg "sorted" = none
  f_repr : mg "repr" = none
  f_enumerate : mg "enumerate" = none
  lets : ∃ t, mg "LETTERS" = some (.str abc t)
  most : ∃ t, mg "MOST_LETTERS" = some (.int 6 t)
  mrow : ∃ t, mg "MOST_ROW" = some (.int 400 t)
end K43
namespace K43
open PySem PySem.Spec PyProof.Rows L2 Gd Gr
/-- a deck: three numbers -/
def PD (xs : List V) : Prop := ∃ d s c : Int, xs = [.int d, .int s, .int c]
abbrev spDraw : Sp := D1 PD rI rI (fun m => 0 < m ∧ m < 1000000) (fun m x => 0 ≤ x ∧ x < m)
section
variable {P : Program} {w : World} {K : PySem.W.Frag} {mg : Str → Option Value} {base : Heap} {f : Addr} {fd : FuncData}
abbrev s_draw : Stmt := top 20
abbrev N_draw : List Str := ["_law_deck_here", "_law_many", "_law_state", "_law_digit"]
theorem sc_draw : FnScope N_draw ["_law_deck_here", "_law_many"] (defScope s_draw) := ⟨rfl, rfl, rfl, by decide +kernel, rfl, by decide +kernel, by decide +kernel⟩
theorem ok_draw (F : FnP K "_law_draw" s_draw f fd) (T : TX mg) : FnG P w K mg base CX0 1 f fd ["_law_deck_here", "_law_many"] spDraw := by
  refine fun_g F sc_draw (fun vs H Q E h => ?_) (fun cdv A outer s H vs Q E fr hr h => ?_)
  · obtain ⟨S, p, v, x, rfl, _⟩ := h
    rfl
  · obtain ⟨S, p, v, many, rfl, cp, h1, ⟨m0, m1⟩, q⟩ := h
    have c : Sc e0 S H := cp.of0
    have pS : p ∈ S := cp.sub p (List.mem_cons_self ..)
    obtain ⟨xs, ⟨d, st, ct, rfl⟩, hp⟩ := cp.ok
    refine ⟨_, PSs.nox (pss_cons (ps_asg (pe_op op_add (pe_ix (show IxR _ (rIxL K) from ix_list) (pv 0) pe_int (fun _ _ => rfl)) pe_int) (pg_sub (pv 0) pe_int set_list))
      (pss_cons (ps_set (i := 2) sc_draw.nd rfl (.inl rfl) (pe_ix (show IxR _ (rIxL K) from ix_list) (pv 0) pe_int (fun _ _ => rfl)))
      (pss_cons (ps_asg (pe_op op_mod (pe_op op_add (pe_op op_mul (pv 2) (pe_op op_add (pe_op op_mod (pv 2) pe_int) pe_int)) (pe_op op_mul pe_int (pe_ix (show IxR _ (rIxL K) from ix_list) (pv 0) pe_int (fun _ _ => rfl)))) pe_int) (pg_sub (pv 0) pe_int set_list))
      (pss_cons (ps_if (pt_cmpR op_gt (pe_ix (show IxR _ (rIxL K) from ix_list) (pv 0) pe_int (fun _ _ => rfl)) pe_int (nomark _)) (pss_cons (ps_asg (pe_callB call_dm (by rfl) T.f_divmod (by decide +kernel) (pa_cons (pe_ix (show IxR _ (rIxL K) from ix_list) (pv 0) pe_int (fun _ _ => rfl)) (pa_cons (pv 1) pa_nil))) (pg_tup rfl (pgs_cons (pg_sub (pv 0) pe_int set_list) (pgs_cons (pg_name (i := 3) sc_draw.nd rfl (Or.inl rfl)) pgs_nil))))
      (pss_one (ps_ret (pv 3)))) pss_nil)
      (pss_one (ps_ret (pe_op op_mod (pe_op op_fdiv (pe_ix (show IxR _ (rIxL K) from ix_list) (pv 0) pe_int (fun _ _ => rfl)) pe_int) (pv 1)))))))), ?_⟩
    have lv : ∀ {H : Hp} {d st ct : Int}, H p = some (.lst [.int d, .int st, .int ct]) → (rL rI).rp [] H (.ref p) [d, st, ct] := fun {H d st ct} hp => ⟨p, _, rfl, nofun, hp, int_all [d, st, ct]⟩
    have h0 := lv hp
    refine st_put (j := 2) c pS nofun hp rfl (by simp) (ev_low flat_I (ev_plus (ev_ixL (ev_var rfl h0) ev_int ?_) ev_int)) ?_ 
    · rintro _ _ rfl rfl
      exact ⟨by decide, by simp⟩
    intro v x H1 k1 c hp1 hv _
    cases (show v = .int x from hv)
    replace hp1 : H1 p = some (.lst [.int d, .int st, .int x]) := hp1
    have h0 := lv hp1
    refine st_set c (ev_low flat_I (ev_ixL (ev_var rfl h0) ev_int ?_)) ?_
    · rintro _ _ rfl rfl
      exact ⟨by decide, by simp⟩
    intro v2 st2 H2 g2 _ c h2 _
    have hp2 := g2.1 p _ nofun hp1
    have h0 := lv hp2
    refine st_put (j := 1) c pS nofun hp2 rfl (by simp) (ev_low flat_I (ev_mod (ev_plus (ev_mulR (ev_var rfl h2) (ev_plus (ev_mod (ev_var rfl h2) ev_int ?_) ev_int) ?_) (ev_mulL ev_int (ev_ixL (ev_var rfl h0) ev_int ?_) ?_)) ev_int ?_)) ?_
    · rintro _ rfl
      decide
    · rintro _ ⟨_, _, ⟨_, _, rfl, rfl, rfl⟩, rfl, rfl⟩
      omega
    · rintro _ _ rfl rfl
      exact ⟨by decide, by simp⟩
    · rintro _ rfl
      exact ⟨by decide, by decide⟩
    · rintro _ rfl
      decide
    intro v3 st3 H3 k3 c hp3 hv3 _
    cases (show v3 = .int st3 from hv3)
    replace hp3 : H3 p = some (.lst [.int d, .int st3, .int x]) := hp3
    have h0 := lv hp3
    have k13 : Kp [p] H H3 := (k1.trans (g2.1.wk nofun)).trans k3
    refine st_if c (et_low (et_test (ev_cmp (ev_ixL (ev_var rfl h0) ev_int ?_) ev_int))) ?_ ?_
    · rintro _ _ rfl rfl
      exact ⟨by decide, by simp⟩
    · intro H4 g4 _ c _
      have hp4 := g4.1 p _ nofun hp3
      have h0 := lv hp4
      refine st_dm (j := 0) c pS nofun hp4 rfl (by simp) (ev_low flat_I (ev_ixL (ev_var rfl h0) ev_int ?_)) (ev_var rfl h1) ?_ ?_
      · rintro _ _ rfl rfl
        exact ⟨by decide, by simp⟩
      · rintro _ rfl
        exact ⟨m0, by omega⟩
      · intro y m H5 k5 c hp5 _ hm
        cases hm
        refine st_ret c (ev_var (r := rI) (x := y % many) rfl rfl) fun u z H6 g6 _ _ hu hz => ?_
        cases hz
        exact q u _ H6 ⟨((k13.trans (g4.1.wk nofun)).trans k5).trans (g6.1.wk nofun), _, ⟨_, _, _, rfl⟩, g6.1 p _ nofun hp5⟩ hu ⟨Int.emod_nonneg _ (by omega), Int.emod_lt_of_pos _ m0⟩
    · intro H4 g4 _ c _
      have hp4 := g4.1 p _ nofun hp3
      have h0 := lv hp4
      refine st_ret c (ev_low flat_I (ev_mod (ev_fdiv (ev_ixL (ev_var rfl h0) ev_int ?_) ev_int ?_) (ev_var rfl h1) ?_)) ?_
      · rintro _ _ rfl rfl
        exact ⟨by decide, by simp⟩
      · rintro _ rfl
        exact ⟨by decide, by decide⟩
      · rintro _ rfl
        exact m0
      · rintro u z H5 g5 _ _ hu ⟨a, b, _, rfl, rfl⟩
        exact q u _ H5 ⟨(k13.trans (g4.1.wk nofun)).trans (g5.1.wk nofun), _, ⟨_, _, _, rfl⟩, g5.1 p _ nofun hp4⟩ hu ⟨Int.emod_nonneg _ (by omega), Int.emod_lt_of_pos _ m0⟩
end
end K43
namespace K43
open PySem PySem.Spec PyProof.Rows L2 Gd Gr
abbrev spWords : Sp := D1 PD rI (rL rS) (fun m => 1 ≤ m ∧ m ≤ 16) Wds
section
variable {P : Program} {w : World} {K : PySem.W.Frag} {mg : Str → Option Value} {base : Heap} {f : Addr} {fd : FuncData}
abbrev s_words : Stmt := top 21
abbrev N_words : List Str := ["_law_deck_here", "_law_many", "_law_letters", "_law_menu", "_law_first", "_law_way", "_law_stem", "_law_at", "_law_begin", "_law_k"]
theorem sc_words : FnScope N_words ["_law_deck_here", "_law_many"] (defScope s_words) := ⟨rfl, rfl, rfl, by decide +kernel, rfl, by decide +kernel, by decide +kernel⟩
/-- letters drawn one by one -/
theorem ev_stem {p : Addr} {S : List Addr} {σ : L2.St} {H : Hp} {Φ : Int → Prop} {wi : TI} {vs : List Nat} {j i : Nat} (c : Sc (eP PD p) S H) (h0 : (wipe σ vs)[0]? = some (some (.ref p))) (j0 : j ≠ 0) (ij : i ≠ j) (h2 : (wipe σ vs)[i]? = some (some (.str abc)))
    (hw : ∀ v, wipe ((wipe σ vs).set j (some v)) vs = wipe σ vs) {E : XK} (b : ∀ x, Φ x → 0 ≤ x ∧ x < 7) (s : Src (eP PD p) S wi σ H rI (fun l => ∃ n, Φ n ∧ l = upto n.toNat)) :
    Ev (eP PD p) S (tLc wi (gName j) tYes (tOp rIxS (tVar i) (tCall spDraw [] E (tCons (tVar 0) (tCons (tC (.int 26)) tNil)))) vs) σ H (rL rS) (fun m => (∃ n, Φ n ∧ (m.length : Int) = n) ∧ ∀ y ∈ m, ∃ c ∈ abc.cps.toList, y = ⟨#[c]⟩) := by
  refine ev_lc s (fun l ⟨n, hn, e⟩ => by rw [e, upto_len]; have := b n hn; omega) fun D l H1 ⟨n, hn, el⟩ g c1 nD => ⟨fun k acc => acc.length = k ∧ ∀ y ∈ acc, ∃ c ∈ abc.cps.toList, y = ⟨#[c]⟩, ⟨rfl, nofun⟩, fun k x v acc H' hx ⟨ha, hb⟩ kp c' hv => ?_, fun m ⟨hm, hb⟩ => ⟨⟨n, hn, ?_⟩, hb⟩⟩
  · refine ⟨_, fun Q h => h, hw v, _, et_yes, nofun, fun _ => ⟨_, ev_ixZ (Φ := (· = abc)) (ev_var (x := abc) (r := rS) ?_ rfl) (ev_d1 (ev_self ?_) ev_int ?_) ?_, ?_⟩⟩
    · rw [List.getElem?_set_ne (Ne.symm ij)]; exact h2
    · rw [List.getElem?_set_ne j0]; exact h0
    · rintro _ rfl; exact ⟨by decide, by decide⟩
    · rintro _ _ rfl ⟨_, rfl, h1, h2⟩
      have : abc.length = 26 := by decide
      exact ⟨h1, by rw [this]; exact h2, by decide⟩
    · rintro y ⟨_, _, cc, rfl, _, _, hc, rfl⟩
      refine ⟨by rw [List.length_append, ha]; rfl, fun z hz => ?_⟩
      rcases List.mem_append.mp hz with q | q
      · exact hb z q
      · rw [List.mem_singleton.mp q]
        exact ⟨cc, List.mem_of_getElem? hc, rfl⟩
  · rw [hm, el, upto_len]
    have := b n hn
    omega
theorem ok_words (F : FnP K "_law_words" s_words f fd) (T : TX mg) (draw : Fn P w K mg base "_law_draw" 1 ["_law_deck_here", "_law_many"] spDraw) : FnG P w K mg base CX0 2 f fd ["_law_deck_here", "_law_many"] spWords := by
  refine fun_g F sc_words (fun vs H Q E h => ?_) (fun cdv A outer s H vs Q E fr hr h => ?_)
  · obtain ⟨S, p, v, x, rfl, _⟩ := h
    rfl
  · obtain ⟨S, p, v, many, rfl, c, h1, ⟨m0, m1⟩, q⟩ := h
    refine ⟨_, PSs.nox (pss_cons (ps_set (i := 2) sc_words.nd rfl (.inr rfl) pe_str)
      (pss_cons (ps_set (i := 3) sc_words.nd rfl (.inr rfl) (pe_lst (pa_cons pe_str (pa_cons pe_str (pa_cons pe_str (pa_cons pe_str (pa_cons pe_str (pa_cons pe_str (pa_cons pe_str (pa_cons pe_str (pa_cons pe_str (pa_cons pe_str (pa_cons pe_str (pa_cons pe_str (pa_cons pe_str pa_nil)))))))))))))))
      (pss_cons (ps_set (i := 3) sc_words.nd rfl (.inr rfl) (pe_op op_cat (pv 3) (pe_lst (pa_cons pe_str (pa_cons pe_str (pa_cons pe_str pa_nil))))))
      (pss_cons (ps_asg (pe_tup (pa_cons (pe_fn draw fr hr rfl (pa_cons (pv 0) (pa_cons pe_int pa_nil))) (pa_cons (pe_fn draw fr hr rfl (pa_cons (pv 0) (pa_cons pe_int pa_nil))) pa_nil))) (pg_tup rfl (pgs_cons (pg_name (i := 4) sc_words.nd rfl (Or.inr rfl)) (pgs_cons (pg_name (i := 5) sc_words.nd rfl (Or.inl rfl)) pgs_nil))))
      (pss_cons (ps_if (pt_cmpR op_eq (pv 5) pe_int (nomark _)) (pss_one (ps_ret (pe_lc (own := [("_law_k", 9)]) (g := gName 9) (tt := tYes) rfl sc_words.nd (pi_range1 (by rfl) T.f_range (pa_cons (pv 1) pa_nil)) (blkOk_by (N := N_words) (sc := defScope s_words) (by decide +kernel)) (fun _ _ _ _ _ => (pg_name (i := 9) sc_words.nd rfl (Or.inl rfl))) (fun _ _ _ _ _ => pts_nil) (fun _ _ _ _ _ => (pe_ix (show IxR _ (rIxL K) from ix_list) (pv 3) (pe_op op_mod (pe_op op_add (pv 4) (pe_op op_mul pe_int (pv 9))) pe_int) (fun _ _ => rfl)))))) pss_nil)
      (pss_cons (ps_set (i := 6) sc_words.nd rfl (.inr rfl) (pe_join pe_str (pe_lc (own := [("_law_k", 9)]) (g := gName 9) (tt := tYes) rfl sc_words.nd (pi_range1 (by rfl) T.f_range (pa_cons (pe_fn draw fr hr rfl (pa_cons (pv 0) (pa_cons pe_int pa_nil))) pa_nil)) (blkOk_by (N := N_words) (sc := defScope s_words) (by decide +kernel)) (fun _ _ _ _ _ => (pg_name (i := 9) sc_words.nd rfl (Or.inl rfl))) (fun _ _ _ _ _ => pts_nil) (fun _ _ _ _ _ => (pe_ix ix_str (pv 2) (pe_fn draw fr hr rfl (pa_cons (pv 0) (pa_cons pe_int pa_nil))) (fun _ _ => rfl))))))
      (pss_cons (ps_asg (pe_tup (pa_cons (pe_fn draw fr hr rfl (pa_cons (pv 0) (pa_cons (pe_op op_add (pe_callB call_lenZ (by rfl) T.f_len PySem.boot_len (pa_cons (pv 6) pa_nil)) pe_int) pa_nil))) (pa_cons (pe_fn draw fr hr rfl (pa_cons (pv 0) (pa_cons pe_int pa_nil))) pa_nil))) (pg_tup rfl (pgs_cons (pg_name (i := 7) sc_words.nd rfl (Or.inr rfl)) (pgs_cons (pg_name (i := 8) sc_words.nd rfl (Or.inr rfl)) pgs_nil))))
      (pss_one (ps_ret (pe_lc (own := [("_law_k", 9)]) (g := gName 9) (tt := tYes) rfl sc_words.nd (pi_range1 (by rfl) T.f_range (pa_cons (pv 1) pa_nil)) (blkOk_by (N := N_words) (sc := defScope s_words) (by decide +kernel)) (fun _ _ _ _ _ => (pg_name (i := 9) sc_words.nd rfl (Or.inl rfl))) (fun _ _ _ _ _ => pts_nil) (fun _ _ _ _ _ => (pe_op op_addZ (pe_op op_addZ (pe_slice sl_str (pv 6) po_none (po_some (pv 7))) (pe_ix ix_str (pv 2) (pe_op op_mod (pe_op op_add (pv 8) (pe_op op_mul pe_int (pv 9))) pe_int) (fun _ _ => rfl))) (pe_slice sl_str (pv 6) (po_some (pv 7)) po_none))))))))))))), ?_⟩
    refine st_set c (ev_str (z := abc)) fun v2 z2 H1 g1 k c h2 e2 => ?_
    cases e2
    refine st_set c (ev_list (evi_strs ["push", "open", "shut", "drop", "undo", "house", "hall", "lots", "pair", "chain", "row", "walk", "repeat"]) ?_) ?_
    · rintro _ rfl; decide
    intro v3 menu H2 g2 k c h3 e3
    cases e3
    refine st_set c (ev_cat (ev_var rfl h3) (ev_list (evi_strs ["free", "bound", "ok"]) ?_) ?_) ?_
    · rintro _ rfl; decide
    · rintro _ _ rfl rfl; decide
    intro v3 menu H3 g3 k c h3 e3
    have em : menu = mS := by
      obtain ⟨_, _, rfl, rfl, rfl⟩ := e3
      rfl
    subst em
    clear e3
    refine st_pair c (ev_d1 (ev_self rfl) ev_int ?_) (ev_d1 (ev_self rfl) ev_int ?_) ?_
    · rintro _ rfl; exact ⟨by decide, by decide⟩
    · rintro _ rfl; exact ⟨by decide, by decide⟩
    rintro v4 v5 first way H4 g4 k c h4 h5 ⟨_, rfl, a0, a1⟩ ⟨_, rfl, _, _⟩
    replace h3 := Rel.kp _ k h3
    have G4 := ((g1.trans g2).trans g3).trans g4
    refine st_if c (et_test (ev_eqI (ev_var (r := rI) rfl h5) ev_int)) (fun H5 g5 k c _ => ?_) fun H5 g5 k c _ => ?_
    · replace h3 := Rel.kp _ k h3
      refine st_ret c (ev_lcm (ρ := rS) (fun _ => true) (menuW first) (src_range (ev_var (r := rI) rfl h1) ?_) ?_ (fun _ => rfl) fun D l H6 hl g c1 n x v H7 hx kp c' hv => ⟨et_yes, fun _ => ?_⟩) ?_
      · rintro _ rfl; omega
      · rintro _ ⟨_, rfl, rfl⟩; rw [upto_len]; omega
      · have h3 := into c g n kp h3
        have h9 := hv
        refine Ev.mono (ev_ixL (ev_var rfl h3) (ev_mod (ev_plus (ev_var (r := rI) rfl h4) (ev_mulL ev_int (ev_var (r := rI) rfl h9) ?_)) ev_int ?_) ?_) ?_
        · rintro _ rfl; exact ⟨by decide, by decide⟩
        · rintro _ rfl; decide
        · rintro _ _ rfl ⟨_, _, _, rfl, rfl⟩
          exact And.intro (Int.emod_nonneg _ (by decide)) (Int.emod_lt_of_pos _ (by decide))
        · rintro y ⟨_, _, rfl, ⟨_, _, ⟨_, _, rfl, ⟨_, _, rfl, rfl, rfl⟩, rfl⟩, rfl, rfl⟩, _, hy⟩
          show y = mS.getD _ ""
          rw [List.getD_eq_getElem?_getD, hy]
          rfl
      · rintro u ws H6 g6 _ _ hu ⟨_, ⟨many, rfl, rfl⟩, rfl⟩
        refine q u _ H6 ((G4.trans g5).trans g6) hu ?_
        have := menu_wds a0 a1 (show 0 ≤ many by omega) m1
        rw [List.filter_eq_self.mpr fun _ _ => rfl]
        exact this
    · skip
      refine st_set c (ev_join ev_str (ev_stem c rfl (by decide) (by decide) (show (some (some v2)) = _ by rw [show v2 = .str abc from h2]) (fun _ => rfl) ?_ (src_range (ev_d1 (ev_self rfl) ev_int ?_) ?_)) ?_) ?_
      · rintro _ ⟨_, rfl, b0, b1⟩; omega
      · rintro _ rfl; exact ⟨by decide, by decide⟩
      · rintro _ ⟨_, rfl, b0, b1⟩; omega
      · rintro _ l rfl ⟨⟨n, ⟨_, rfl, n0, n1⟩, ln⟩, hy⟩
        have e1 : ∀ y ∈ l, y.length = 1 := fun y hm => by
          obtain ⟨cc, _, rfl⟩ := hy y hm
          rfl
        rw [sum_len e1]
        show l.length + l.length * 0 ≤ 100000
        omega
      rintro v6 stem H6 g6 k c h6 ⟨_, ys, rfl, ⟨⟨n, ⟨_, rfl, n0, n1⟩, ln⟩, hy⟩, rfl⟩
      have lst : (Txt.join "" ys).length ≤ 5 := by
        rw [join_len fun y hm => by
          obtain ⟨cc, _, rfl⟩ := hy y hm
          rfl]
        omega
      have ain := join_in hy
      generalize Txt.join "" ys = stem at h6 lst ain
      refine st_pair c (ev_d1 (ev_self rfl) (ev_plus (ev_lenZ (ev_var (r := rS) rfl h6) ?_) ev_int) ?_) (ev_d1 (ev_self rfl) ev_int ?_) ?_
      · rintro _ rfl; omega
      · rintro _ ⟨_, _, ⟨_, rfl, rfl⟩, rfl, rfl⟩; omega
      · rintro _ rfl; exact ⟨by decide, by decide⟩
      rintro v7 v8 at_ beg H7 g7 k c h7 h8 ⟨_, _, t0, _⟩ ⟨_, rfl, b0, b1⟩
      refine st_ret c (ev_lcm (ρ := rS) (fun _ => true) (stemW stem at_ beg) (src_range (ev_var (r := rI) rfl h1) ?_) ?_ (fun _ => rfl) fun D l H8 hl g c1 n x v H9 hx kp c' hv => ⟨et_yes, fun _ => ?_⟩) ?_
      · rintro _ rfl; omega
      · rintro _ ⟨_, rfl, rfl⟩; rw [upto_len]; omega
      · have h9 := hv
        refine Ev.mono (ev_addZ (ev_addZ (ev_slZ (ev_var (r := rS) rfl h6) eo_no (eo_at (ev_var (r := rI) rfl h7)) ?_) (ev_ixZ (ev_var (r := rS) rfl h2) (ev_mod (ev_plus (ev_var (r := rI) rfl h8) (ev_mulL ev_int (ev_var (r := rI) rfl h9) ?_)) ev_int ?_) ?_) ?_) (ev_slZ (ev_var (r := rS) rfl h6) (eo_at (ev_var (r := rI) rfl h7)) eo_no ?_) ?_) ?_
        · rintro _ rfl; omega
        · rintro _ rfl; exact ⟨by decide, by decide⟩
        · rintro _ rfl; decide
        · rintro _ _ rfl ⟨_, _, _, rfl, rfl⟩
          have : abc.length = 26 := by decide
          exact ⟨Int.emod_nonneg _ (by decide), by rw [this]; exact Int.emod_lt_of_pos _ (by decide), by decide⟩
        · rintro _ _ ⟨stem, lo, hi, rfl, _, _, rfl⟩ ⟨_, _, _, _, _, _, _, rfl⟩
          have := cutS_length stem lo hi
          show _ + 1 ≤ 100000
          omega
        · rintro _ rfl; omega
        · rintro _ _ ⟨_, _, ⟨_, lo, hi, rfl, _, _, rfl⟩, ⟨_, _, _, _, _, _, _, rfl⟩, rfl⟩ ⟨stem, lo2, hi2, rfl, _, _, rfl⟩
          rw [app_len]
          have := cutS_length stem lo hi
          have := cutS_length stem lo2 hi2
          show _ + 1 + _ ≤ 100000
          omega
        · rintro y ⟨_, _, ⟨_, _, ⟨_, _, _, rfl, rfl, ⟨_, rfl, rfl⟩, rfl⟩, ⟨_, _, cc, rfl, ⟨_, _, ⟨beg, _, rfl, ⟨_, x, rfl, rfl, rfl⟩, rfl⟩, rfl, rfl⟩, _, hc, rfl⟩, rfl⟩, ⟨stem, _, _, rfl, ⟨at_, rfl, rfl⟩, rfl, rfl⟩, rfl⟩
          show _ = cutS stem none (some at_) ++ ⟨#[letC beg x]⟩ ++ cutS stem (some at_) none
          have : letC beg x = cc := by
            unfold letC
            rw [List.getD_eq_getElem?_getD, hc]
            rfl
          rw [this]
      · rintro u ws H8 g8 _ _ hu ⟨_, ⟨many, rfl, rfl⟩, rfl⟩
        refine q u _ H8 ((((G4.trans g5).trans g6).trans g7).trans g8) hu ?_
        have := stem_wds ain lst t0 b0 b1 (show 0 ≤ many by omega) (show many ≤ 26 by omega)
        rw [List.filter_eq_self.mpr fun _ _ => rfl]
        exact this
end
end K43
namespace K43
open PySem PySem.Spec PyProof.Rows L2 Gd Gr
abbrev sIsC : Stmt := top 8
section
variable {P : Program} {w : World} {K : PySem.W.Frag} {mg : Str → Option Value} {base : Heap} {f : Addr} {fd : FuncData}
theorem scC : FnScope ["value", "letter"] ["value"] (defScope sIsC) := ⟨rfl, rfl, rfl, by decide +kernel, rfl, by decide +kernel, by decide +kernel⟩
theorem ok_is (F : FnP K "is_colour" sIsC f fd) (T : TxC K mg) : FnOk P w K mg base CX0 1 f fd ["value"] (spIs K) := by
  refine F.ok scC (fun vs H Q E h => ?_) (fun cdv A outer s H vs Q E hr h => ?_)
  · obtain ⟨v, b, rfl, _⟩ := h
    rfl
  · obtain ⟨v, b, rfl, hv, q⟩ := h
    obtain ⟨tl, gl⟩ := T.lets
    obtain ⟨tm, gm⟩ := T.most
    refine ⟨_, PSs.nox (pss_cons (ps_if (PW.pt (pw_or (pt_not (pt_val (pe_callB call_isi (by rfl) T.isi boot_isinstance (pa_cons (pv 0) (pa_cons (pe_bltn (v := .ty "str") (by rfl) T.str PyProof.Rows.boot_str rfl) pa_nil)))))
        (pw_or (pt_cmpR op_eq (pv 0) pe_str (nomark _)) (pw_or1 (pt_cmpR op_gt (pe_callB call_len_str (by rfl) T.len PySem.boot_len (pa_cons (pv 0) pa_nil)) (pe_glob (v := .int 6) rfl gm ⟨_, rfl⟩) (nomark _))))))
        (pss_one (ps_ret pe_bl)) pss_nil)
      (pss_one (ps_ret (pe_callB (cr_all rfl) (by rfl) T.all boot_all (pa_cons
        (pe_lc (own := [("letter", 1)]) (g := gName 1) (tt := tYes) rfl scC.nd (pi_str (pv 0)) (blkOk_by (N := ["value", "letter"]) (sc := defScope sIsC) (by decide +kernel))
          (fun _ _ _ _ _ => pg_name (i := 1) scC.nd rfl (Or.inl rfl)) (fun _ _ _ _ _ => pts_nil) (fun _ _ _ _ _ => pe_cmpR op_in_sign (pv 1) (pe_glob (v := .str abc) rfl gl ⟨_, rfl⟩) rfl)) pa_nil))))), ?_⟩
    cases hv with
    | other ht hn =>
      refine ⟨v, rfl, v, .ty "str", _, _, false, rfl, .ty "str", ht, hn, false, rfl, iteT ?_⟩
      exact q H (Same.refl H)
    | str z hz =>
      refine ⟨.str z, rfl, .str z, .ty "str", _, _, true, rfl, .ty "str", .base (.str z), kit_str, true, rfl, iteF ?_⟩
      refine ⟨.str z, rfl, rfl, _, rfl, ite2 (fun e => ?_) (fun e => ?_)⟩
      · have e0 : z = "" := V.str.inj (of_decide_eq_true e)
        subst e0
        exact iteT (q H (Same.refl H))
      · refine ⟨.str z, rfl, z, rfl, small100 hz, _, _, rfl, rfl, _, rfl, ite2 (fun e6 => ?_) (fun e6 => ?_)⟩
        · have h6 : (6 : Int) < (z.length : Int) := of_decide_eq_true e6
          have n : isC z = false := by
            unfold isC
            rw [decide_eq_false (show ¬ z.length < 7 by omega), Bool.false_and, Bool.and_false]
          rw [n] at q
          exact q H (Same.refl H)
        · have h6 : ¬ (6 : Int) < (z.length : Int) := fun c => e6 (decide_eq_true c)
          have h0 : 0 < z.length := Nat.pos_of_ne_zero fun c => e (by
            have : z = ("" : Str) := str_nil c
            rw [this]
            rfl)
          have n : isC z = allIn z := by
            unfold isC
            rw [decide_eq_true h0, decide_eq_true (show z.length < 7 by omega), Bool.true_and, Bool.true_and]
          rw [n] at q
          refine ⟨.str z, rfl, z, rfl, fun D hD => lc_it walk_str (fun i H' => Same H H' ∧ H' D = some (.lst (bs z i))) ⟨same_upd hD, upd_same⟩ (fun _ _ _ _ => trivial) ?_ ?_⟩
          · rintro i x H1 H2 hi ⟨s1, e1⟩ ⟨rfl, c, ec, rfl⟩
            refine ⟨rfl, _, rfl, c, abc, rfl, rfl, bs z i, e1, bs_small hz i, ?_, ?_⟩
            · exact s1.put hD
            · rw [upd_same, bs_step ec]
          · rintro H1 ⟨s1, e1⟩
            rw [bs_end] at e1
            refine ⟨D, _, rfl, .inl (.inl e1), ?_⟩
            rw [all_end]
            exact q H1 s1
end
abbrev spCol : Sp := C1 rS rB (fun z => z.length ≤ 100) (fun z b => b = isC z)
theorem TX.col {K : PySem.W.Frag} {mg : Str → Option Value} (T : TX mg) : TxC K mg := ⟨T.f_isinstance, T.f_str, T.f_len, T.f_all, T.lets, T.most⟩
theorem ok_col {P : Program} {w : World} {K : PySem.W.Frag} {mg : Str → Option Value} {base : Heap} {f : Addr} {fd : FuncData} (F : FnP K "is_colour" sIsC f fd) (T : TX mg) : FnG P w K mg base CX0 1 f fd ["value"] spCol :=
  FnG.weak (FnG.of (ok_is F T.col)) fun vs H Q E ⟨S, v, z, e, c, hv, hz, q⟩ => ⟨v, isC z, e, (show v = .str z from hv) ▸ .str z hz, fun H' s => q _ _ H' ⟨Kp.same s, trivial⟩ rfl rfl⟩
end K43
namespace K43
open PySem PySem.Spec PyProof.Rows L2 Gd Gr
section
variable {P : Program} {w : World} {K : PySem.W.Frag} {mg : Str → Option Value} {base : Heap} {f : Addr} {fd : FuncData}
abbrev s_cp : Stmt := top 10
abbrev N_cp : List Str := ["row"]
theorem sc_cp : FnScope N_cp ["row"] (defScope s_cp) := ⟨rfl, rfl, rfl, by decide +kernel, rfl, by decide +kernel, by decide +kernel⟩
abbrev spCp (K : PySem.W.Frag) : Sp := C1 (rT K rS) rN (fun l => l.length ≤ 400) (fun _ _ => True)
theorem ok_cp (F : FnP K "check_pushes" s_cp f fd) (T : TX mg) : FnG P w K mg base CX0 1 f fd ["row"] (spCp K) := by
  refine fun_g F sc_cp (fun vs H Q E h => ?_) (fun cdv A outer s H vs Q E fr hr h => ?_)
  · obtain ⟨S, v, x, rfl, _⟩ := h
    rfl
  · obtain ⟨S, v, row, rfl, c, h0, l0, q⟩ := h
    obtain ⟨tm, g_MOST_ROW⟩ := T.mrow
    refine ⟨_, PSs.nox (pss_one (ps_if (PW.pt (pw_or (pt_not (pt_val (pe_callB call_isi (by rfl) T.f_isinstance boot_isinstance (pa_cons (pv 0) (pa_cons (pe_bltn (v := .ty "tuple") (by rfl) T.f_tuple (by decide +kernel) rfl) pa_nil))))) (pw_or1 (pt_cmpR op_gt (pe_callB call_lenS (by rfl) T.f_len PySem.boot_len (pa_cons (pv 0) pa_nil)) (pe_glob (v := .int 400) rfl g_MOST_ROW ⟨_, rfl⟩) (nomark _))))) pss_never pss_nil)), ?_⟩
    refine st_ifF c (et_or (et_not (et_B (ev_isT (ev_var rfl h0)))) fun _ => (et_test (ev_cmp (ev_lenT (ev_var rfl h0)) ev_int))) ?_ fun H1 g k c => q _ () H1 g rfl trivial
    rintro (⟨z, _⟩ | ⟨_, _, _, ⟨_, rfl, rfl⟩, rfl, z⟩)
    · exact absurd z (by decide)
    · have := of_decide_eq_true z.symm
      omega
abbrev s_cr : Stmt := top 11
abbrev N_cr : List Str := ["row", "position", "colour"]
theorem sc_cr : FnScope N_cr ["row"] (defScope s_cr) := ⟨rfl, rfl, rfl, by decide +kernel, rfl, by decide +kernel, by decide +kernel⟩
abbrev spCr (K : PySem.W.Frag) : Sp := C1 (rT K rS) rN (fun l => l.length ≤ 400 ∧ ∀ z ∈ l, isC z = true) (fun _ _ => True)
theorem ok_cr (F : FnP K "check_row" s_cr f fd) (T : TX mg) (cp : Fn P w K mg base "check_pushes" 1 ["row"] (spCp K)) (col : Fn P w K mg base "is_colour" 1 ["value"] spCol) : FnG P w K mg base CX0 2 f fd ["row"] (spCr K) := by
  refine fun_g F sc_cr (fun vs H Q E h => ?_) (fun cdv A outer s H vs Q E fr hr h => ?_)
  · obtain ⟨S, v, x, rfl, _⟩ := h
    rfl
  · obtain ⟨S, v, row, rfl, c, h0, ⟨l0, l1⟩, q⟩ := h
    refine ⟨_, PSs.nox (pss_cons (ps_expr (pe_fn cp fr hr rfl (pa_cons (pv 0) pa_nil)))
      (pss_one (ps_for PassesOwn.never rfl (pi_enumT (by rfl) T.f_enumerate (pa_cons (pv 0) pa_nil)) (pg_tup rfl (pgs_cons (pg_name (i := 1) sc_cr.nd rfl (Or.inl rfl)) (pgs_cons (pg_name (i := 2) sc_cr.nd rfl (Or.inl rfl)) pgs_nil))) (pss_one (ps_if (pt_not (pt_val (pe_fn col fr hr rfl (pa_cons (pv 2) pa_nil)))) pss_never pss_nil))))), ?_⟩
    refine st_drop c (ev_c1 (ev_var rfl h0) ?_) ?_
    · rintro _ rfl; exact l0
    intro _ H1 g1 k c _
    replace h0 := Rel.kp _ k h0
    refine st_enum c (ev_var rfl h0) fun l H2 hl g2 k c => ⟨fun i σ' H' => (∃ y z, σ' = [some v, y, z]) ∧ Go e0 H2 H' ∧ Sc e0 S H', ⟨⟨none, none, rfl⟩, c.here, c⟩, ?_, ?_, ?_⟩
    · rintro i σ' H' ⟨_, g, c'⟩
      exact ⟨c.kp g, c'⟩
    · rintro i x u σ' H' H3 hx ⟨⟨y, z, rfl⟩, g, c'⟩ g3 c3 hu
      have h2 := hu
      refine st_ifF c3 (et_not (et_B (ev_c1 (ev_var rfl h2) ?_))) ?_ fun H4 g4 k4 c4 => ⟨⟨_, _, rfl⟩, (g.trans g3).trans g4, c4⟩
      · rintro x rfl
        have := (isC_fit (l1 x (hl ▸ List.mem_of_getElem? hx))).2
        omega
      · rintro ⟨x, rfl, z⟩
        rw [l1 x (hl ▸ List.mem_of_getElem? hx)] at z
        cases z
    · rintro σ' H' ⟨_, g, c'⟩
      exact q _ () H' ((g1.trans g2).trans g) rfl trivial
abbrev s_io : Stmt := top 12
abbrev N_io : List Str := ["values", "position"]
theorem sc_io : FnScope N_io ["values", "position"] (defScope s_io) := ⟨rfl, rfl, rfl, by decide +kernel, rfl, by decide +kernel, by decide +kernel⟩
abbrev spIo (K : PySem.W.Frag) : Sp := C2 (rT K rS) rI rB (fun l i => Asc l ∧ 0 ≤ i ∧ i < l.length) (fun _ _ b => b = true)
theorem ok_io (F : FnP K "is_in_order" s_io f fd) (T : TX mg) : FnG P w K mg base CX0 1 f fd ["values", "position"] (spIo K) := by
  refine fun_g F sc_io (fun vs H Q E h => ?_) (fun cdv A outer s H vs Q E fr hr h => ?_)
  · obtain ⟨S, v1, v2, x, y, rfl, _⟩ := h
    rfl
  · obtain ⟨S, v, u, l, i, rfl, c, h0, h1, ⟨asc, i0, i1⟩, q⟩ := h
    refine ⟨_, PSs.nox (pss_one (ps_ret (pe_or (pe_cmpR op_eq (pv 1) pe_int (nomark _)) (pe_one (pe_cmpR op_ltZ (pe_ix (show IxR _ (rIxT K) from ix_tup) (pv 0) (pe_op op_sub (pv 1) pe_int) (fun _ _ => rfl)) (pe_ix (show IxR _ (rIxT K) from ix_tup) (pv 0) (pv 1) (fun _ _ => rfl)) (nomark _)))))), ?_⟩
    refine st_ret c (ev_orV (ev_eqI (ev_var rfl h1) ev_int) fun ne => (ev_ltZ (ev_ixT (ev_var rfl h0) (ev_minus (ev_var rfl h1) ev_int) ?_) (ev_ixT (ev_var rfl h0) (ev_var rfl h1) ?_))) ?_
    · rintro _ _ rfl ⟨_, _, rfl, rfl, rfl⟩
      obtain ⟨_, _, rfl, rfl, z⟩ := ne
      have := of_decide_eq_false z.symm
      omega
    · rintro _ _ rfl rfl; exact ⟨i0, i1⟩
    rintro x b H1 g k c1 hx hb
    refine q x b H1 g hx ?_
    rcases hb with ⟨_, e⟩ | ⟨⟨_, _, rfl, rfl, z⟩, a, d, ⟨_, _, rfl, ⟨_, _, rfl, rfl, rfl⟩, p0, ha⟩, ⟨_, _, rfl, rfl, _, hd⟩, e⟩
    · exact e
    · rw [e]
      refine decide_eq_true (asc.at ha ?_)
      rw [← hd]
      congr 1
      omega
abbrev s_ca : Stmt := top 13
abbrev N_ca : List Str := ["colours", "position", "colour"]
theorem sc_ca : FnScope N_ca ["colours"] (defScope s_ca) := ⟨rfl, rfl, rfl, by decide +kernel, rfl, by decide +kernel, by decide +kernel⟩
abbrev spCa (K : PySem.W.Frag) : Sp := C1 (rT K rS) rN (fun l => Asc l ∧ ∀ z ∈ l, isC z = true) (fun _ _ => True)
theorem ok_ca (F : FnP K "check_any_colours" s_ca f fd) (T : TX mg) (io : Fn P w K mg base "is_in_order" 1 ["values", "position"] (spIo K)) (col : Fn P w K mg base "is_colour" 1 ["value"] spCol) : FnG P w K mg base CX0 2 f fd ["colours"] (spCa K) := by
  refine fun_g F sc_ca (fun vs H Q E h => ?_) (fun cdv A outer s H vs Q E fr hr h => ?_)
  · obtain ⟨S, v, x, rfl, _⟩ := h
    rfl
  · obtain ⟨S, v, cols, rfl, c, h0, ⟨asc, l1⟩, q⟩ := h
    refine ⟨_, PSs.nox (pss_cons (ps_if (pt_not (pt_val (pe_callB call_isi (by rfl) T.f_isinstance boot_isinstance (pa_cons (pv 0) (pa_cons (pe_bltn (v := .ty "tuple") (by rfl) T.f_tuple (by decide +kernel) rfl) pa_nil))))) pss_never pss_nil)
      (pss_one (ps_for PassesOwn.never rfl (pi_enumT (by rfl) T.f_enumerate (pa_cons (pv 0) pa_nil)) (pg_tup rfl (pgs_cons (pg_name (i := 1) sc_ca.nd rfl (Or.inl rfl)) (pgs_cons (pg_name (i := 2) sc_ca.nd rfl (Or.inl rfl)) pgs_nil))) (pss_one (ps_if (PW.pt (pw_or (pt_not (pt_val (pe_fn col fr hr rfl (pa_cons (pv 2) pa_nil)))) (pw_or1 (pt_not (pt_val (pe_fn io fr hr rfl (pa_cons (pv 0) (pa_cons (pv 1) pa_nil)))))))) pss_never pss_nil))))), ?_⟩
    refine st_ifF c (et_not (et_B (ev_isT (ev_var rfl h0)))) ?_ fun H1 g1 k c => ?_
    · intro z; exact absurd z (by decide)
    replace h0 := Rel.kp _ k h0
    refine st_enum c (ev_var rfl h0) fun l H2 hl g2 k c => ⟨fun i σ' H' => (∃ y z, σ' = [some v, y, z]) ∧ Go e0 H2 H' ∧ Sc e0 S H', ⟨⟨none, none, rfl⟩, c.here, c⟩, ?_, ?_, ?_⟩
    · rintro i σ' H' ⟨_, g, c'⟩
      exact ⟨c.kp g, c'⟩
    · rintro i x u σ' H' H3 hx ⟨⟨y, z, rfl⟩, g, c'⟩ g3 c3 hu
      have h2 := hu
      have h0 := Rel.kp _ (k.trans ((c.kp g).trans (c'.kp g3))) h0
      have h1 : rI.rp S H3 (.int (i : Int)) (i : Int) := rfl
      cases hl
      have hi := (List.getElem?_eq_some_iff.mp hx).1
      refine st_ifF c3 (et_or (et_not (et_B (ev_c1 (ev_var rfl h2) ?_))) (fun _ => (et_not (et_B (ev_c2 (ev_var rfl h0) (ev_var rfl h1) ?_))))) ?_ fun H4 g4 k4 c4 => ⟨⟨_, _, rfl⟩, (g.trans g3).trans g4, c4⟩
      · rintro x rfl
        have := (isC_fit (l1 x (List.mem_of_getElem? hx))).2
        omega
      · rintro _ _ rfl rfl; exact ⟨asc, by omega, by omega⟩
      · rintro (⟨⟨x, rfl, z⟩, _⟩ | ⟨_, _, _, rfl, rfl, z⟩)
        · rw [l1 x (List.mem_of_getElem? hx)] at z
          cases z
        · cases z
    · rintro σ' H' ⟨_, g, c'⟩
      exact q _ () H' ((g1.trans g2).trans g) rfl trivial
abbrev s_po : Stmt := top 15
abbrev N_po : List Str := ["row", "colours", "colour"]
theorem sc_po : FnScope N_po ["row", "colours"] (defScope s_po) := ⟨rfl, rfl, rfl, by decide +kernel, rfl, by decide +kernel, by decide +kernel⟩
abbrev spPo (K : PySem.W.Frag) : Sp := C2 (rT K rS) (rT K rS) (rT K rS) (fun l _ => l.length ≤ 400) (fun l m z => z = l.filter fun x => decide (x ∈ m))
theorem ok_po (F : FnP K "pushes_of" s_po f fd) (T : TX mg) : FnG P w K mg base CX0 1 f fd ["row", "colours"] (spPo K) := by
  refine fun_g F sc_po (fun vs H Q E h => ?_) (fun cdv A outer s H vs Q E fr hr h => ?_)
  · obtain ⟨S, v1, v2, x, y, rfl, _⟩ := h
    rfl
  · obtain ⟨S, v, u, row, cols, rfl, c, h0, h1, l0, q⟩ := h
    refine ⟨_, PSs.nox (pss_one (ps_ret (pe_callTy call_tupleOf (by rfl) T.f_tuple PyProof.Rows.boot_tuple (pa_cons (pe_lc (own := [("colour", 2)]) (g := gName 2) (tt := _) rfl sc_po.nd (pi_tup (pv 0)) (blkOk_by (N := N_po) (sc := defScope s_po) (by decide +kernel)) (fun _ _ _ _ _ => (pg_name (i := 2) sc_po.nd rfl (Or.inl rfl))) (fun _ _ _ _ _ => pts_one (pt_cmpR (show OpR _ (compareOp .In) (rIn K false) from op_in_seq) (pv 2) (pv 1) rfl)) (fun _ _ _ _ _ => (pv 2))) pa_nil)))), ?_⟩
    refine st_ret c (ev_tupleL (ev_lcm (ρ := rS) (fun x => decide (x ∈ cols)) id (src_tup (ev_var rfl h0)) ?_ (fun _ => rfl) fun D l H1 hl g c1 n x v H' hx kp c' hv => ⟨?_, fun _ => ?_⟩)) ?_
    · rintro _ rfl; omega
    · have h1 := into c g n kp h1
      have h2 := hv
      refine EvT.mono (et_test (ev_in (ev_var rfl h2) (ev_var rfl h1))) ?_
      rintro b ⟨_, _, rfl, rfl, e⟩
      rw [e]; simp
    · have h2 := hv
      exact (ev_var rfl h2)
    · rintro x z H1 g _ _ hx ⟨_, rfl, rfl⟩
      exact q x _ H1 g hx (by rw [List.map_id])
abbrev s_pj : Stmt := top 16
abbrev N_pj : List Str := ["row", "colours"]
theorem sc_pj : FnScope N_pj ["row", "colours"] (defScope s_pj) := ⟨rfl, rfl, rfl, by decide +kernel, rfl, by decide +kernel, by decide +kernel⟩
abbrev spPj (K : PySem.W.Frag) : Sp := C2 (rT K rS) (rT K rS) (rT K rS) (fun l m => (l.length ≤ 400 ∧ ∀ z ∈ l, isC z = true) ∧ Asc m ∧ ∀ z ∈ m, isC z = true) (fun l m z => z = l.filter fun x => decide (x ∈ m))
theorem ok_pj (F : FnP K "projection" s_pj f fd) (cr : Fn P w K mg base "check_row" 2 ["row"] (spCr K)) (ca : Fn P w K mg base "check_any_colours" 2 ["colours"] (spCa K)) (po : Fn P w K mg base "pushes_of" 1 ["row", "colours"] (spPo K)) : FnG P w K mg base CX0 3 f fd ["row", "colours"] (spPj K) := by
  refine fun_g F sc_pj (fun vs H Q E h => ?_) (fun cdv A outer s H vs Q E fr hr h => ?_)
  · obtain ⟨S, v1, v2, x, y, rfl, _⟩ := h
    rfl
  · obtain ⟨S, v, u, row, cols, rfl, c, h0, h1, ⟨l0, l1⟩, q⟩ := h
    refine ⟨_, PSs.nox (pss_cons (ps_expr (pe_fn cr fr hr rfl (pa_cons (pv 0) pa_nil)))
      (pss_cons (ps_expr (pe_fn ca fr hr rfl (pa_cons (pv 1) pa_nil)))
      (pss_one (ps_ret (pe_fn po fr (hr.mono (by decide)) rfl (pa_cons (pv 0) (pa_cons (pv 1) pa_nil))))))), ?_⟩
    refine st_drop c (ev_c1 (ev_var rfl h0) ?_) ?_
    · rintro _ rfl; exact l0
    intro _ H1 g1 k c _
    replace h0 := Rel.kp _ k h0
    replace h1 := Rel.kp _ k h1
    refine st_drop c (ev_c1 (ev_var rfl h1) ?_) ?_
    · rintro _ rfl; exact l1
    intro _ H2 g2 k c _
    replace h0 := Rel.kp _ k h0
    replace h1 := Rel.kp _ k h1
    refine st_ret c (ev_c2 (ev_var rfl h0) (ev_var rfl h1) ?_) ?_
    · rintro _ _ rfl rfl; exact l0.1
    rintro x z H3 g3 _ _ hx ⟨_, _, rfl, rfl, e⟩
    exact q x z H3 ((g1.trans g2).trans g3) hx e
end
end K43
namespace K43
open PySem PySem.Spec PyProof.Rows L2 Gd Gr
section
variable {P : Program} {w : World} {K : PySem.W.Frag} {mg : Str → Option Value} {base : Heap} {f : Addr} {fd : FuncData}
abbrev s_kept : Stmt := top 22
abbrev N_kept : List Str := ["_law_strip_here", "_law_some_here", "_law_found", "_law_hue"]
theorem sc_kept : FnScope N_kept ["_law_strip_here", "_law_some_here"] (defScope s_kept) := ⟨rfl, rfl, rfl, by decide +kernel, rfl, by decide +kernel, by decide +kernel⟩
abbrev spKept (K : PySem.W.Frag) : Sp := C2 (rT K rS) (rT K rS) (rT K rS) (fun l _ => l.length ≤ 400) (fun l m z => z = l.filter fun x => decide (x ∈ m))
theorem ok_kept (F : FnP K "_law_kept" s_kept f fd) (T : TX mg) : FnG P w K mg base CX0 1 f fd ["_law_strip_here", "_law_some_here"] (spKept K) := by
  refine fun_g F sc_kept (fun vs H Q E h => ?_) (fun cdv A outer s H vs Q E fr hr h => ?_)
  · obtain ⟨S, v1, v2, x, y, rfl, _⟩ := h
    rfl
  · obtain ⟨S, v, u, row, some_, rfl, c, h0, h1, l0, q⟩ := h
    refine ⟨_, PSs.nox (pss_cons (ps_set (i := 2) sc_kept.nd rfl (.inl rfl) (pe_lst pa_nil))
      (pss_cons (ps_for PassesOwn.never rfl (pi_tup (pv 0)) (pg_name (i := 3) sc_kept.nd rfl (Or.inl rfl)) (pss_one (ps_if (pt_cmpR (show OpR _ (compareOp .In) (rIn K false) from op_in_seq) (pv 3) (pv 1) rfl) (pss_one (ps_expr (pe_bm PySem.F.plainAttrs_list PySem.F.slot_list_append PySem.F.type_list_append mt_append (pv 2) (pa_cons (pv 3) pa_nil)))) pss_nil)))
      (pss_one (ps_ret (pe_callTy call_tupleOf (by rfl) T.f_tuple PyProof.Rows.boot_tuple (pa_cons (pv 2) pa_nil)))))), ?_⟩
    refine st_own (r := rS) c .nil (fun _ e => by rw [e]; decide) fun m xs l H1 n mS mW g1 c1 hm al e => ?_
    cases e
    cases al
    have h0 := own_in c g1 n h0
    have h1 := own_in c g1 n h1
    refine st_for c1 (src_tup (ev_var rfl h0)) fun l H2 hl g2 c2 => ⟨fun k σ' H' => (∃ y, σ' = [some v, some u, some (.ref m), y]) ∧ Kp (m :: e0.S) H2 H' ∧ Sc e0 (m :: S) H' ∧ H' m = some (.lst (((l.take k).filter fun x => decide (x ∈ some_)).map V.str)), ?_, ?_, ?_, ?_⟩
    · exact ⟨⟨none, rfl⟩, Kp.refl, c2, g2.1 m _ nofun hm⟩
    · rintro k σ' H' ⟨_, kp, _⟩
      exact c2.kpi (List.mem_cons_self ..) kp
    · rintro k x vx σ' H' hx ⟨⟨y, rfl⟩, kp, c', em⟩ hv
      have h3 := hv
      have kk := (c1.kp g2).trans (c2.kpi (List.mem_cons_self ..) kp)
      have h1 := Rel.kp _ kk h1
      have tk : l.take (k + 1) = l.take k ++ [x] := by rw [List.take_add_one, hx]; rfl
      cases hl
      refine st_if c' (et_test (ev_in (ev_var (r := rS) rfl h3) (ev_var rfl h1))) (fun H3 g3 k3 c3 hb => ?_) fun H3 g3 k3 c3 hb => ?_
      · obtain ⟨x, some_, rfl, rfl, hb⟩ := hb
        refine st_app c3 (List.mem_cons_self ..) nofun (g3.1 m _ nofun em) rfl ?_ (ev_var (r := rS) rfl h3) fun v2 x2 H4 k4 c4 e4 hv4 hx4 => ?_
        · rw [List.length_map]
          have := List.length_filter_le (fun x => decide (x ∈ some_)) (row.take k)
          have := List.length_take_le' k row
          omega
        · cases hx4
          refine ⟨⟨_, rfl⟩, (kp.trans g3.1.cons).trans k4, c4, ?_⟩
          rw [e4, tk, List.filter_append, List.filter_cons_of_pos (by simpa using hb), show v2 = .str x from hv4]
          simp
      · obtain ⟨x, some_, rfl, rfl, hb⟩ := hb
        refine ⟨⟨_, rfl⟩, kp.trans g3.1.cons, c3, ?_⟩
        rw [g3.1 m _ nofun em, tk, List.filter_append, List.filter_cons_of_neg (by simpa using hb)]
        simp
    · rintro σ' H' ⟨⟨y, rfl⟩, kp, c', em⟩
      cases hl
      rw [List.take_length] at em
      have h2 : (rL rS).rp S H' (.ref m) (row.filter fun x => decide (x ∈ some_)) := own_done em mS (str_all _)
      refine st_ret (c'.tail nofun) (ev_tupleL (ev_var rfl h2)) fun x z H3 g3 _ _ hx hz => ?_
      exact q x z H3 ((own_go n (g1.trans g2) kp c'.ok).trans g3) hx hz
end
end K43
namespace K43
open PySem PySem.Spec PyProof.Rows L2 Gd Gr
section
variable {P : Program} {w : World} {K : PySem.W.Frag} {mg : Str → Option Value} {base : Heap} {f : Addr} {fd : FuncData}
abbrev s_some : Stmt := top 23
abbrev N_some : List Str := ["_law_deck_here", "_law_words_here", "_law_share", "_law_turned", "_law_found", "_law_word"]
theorem sc_some : FnScope N_some ["_law_deck_here", "_law_words_here"] (defScope s_some) := ⟨rfl, rfl, rfl, by decide +kernel, rfl, by decide +kernel, by decide +kernel⟩
abbrev spSome (K : PySem.W.Frag) : Sp := D1 PD (rL rS) (rT K rS) (fun ws => ws.length ≤ 16 ∧ ws.Nodup) (fun ws z => Asc z ∧ (∀ x ∈ z, x ∈ ws) ∧ z.length ≤ 16)
theorem ok_some (F : FnP K "_law_some" s_some f fd) (T : TX mg) (draw : Fn P w K mg base "_law_draw" 1 ["_law_deck_here", "_law_many"] spDraw) : FnG P w K mg base CX0 2 f fd ["_law_deck_here", "_law_words_here"] (spSome K) := by
  refine fun_g F sc_some (fun vs H Q E h => ?_) (fun cdv A outer s H vs Q E fr hr h => ?_)
  · obtain ⟨S, p, v, x, rfl, _⟩ := h
    rfl
  · obtain ⟨S, p, v, ws, rfl, c, h1, ⟨l0, nd⟩, q⟩ := h
    have hu66 : (A.deeper (envOfC "_law_some" (defScope s_some) s.heap.objs.size f cdv)).units + 66 < cLine := by have := hr.un; omega
    refine ⟨_, PSs.nox (pss_cons (ps_par3 (i := 2) (j := 3) (l := 4) rfl sc_some.nd rfl rfl rfl (by decide) (by decide) (by decide) rfl rfl rfl (pa_cons (pe_ix (show IxR _ (rIxL K) from ix_list) (pe_lst (pa_cons pe_int (pa_cons pe_int (pa_cons pe_int (pa_cons pe_int pa_nil))))) (pe_fn draw fr hr rfl (pa_cons (pv 0) (pa_cons pe_int pa_nil))) (fun _ _ => rfl)) (pa_cons (pe_fn draw fr hr rfl (pa_cons (pv 0) (pa_cons pe_int pa_nil))) (pa_cons (pe_lst pa_nil) pa_nil))) rfl)
      (pss_cons (ps_for PassesOwn.never rfl (pi_list (pv 1)) (pg_name (i := 5) sc_some.nd rfl (Or.inl rfl)) (pss_one (ps_if (pt_cmpR op_eq (pe_cmpR op_eq (pe_fn draw fr hr rfl (pa_cons (pv 0) (pa_cons (pv 2) pa_nil))) pe_int (nomark _)) (pe_or (pe_cmpR op_eq (pv 3) pe_int (nomark _)) (pe_one (pe_cmpR op_eq (pv 2) pe_int (nomark _)))) (nomark _)) (pss_one (ps_expr (pe_bm PySem.F.plainAttrs_list PySem.F.slot_list_append PySem.F.type_list_append mt_append (pv 4) (pa_cons (pv 5) pa_nil)))) pss_nil)))
      (pss_one (ps_ret (pe_callTy call_tupleOf (by rfl) T.f_tuple PyProof.Rows.boot_tuple (pa_cons (pe_callB (call_sortD (enc := PyData.str) hu66) (by rfl) T.f_sorted (by decide +kernel) (pa_cons (pv 4) pa_nil)) pa_nil)))))), ?_⟩
    refine st_par3o c (ev_ixL (ev_list (evi_ints [2, 5, 5, 1]) ?_) (ev_d1 (ev_self rfl) ev_int ?_) ?_) (ev_d1 (ev_self rfl) ev_int ?_) ?_
    · rintro _ rfl; decide
    · rintro _ rfl; exact ⟨by decide, by decide⟩
    · rintro _ _ rfl ⟨_, rfl, a0, a1⟩; exact ⟨a0, a1⟩
    · rintro _ rfl; exact ⟨by decide, by decide⟩
    rintro m v2 v3 share turned H1 n mS mW g1 c1 hm h2 h3 ⟨_, _, rfl, _, _, hs⟩ _
    have sh : 1 ≤ share ∧ share ≤ 5 := by
      have := List.mem_of_getElem? hs
      simp only [List.mem_cons, List.not_mem_nil, or_false] at this
      omega
    have h1 := own_in c g1 n h1
    refine st_for c1 (src_list (ev_var rfl h1)) fun l H2 hl g2 c2 => ⟨fun k σ' H' => (∃ y, σ' = [some (.ref p), some v, some v2, some v3, some (.ref m), y]) ∧ Kp (m :: (eP PD p).S) H2 H' ∧ Sc (eP PD p) (m :: S) H' ∧ ∃ fs : List Str, H' m = some (.lst (fs.map V.str)) ∧ fs.Sublist (l.take k), ?_, ?_, ?_, ?_⟩
    · exact ⟨⟨none, rfl⟩, Kp.refl, c2, [], g2.1 m _ mW hm, List.nil_sublist _⟩
    · rintro k σ' H' ⟨_, kp, _⟩
      exact c2.kpi (List.mem_cons_self ..) kp
    · rintro k x vx σ' H' hx ⟨⟨y, rfl⟩, kp, c', fs, em, sub⟩ hv
      have h5 := hv
      have tk : l.take (k + 1) = l.take k ++ [x] := by rw [List.take_add_one, hx]; rfl
      refine st_if c' (et_test (ev_eqB (ev_eqI (ev_d1 (ev_self rfl) (ev_var (r := rI) rfl h2) ?_) ev_int) (ev_orV (ev_eqI (ev_var (r := rI) rfl h3) ev_int) (fun _ => (ev_eqI (ev_var (r := rI) rfl h2) ev_int))))) (fun H3 g3 k3 c3 _ => ?_) fun H3 g3 k3 c3 _ => ?_
      · rintro _ rfl; omega
      · refine st_app c3 (List.mem_cons_self ..) mW (g3.1 m _ mW em) rfl ?_ (ev_var (r := rS) rfl h5) fun v2 x2 H4 k4 c4 e4 hv4 hx4 => ?_
        · rw [List.length_map]
          have := sub.length_le
          have := List.length_take_le' k l
          have := congrArg List.length hl
          omega
        · cases hx4
          refine ⟨⟨_, rfl⟩, (kp.trans g3.1.cons).trans k4, c4, fs ++ [x], ?_, ?_⟩
          · rw [e4, show v2 = .str x from hv4]; simp
          · rw [tk]; exact sub.append (List.Sublist.refl _)
      · refine ⟨⟨_, rfl⟩, kp.trans g3.1.cons, c3, fs, g3.1 m _ mW em, ?_⟩
        rw [tk]
        exact sub.trans (List.sublist_append_left ..)
    · rintro σ' H' ⟨⟨y, rfl⟩, kp, c', fs, em, sub⟩
      rw [List.take_length, hl] at sub
      have ls := sub.length_le
      have h4 : (rL rS).rp S H' (.ref m) fs := own_done em mS (str_all _)
      refine st_ret (c'.tail c.sub) (ev_tupleL (ev_sortL ord_str dat_S (ev_var rfl h4))) ?_
      rintro x z H3 g3 _ _ hx ⟨fs, rfl, rfl⟩
      have pm := List.mergeSort_perm fs (PySem.W.dataLe false PyData.str)
      refine q x _ H3 ((own_go n (g1.trans g2) kp c'.ok).trans g3) hx ⟨asc_sort (sub.nodup nd), fun x hx => sub.subset (pm.mem_iff.mp hx), ?_⟩
      rw [pm.length_eq]
      omega
abbrev s_strip : Stmt := top 24
abbrev N_strip : List Str := ["_law_deck_here", "_law_words_here", "_law_many", "_law_long", "_law_k"]
theorem sc_strip : FnScope N_strip ["_law_deck_here", "_law_words_here"] (defScope s_strip) := ⟨rfl, rfl, rfl, by decide +kernel, rfl, by decide +kernel, by decide +kernel⟩
abbrev spStrip (K : PySem.W.Frag) : Sp := D1 PD (rL rS) (rT K rS) (fun ws => ws.length = 16) (fun ws z => z.length ≤ 400 ∧ ∀ x ∈ z, x ∈ ws)
theorem ok_strip (F : FnP K "_law_strip" s_strip f fd) (T : TX mg) (draw : Fn P w K mg base "_law_draw" 1 ["_law_deck_here", "_law_many"] spDraw) : FnG P w K mg base CX0 2 f fd ["_law_deck_here", "_law_words_here"] (spStrip K) := by
  refine fun_g F sc_strip (fun vs H Q E h => ?_) (fun cdv A outer s H vs Q E fr hr h => ?_)
  · obtain ⟨S, p, v, x, rfl, _⟩ := h
    rfl
  · obtain ⟨S, p, v, ws, rfl, c, h1, l0, q⟩ := h
    refine ⟨_, PSs.nox (pss_cons (ps_asg (pe_tup (pa_cons (pe_op op_add pe_int (pe_fn draw fr hr rfl (pa_cons (pv 0) (pa_cons pe_int pa_nil)))) (pa_cons (pe_ix (show IxR _ (rIxL K) from ix_list) (pe_lst (pa_cons (pe_fn draw fr hr rfl (pa_cons (pv 0) (pa_cons pe_int pa_nil))) (pa_cons pe_int pa_nil))) (pe_callTy call_int1 (by rfl) T.f_int (by decide +kernel) (pa_cons (pe_cmpR op_eq (pe_fn draw fr hr rfl (pa_cons (pv 0) (pa_cons pe_int pa_nil))) pe_int (nomark _)) pa_nil)) (fun _ _ => rfl)) pa_nil))) (pg_tup rfl (pgs_cons (pg_name (i := 2) sc_strip.nd rfl (Or.inr rfl)) (pgs_cons (pg_name (i := 3) sc_strip.nd rfl (Or.inl rfl)) pgs_nil))))
      (pss_cons (ps_if (pt_cmpR op_eq (pe_fn draw fr hr rfl (pa_cons (pv 0) (pa_cons pe_int pa_nil))) pe_int (nomark _)) (pss_one (ps_set (i := 2) sc_strip.nd rfl (.inr rfl) pe_int)) pss_nil)
      (pss_one (ps_ret (pe_callTy call_tupleOf (by rfl) T.f_tuple PyProof.Rows.boot_tuple (pa_cons (pe_lc (own := [("_law_k", 4)]) (g := gName 4) (tt := tYes) rfl sc_strip.nd (pi_range1 (by rfl) T.f_range (pa_cons (pv 3) pa_nil)) (blkOk_by (N := N_strip) (sc := defScope s_strip) (by decide +kernel)) (fun _ _ _ _ _ => (pg_name (i := 4) sc_strip.nd rfl (Or.inl rfl))) (fun _ _ _ _ _ => pts_nil) (fun _ _ _ _ _ => (pe_ix (show IxR _ (rIxL K) from ix_list) (pv 1) (pe_fn draw fr hr rfl (pa_cons (pv 0) (pa_cons (pv 2) pa_nil))) (fun _ _ => rfl)))) pa_nil)))))), ?_⟩
    refine st_pair c (ev_plus ev_int (ev_d1 (ev_self rfl) ev_int ?_)) (ev_ixL (ev_list (.cons (ev_d1 (ev_self rfl) ev_int ?_) (.cons ev_int .nil)) ?_) (ev_intB (ev_eqI (ev_d1 (ev_self rfl) ev_int ?_) ev_int)) ?_) ?_
    · rintro _ rfl; exact ⟨by decide, by decide⟩
    · rintro _ rfl; exact ⟨by decide, by decide⟩
    · rintro _ ⟨_, _, rfl, _, _, _, rfl, _, rfl⟩; show 2 ≤ 100000; decide
    · rintro _ rfl; exact ⟨by decide, by decide⟩
    · rintro _ _ ⟨_, _, rfl, _, _, _, rfl, _, rfl⟩ ⟨b, _, rfl⟩
      cases b
      · exact ⟨by decide, by show (0 : Int) < 2; decide⟩
      · exact ⟨by decide, by show (1 : Int) < 2; decide⟩
    rintro v2 v3 many long H1 g1 k c h2 h3 ⟨_, _, rfl, ⟨_, rfl, a0, a1⟩, rfl⟩ ⟨_, _, ⟨b, _, rfl, ⟨_, rfl, b0, b1⟩, d, _, rfl, rfl, rfl⟩, _, _, hlong⟩
    replace h1 := Rel.kp _ k h1
    have ll : 0 ≤ long ∧ long ≤ 400 := by
      have := List.mem_of_getElem? hlong
      simp only [List.mem_cons, List.not_mem_nil, or_false] at this
      omega
    have fin : ∀ (σ : L2.St) (many : Int) (H2 : Hp), 1 ≤ many → many ≤ 16 → Go (eP PD p) H H2 → Sc (eP PD p) S H2 → (rL rS).rp S H2 v ws → ∀ vm, vm = V.int many → σ = [some (.ref p), some v, some vm, some v3, none] → Ev (eP PD p) S (tCB (rTupleOf K) (tCons (tLc (iRng1 (tCons (tVar 3) tNil)) (gName 4) tYes (tOp (rIxL K) (tVar 1) (tCall spDraw [] E0 (tCons (tVar 0) (tCons (tVar 2) tNil)))) [4]) tNil)) σ H2 (rT K rS) (fun z => z.length ≤ 400 ∧ ∀ x ∈ z, x ∈ ws) := by
      rintro σ many H2 m1 m2 G c h1 vm h2 rfl
      refine ev_tupleL (ev_lc (src_range (Φ := (· = long)) (ev_var (r := rI) rfl h3) ?_) ?_ fun D l H3 hl g c1 n => ⟨fun k acc => acc.length = k ∧ ∀ x ∈ acc, x ∈ ws, ⟨rfl, nofun⟩, fun i x vx acc H' hx ⟨ha, hb⟩ kp c' hv => ⟨_, fun Q h => h, rfl, _, et_yes, nofun, fun _ => ?_⟩, ?_⟩)
      · rintro _ rfl; omega
      · rintro _ ⟨_, rfl, rfl⟩; rw [upto_len]; omega
      · have h1 := into c g n kp h1
        refine ⟨_, ev_ixL (ev_var rfl h1) (ev_d1 (ev_self rfl) (ev_var (r := rI) rfl h2) (by rintro _ rfl; omega)) (by rintro _ _ rfl ⟨_, rfl, b0, b1⟩; omega), ?_⟩
        rintro y ⟨_, _, rfl, _, _, hy⟩
        refine ⟨by rw [List.length_append, ha]; rfl, fun z hz => ?_⟩
        rcases List.mem_append.mp hz with q | q
        · exact hb z q
        · rw [List.mem_singleton.mp q]; exact List.mem_of_getElem? hy
      · rintro z ⟨hz, hb⟩
        obtain ⟨_, rfl, rfl⟩ := hl
        rw [upto_len] at hz
        exact ⟨by omega, hb⟩
    refine st_if c (et_test (ev_eqI (ev_d1 (ev_self rfl) ev_int ?_) ev_int)) (fun H2 g2 k c _ => ?_) fun H2 g2 k c _ => ?_
    · rintro _ rfl; exact ⟨by decide, by decide⟩
    · replace h1 := Rel.kp _ k h1
      refine st_set c ev_int fun v4 one H3 g3 k c h4 e => ?_
      cases e
      replace h1 := Rel.kp _ k h1
      refine st_ret c (fin _ 1 H3 (by decide) (by decide) ((g1.trans g2).trans g3) c h1 _ h4 rfl) fun x z H4 g4 _ _ hx hz => ?_
      exact q x z H4 (((g1.trans g2).trans g3).trans g4) hx hz
    · replace h1 := Rel.kp _ k h1
      refine st_ret c (fin _ _ H2 (by omega) (by omega) (g1.trans g2) c h1 _ h2 rfl) fun x z H4 g4 _ _ hx hz => ?_
      exact q x z H4 ((g1.trans g2).trans g4) hx hz
end
end K43
namespace K43
open PySem PySem.Spec PyProof.Rows L2 Gd Gr
theorem nice_cols {l : List Str} (h : ∀ z ∈ l, isC z = true) (n : l.length ≤ 400) : Nice 1 2800 (.tuple (l.map PyData.str)) := by
  refine (nice_tup (niceAll_of (k := 0) (W := 6) fun d hd => ?_)).mono (by decide) (by rw [List.length_map]; omega)
  obtain ⟨z, hz, rfl⟩ := List.mem_map.mp hd
  obtain ⟨a, b⟩ := isC_fit (h z hz)
  exact nice_str a b
theorem nice_some {ls : List (List Str)} {n : Nat} (h : ∀ l ∈ ls, (∀ z ∈ l, isC z = true) ∧ l.length ≤ 400) (hn : ls.length ≤ n) (n9 : n ≤ 9) : Nice 60 900000 (.list (ls.map fun l => .tuple (l.map PyData.str))) := by
  refine (nice_lst (niceAll_of (k := 1) (W := 2800) fun d hd => ?_)).mono (by decide) (by rw [List.length_map]; omega)
  obtain ⟨l, hl, rfl⟩ := List.mem_map.mp hd
  exact nice_cols (h l hl).1 (h l hl).2
section
variable {P : Program} {w : World} {K : PySem.W.Frag} {mg : Str → Option Value} {base : Heap} {f : Addr} {fd : FuncData}
abbrev s_right : Stmt := top 25
abbrev N_right : List Str := ["_law_deck_here", "_law_words_here", "_law_strip_here", "_law_every", "_law_shown", "_law_turn", "_law_some_here", "_law_fewer", "_law_due", "_law_told", "_law_both", "_law_word"]
theorem sc_right : FnScope N_right ["_law_deck_here"] (defScope s_right) := ⟨rfl, rfl, rfl, by decide +kernel, rfl, by decide +kernel, by decide +kernel⟩
abbrev spRight : Sp := D0 PD rB (fun b => b = true)
theorem ok_right (F : FnP K "_law_right" s_right f fd) (T : TX mg) (words : Fn P w K mg base "_law_words" 3 ["_law_deck_here", "_law_many"] spWords) (strip : Fn P w K mg base "_law_strip" 3 ["_law_deck_here", "_law_words_here"] (spStrip K))
    (some_ : Fn P w K mg base "_law_some" 3 ["_law_deck_here", "_law_words_here"] (spSome K)) (kept : Fn P w K mg base "_law_kept" 3 ["_law_strip_here", "_law_some_here"] (spKept K)) (pj : Fn P w K mg base "projection" 3 ["row", "colours"] (spPj K))
    (pjk : FnK P w K mg base "projection" 3 ["row", "colours"] (spPj K) 0 ["row", "colours"] (fun _ zs => zs)) (pjks : FnK P w K mg base "projection" 3 ["row", "colours"] (spPj K) 0 ["colours", "row"] (fun _ zs => [zs.getD 1 .non, zs.getD 0 .non])) :
    FnG P w K mg base CX0 4 f fd ["_law_deck_here"] spRight := by
  refine fun_g F sc_right (fun vs H Q E h => ?_) (fun cdv A outer s H vs Q E fr hr h => ?_)
  · obtain ⟨S, p, rfl, _⟩ := h
    rfl
  · obtain ⟨S, p, rfl, c, q⟩ := h
    have hu66 : (A.deeper (envOfC "_law_right" (defScope s_right) s.heap.objs.size f cdv)).units + 66 < cLine := by have := hr.un; omega
    refine ⟨_, PSs.nox (pss_cons (ps_set (i := 1) sc_right.nd rfl (.inl rfl) (pe_fn words fr hr rfl (pa_cons (pv 0) (pa_cons pe_int pa_nil))))
      (pss_cons (ps_par (i := 2) (j := 3) rfl sc_right.nd rfl rfl (by decide) rfl rfl (pa_cons (pe_fn strip fr hr rfl (pa_cons (pv 0) (pa_cons (pv 1) pa_nil))) (pa_cons (pe_callTy call_tupleOf (by rfl) T.f_tuple PyProof.Rows.boot_tuple (pa_cons (pe_callB (call_sortD (enc := PyData.str) hu66) (by rfl) T.f_sorted (by decide +kernel) (pa_cons (pv 1) pa_nil)) pa_nil)) pa_nil)) (by rfl))
      (pss_cons (ps_set (i := 4) sc_right.nd rfl (.inl rfl) (pe_callB (call_reprD fr hu66) (by rfl) T.f_repr PyProof.Rows.boot_repr (pa_cons (pv 2) pa_nil)))
      (pss_cons (ps_for PassesOwn.never rfl (pi_range1 (by rfl) T.f_range (pa_cons pe_int pa_nil)) (pg_name (i := 5) sc_right.nd rfl (Or.inl rfl)) (pss_cons (ps_asg (pe_tup (pa_cons (pe_fn some_ fr hr rfl (pa_cons (pv 0) (pa_cons (pv 1) pa_nil))) (pa_cons (pe_fn some_ fr hr rfl (pa_cons (pv 0) (pa_cons (pv 1) pa_nil))) pa_nil))) (pg_tup rfl (pgs_cons (pg_name (i := 6) sc_right.nd rfl (Or.inl rfl)) (pgs_cons (pg_name (i := 7) sc_right.nd rfl (Or.inr rfl)) pgs_nil))))
      (pss_cons (ps_set (i := 8) sc_right.nd rfl (.inl rfl) (pe_fn kept fr hr rfl (pa_cons (pv 2) (pa_cons (pv 6) pa_nil))))
      (pss_cons (ps_set (i := 9) sc_right.nd rfl (.inl rfl) (pe_lst (pa_cons (pe_fn pj fr hr rfl (pa_cons (pv 2) (pa_cons (pv 6) pa_nil))) (pa_cons (pe_fnk pjks fr hr rfl (pk_cons (pv 6) (pk_cons (pv 2) pk_nil))) (pa_cons (pe_fnk pjk fr hr rfl (pk_cons (pv 2) (pk_cons (pv 6) pk_nil))) pa_nil)))))
      (pss_cons (ps_if (PW.pt (pw_or (pt_cmpR op_ne (pe_callB (call_reprD fr hu66) (by rfl) T.f_repr PyProof.Rows.boot_repr (pa_cons (pe_op op_cat (pv 9) (pe_lst (pa_cons (pe_fn pj fr hr rfl (pa_cons (pv 8) (pa_cons (pv 6) pa_nil))) pa_nil))) pa_nil)) (pe_callB (call_reprD fr hu66) (by rfl) T.f_repr PyProof.Rows.boot_repr (pa_cons (pe_op op_rep (pe_lst (pa_cons (pv 8) pa_nil)) pe_int) pa_nil)) (nomark _)) (pw_or1 (pt_cmpR op_ne (pe_callB (call_reprD fr hu66) (by rfl) T.f_repr PyProof.Rows.boot_repr (pa_cons (pv 2) pa_nil)) (pv 4) (nomark _))))) (pss_one (ps_ret pe_bl)) pss_nil)
      (pss_cons (ps_set (i := 10) sc_right.nd rfl (.inl rfl) (pe_callTy call_tupleOf (by rfl) T.f_tuple PyProof.Rows.boot_tuple (pa_cons (pe_lc (own := [("_law_word", 11)]) (g := gName 11) (tt := _) rfl sc_right.nd (pi_tup (pv 6)) (blkOk_by (N := N_right) (sc := defScope s_right) (by decide +kernel)) (fun _ _ _ _ _ => (pg_name (i := 11) sc_right.nd rfl (Or.inl rfl))) (fun _ _ _ _ _ => pts_one (pt_cmpR (show OpR _ (compareOp .In) (rIn K false) from op_in_seq) (pv 11) (pv 7) rfl)) (fun _ _ _ _ _ => (pv 11))) pa_nil)))
      (pss_one (ps_if (PW.pt (pw_or (pt_cmpR op_ne (pe_callB (call_reprD fr hu66) (by rfl) T.f_repr PyProof.Rows.boot_repr (pa_cons (pe_fn pj fr hr rfl (pa_cons (pv 8) (pa_cons (pv 7) pa_nil))) pa_nil)) (pe_callB (call_reprD fr hu66) (by rfl) T.f_repr PyProof.Rows.boot_repr (pa_cons (pe_fn kept fr hr rfl (pa_cons (pv 2) (pa_cons (pv 10) pa_nil))) pa_nil)) (nomark _)) (pw_or1 (pt_cmpR (op_neD hr.units) (pe_fn pj fr hr rfl (pa_cons (pv 2) (pa_cons (pv 6) pa_nil))) (pv 8) (nomark _))))) (pss_one (ps_ret pe_bl)) pss_nil))))))))
      (pss_one (ps_ret (pe_cmpR op_eq (pe_callB (call_reprD fr hu66) (by rfl) T.f_repr PyProof.Rows.boot_repr (pa_cons (pe_lst (pa_cons (pe_fn pj fr hr rfl (pa_cons (pv 2) (pa_cons (pe_tup pa_nil) pa_nil))) (pa_cons (pe_fn pj fr hr rfl (pa_cons (pv 2) (pa_cons (pv 3) pa_nil))) (pa_cons (pe_fn pj fr hr rfl (pa_cons (pe_tup pa_nil) (pa_cons (pv 3) pa_nil))) pa_nil)))) pa_nil)) (pe_callB (call_reprD fr hu66) (by rfl) T.f_repr PyProof.Rows.boot_repr (pa_cons (pe_lst (pa_cons (pe_tup pa_nil) (pa_cons (pv 2) (pa_cons (pe_tup pa_nil) pa_nil)))) pa_nil)) (nomark _)))))))), ?_⟩
    refine st_set c (ev_d1 (ev_self rfl) ev_int ?_) ?_
    · rintro _ rfl; exact ⟨by decide, by decide⟩
    rintro v1 ws H1 g1 k c h1 ⟨_, rfl, w1, w2, w3⟩
    have lw : ws.length = 16 := by omega
    refine st_par c (ev_d1 (ev_self rfl) (ev_var rfl h1) ?_) (ev_tupleL (ev_sortL ord_str dat_S (ev_var rfl h1))) ?_
    · rintro _ rfl; exact lw
    rintro v2 v3 row every H2 g2 k c h2 h3 ⟨_, rfl, r1, r2⟩ ⟨ws, rfl, ee⟩
    have pm : every.Perm ws := by rw [ee]; exact List.mergeSort_perm ..
    replace h1 := Rel.kp _ k h1
    have rc : ∀ z ∈ row, isC z = true := fun z hz => w2 z (r2 z hz)
    have ea : Asc every := by rw [ee]; exact asc_sort w3
    have ec : ∀ z ∈ every, isC z = true := fun z hz => w2 z (pm.mem_iff.mp hz)
    refine st_set c (ev_repr (dat_T dat_S) ref_T (ev_var rfl h2) ?_) ?_
    · rintro _ rfl; exact (nice_cols rc r1).mono (by decide) (by decide)
    rintro v4 shown H3 g3 k c h4 ⟨row, rfl, rfl⟩
    replace h1 := Rel.kp _ k h1
    replace h2 := Rel.kp _ k h2
    replace h3 := Rel.kp _ k h3
    refine st_for c (src_range ev_int ?_) ?_
    · rintro _ rfl; decide
    rintro l H4 ⟨_, rfl, rfl⟩ g4 c4
    have K4 := c.kp g4
    refine ⟨fun i σ' H' => (∃ y5 y6 y7 y8 y9 y10, σ' = [some (.ref p), some v1, some v2, some v3, some v4, y5, y6, y7, y8, y9, y10, none]) ∧ Go (eP PD p) H4 H' ∧ Sc (eP PD p) S H', ⟨⟨_, _, _, _, _, _, rfl⟩, c4.here, c4⟩, fun i σ' H' ⟨_, g, _⟩ => c4.kp g, ?_, ?_⟩
    · rintro i x vx σ' H' hx ⟨⟨_, _, _, _, _, _, rfl⟩, g, c⟩ _
      have k := K4.trans (c4.kp g)
      replace h1 := Rel.kp _ k h1
      replace h2 := Rel.kp _ k h2
      replace h3 := Rel.kp _ k h3
      refine st_pair c (ev_d1 (ev_self rfl) (ev_var rfl h1) ?_) (ev_d1 (ev_self rfl) (ev_var rfl h1) ?_) ?_
      · rintro _ rfl; exact ⟨by omega, w3⟩
      · rintro _ rfl; exact ⟨by omega, w3⟩
      rintro v6 v7 some_ fewer H5 g5 k c h6 h7 ⟨_, rfl, s1, s2, s3⟩ ⟨_, rfl, f1, f2, f3⟩
      replace h1 := Rel.kp _ k h1
      replace h2 := Rel.kp _ k h2
      replace h3 := Rel.kp _ k h3
      have sc : ∀ z ∈ some_, isC z = true := fun z hz => w2 z (s2 z hz)
      have fc : ∀ z ∈ fewer, isC z = true := fun z hz => w2 z (f2 z hz)
      refine st_set c (ev_c2 (ev_var rfl h2) (ev_var rfl h6) ?_) ?_
      · rintro _ _ rfl rfl; exact r1
      rintro v8 due H6 g6 k c h8 ⟨row, some_, rfl, rfl, ed⟩
      replace h1 := Rel.kp _ k h1
      replace h2 := Rel.kp _ k h2
      replace h3 := Rel.kp _ k h3
      replace h6 := Rel.kp _ k h6
      replace h7 := Rel.kp _ k h7
      have d1 : due.length ≤ 400 := by rw [ed]; exact Nat.le_trans (List.length_filter_le ..) r1
      have dc : ∀ z ∈ due, isC z = true := fun z hz => by rw [ed] at hz; exact rc z (List.mem_filter.mp hz).1
      have ds : due.filter (fun x => decide (x ∈ some_)) = due := by
        rw [ed, List.filter_filter]
        exact List.filter_congr fun a _ => by simp
      refine st_set c (ev_list (.cons (ev_c2 (ev_var rfl h2) (ev_var rfl h6) ?_) (.cons (ev_k2s (ev_var rfl h6) (ev_var rfl h2) ?_) (.cons (ev_k2 (ev_var rfl h2) (ev_var rfl h6) ?_) .nil))) ?_) ?_
      · rintro _ _ rfl rfl; exact ⟨⟨r1, rc⟩, s1, sc⟩
      · rintro _ _ rfl rfl; exact ⟨⟨r1, rc⟩, s1, sc⟩
      · rintro _ _ rfl rfl; exact ⟨⟨r1, rc⟩, s1, sc⟩
      · rintro _ ⟨_, _, rfl, _, _, _, rfl, _, _, _, rfl, _, rfl⟩; show 3 ≤ 100000; decide
      rintro v9 told H7 g7 k c h9 ht
      have et : told = [due, due, due] := by
        obtain ⟨_, _, rfl, ⟨_, _, rfl, rfl, rfl⟩, _, _, rfl, ⟨_, _, rfl, rfl, rfl⟩, _, _, rfl, ⟨_, _, rfl, rfl, rfl⟩, rfl⟩ := ht
        rw [ed]
      subst et
      clear ht
      replace h1 := Rel.kp _ k h1
      replace h2 := Rel.kp _ k h2
      replace h3 := Rel.kp _ k h3
      replace h6 := Rel.kp _ k h6
      replace h7 := Rel.kp _ k h7
      replace h8 := Rel.kp _ k h8
      have n4 : Nice 60 900000 (.list ([due, due, due, due].map fun l => .tuple (l.map PyData.str))) := nice_some (n := 4) (fun l hl => by
        have : l = due := by simpa using hl
        rw [this]; exact ⟨dc, d1⟩) (Nat.le_refl _) (by decide)
      refine st_ifF c (et_or (et_test (ev_neZ (ev_repr (dat_L (dat_T dat_S)) ref_L (ev_cat (ev_var rfl h9) (ev_list (.cons (ev_c2 (ev_var rfl h8) (ev_var rfl h6) ?_) .nil) ?_) ?_) ?_) (ev_repr (dat_L (dat_T dat_S)) ref_L (ev_rep (ev_list (.cons (ev_var rfl h8) .nil) ?_) ev_int ?_) ?_))) (fun _ => (et_test (ev_neZ (ev_repr (dat_T dat_S) ref_T (ev_var rfl h2) ?_) (ev_var (r := rS) rfl h4))))) ?_ fun H8 g8 k c => ?_
      · rintro _ _ rfl rfl; exact ⟨⟨d1, dc⟩, s1, sc⟩
      · rintro _ ⟨_, _, rfl, _, rfl⟩; show 1 ≤ 100000; decide
      · rintro _ _ rfl ⟨_, _, rfl, _, rfl⟩; show 3 + 1 ≤ 100000; decide
      · rintro _ ⟨_, _, rfl, ⟨_, _, rfl, ⟨_, _, rfl, rfl, rfl⟩, rfl⟩, rfl⟩
        rw [ds]; exact n4
      · rintro _ ⟨_, _, rfl, _, rfl⟩; show 1 ≤ 100000; decide
      · rintro _ _ ⟨_, _, rfl, _, rfl⟩ rfl; exact ⟨by decide, by decide, by show 1 * 4 ≤ 100000; decide⟩
      · rintro _ ⟨_, _, ⟨_, _, rfl, rfl, rfl⟩, rfl, rfl⟩
        exact n4
      · rintro _ rfl; exact (nice_cols rc r1).mono (by decide) (by decide)
      · rintro (⟨⟨_, _, ⟨_, ⟨_, _, rfl, ⟨_, _, rfl, ⟨_, _, rfl, rfl, rfl⟩, rfl⟩, rfl⟩, rfl⟩, ⟨_, ⟨_, _, ⟨_, _, rfl, rfl, rfl⟩, rfl, rfl⟩, rfl⟩, z⟩, _⟩ | ⟨_, _, _, ⟨_, rfl, rfl⟩, rfl, z⟩)
        · rw [ds] at z
          simp at z
        · simp at z
      replace h1 := Rel.kp _ k h1
      replace h2 := Rel.kp _ k h2
      replace h3 := Rel.kp _ k h3
      replace h6 := Rel.kp _ k h6
      replace h7 := Rel.kp _ k h7
      replace h8 := Rel.kp _ k h8
      refine st_set c (ev_tupleL (ev_lcm (ρ := rS) (fun x => decide (x ∈ fewer)) id (src_tup (ev_var rfl h6)) ?_ (fun _ => rfl) fun D l H9 hl g c1 n x v H' hx kp c' hv => ⟨?_, fun _ => ?_⟩)) ?_
      · rintro _ rfl; omega
      · have h7 := into c g n kp h7
        have h11 := hv
        refine EvT.mono (et_test (ev_in (ev_var (r := rS) rfl h11) (ev_var rfl h7))) ?_
        rintro b ⟨_, _, rfl, rfl, e⟩
        rw [e]; simp
      · have h11 := hv
        exact (ev_var (r := rS) rfl h11)
      rintro v10 both H9 g9 k c h10 ⟨some_, rfl, eb⟩
      rw [List.map_id] at eb
      replace h1 := Rel.kp _ k h1
      replace h2 := Rel.kp _ k h2
      replace h3 := Rel.kp _ k h3
      replace h6 := Rel.kp _ k h6
      replace h7 := Rel.kp _ k h7
      replace h8 := Rel.kp _ k h8
      have ek : due.filter (fun x => decide (x ∈ fewer)) = row.filter (fun x => decide (x ∈ both)) := by
        rw [ed, eb, List.filter_filter]
        exact List.filter_congr fun a _ => by simp [Bool.and_comm, List.mem_filter]
      have nk : Nice 60 900000 (.tuple ((row.filter fun x => decide (x ∈ both)).map PyData.str)) := (nice_cols (fun z hz => rc z (List.mem_filter.mp hz).1) (Nat.le_trans (List.length_filter_le ..) r1)).mono (by decide) (by decide)
      have nd : Nice 60 900000 (.tuple (due.map PyData.str)) := (nice_cols dc d1).mono (by decide) (by decide)
      refine st_ifF c (et_or (et_test (ev_neZ (ev_repr (dat_T dat_S) ref_T (ev_c2 (ev_var rfl h8) (ev_var rfl h7) ?_) ?_) (ev_repr (dat_T dat_S) ref_T (ev_c2 (ev_var rfl h2) (ev_var rfl h10) ?_) ?_))) fun _ => et_test (ev_neD (dat_T dat_S) (dat_T dat_S) (ev_c2 (ev_var rfl h2) (ev_var rfl h6) ?_) (ev_var rfl h8) ?_ ?_)) ?_ fun H10 g10 k c => ⟨⟨_, _, _, _, _, _, rfl⟩, g.trans (g5.trans (g6.trans (g7.trans (g8.trans (g9.trans g10))))), c⟩
      · rintro _ _ rfl rfl; exact ⟨⟨d1, dc⟩, f1, fc⟩
      · rintro _ ⟨_, _, rfl, rfl, rfl⟩; rw [ek]; exact nk
      · rintro _ _ rfl rfl; exact r1
      · rintro _ ⟨_, _, rfl, rfl, rfl⟩; exact nk
      · rintro _ _ rfl rfl; exact ⟨⟨r1, rc⟩, s1, sc⟩
      · rintro _ ⟨_, _, rfl, rfl, rfl⟩; rw [← ed]; exact nd
      · rintro _ rfl; exact nd
      · rintro (⟨⟨_, _, ⟨_, ⟨_, _, rfl, rfl, rfl⟩, rfl⟩, ⟨_, ⟨_, _, rfl, rfl, rfl⟩, rfl⟩, z⟩, _⟩ | ⟨_, _, _, ⟨_, _, rfl, rfl, rfl⟩, rfl, z⟩)
        · rw [ek] at z
          simp at z
        · rw [← ed, SeqAt.eqv_refl _ nd.cl] at z
          cases z
    · rintro σ' H' ⟨⟨_, _, _, _, _, _, rfl⟩, g, c⟩
      have k := K4.trans (c4.kp g)
      replace h1 := Rel.kp _ k h1
      replace h2 := Rel.kp _ k h2
      replace h3 := Rel.kp _ k h3
      have re : row.filter (fun x => decide (x ∈ every)) = row := List.filter_eq_self.mpr fun a ha => decide_eq_true (pm.mem_iff.mpr (r2 a ha))
      have r0 : row.filter (fun x => decide (x ∈ ([] : List Str))) = [] := by simp
      have n3 : Nice 60 900000 (.list ([[], row, []].map fun l => .tuple (l.map PyData.str))) := nice_some (n := 3) (fun l hl => by
        have : l = [] ∨ l = row := by
          simp only [List.mem_cons, List.not_mem_nil, or_false] at hl
          rcases hl with h | h | h
          · exact .inl h
          · exact .inr h
          · exact .inl h
        rcases this with h | h <;> rw [h]
        · exact ⟨nofun, Nat.zero_le _⟩
        · exact ⟨rc, r1⟩) (Nat.le_refl _) (by decide)
      refine st_ret c (ev_eqZ (ev_repr (dat_L (dat_T dat_S)) ref_L (ev_list (.cons (ev_c2 (ev_var rfl h2) (ev_tuple .nil ?_) ?_) (.cons (ev_c2 (ev_var rfl h2) (ev_var rfl h3) ?_) (.cons (ev_c2 (ev_tuple .nil ?_) (ev_var rfl h3) ?_) .nil))) ?_) ?_) (ev_repr (dat_L (dat_T dat_S)) ref_L (ev_list (.cons (ev_tuple .nil ?_) (.cons (ev_var rfl h2) (.cons (ev_tuple .nil ?_) .nil))) ?_) ?_)) ?_
      · rintro _ rfl; decide
      · rintro _ _ rfl rfl; exact ⟨⟨r1, rc⟩, .nil, nofun⟩
      · rintro _ _ rfl rfl; exact ⟨⟨r1, rc⟩, ea, ec⟩
      · rintro _ rfl; decide
      · rintro _ _ rfl rfl; exact ⟨⟨Nat.zero_le _, nofun⟩, ea, ec⟩
      · rintro _ ⟨_, _, rfl, _, _, _, rfl, _, _, _, rfl, _, rfl⟩; show 3 ≤ 100000; decide
      · rintro _ ⟨_, _, rfl, ⟨_, _, rfl, rfl, rfl⟩, _, _, rfl, ⟨_, _, rfl, rfl, rfl⟩, _, _, rfl, ⟨_, _, rfl, rfl, rfl⟩, rfl⟩
        rw [re, r0]; exact n3
      · rintro _ rfl; decide
      · rintro _ rfl; decide
      · rintro _ ⟨_, _, rfl, _, _, _, rfl, _, _, _, rfl, _, rfl⟩; show 3 ≤ 100000; decide
      · rintro _ ⟨_, _, rfl, rfl, _, _, rfl, rfl, _, _, rfl, rfl, rfl⟩
        exact n3
      rintro u b H5 g5 _ _ hu ⟨_, _, ⟨_, ⟨_, _, rfl, ⟨_, _, rfl, rfl, rfl⟩, _, _, rfl, ⟨_, _, rfl, rfl, rfl⟩, _, _, rfl, ⟨_, _, rfl, rfl, rfl⟩, rfl⟩, rfl⟩, ⟨_, ⟨_, _, rfl, rfl, _, _, rfl, rfl, _, _, rfl, rfl, rfl⟩, rfl⟩, rfl⟩
      refine q u _ H5 (((((g1.trans g2).trans g3).trans g4).trans g).trans g5) hu ?_
      rw [re, r0]
      exact decide_eq_true rfl
end
end K43
namespace K43
open PySem PySem.Spec PyProof.Rows L2 Gd Gr
section
variable {P : Program} {w : World} {K : PySem.W.Frag} {mg : Str → Option Value} {base : Heap} {f : Addr} {fd : FuncData}
abbrev s_cell : Stmt := top 18
abbrev N_cell : List Str := ["_law_script", "_law_k", "_law_state", "_law_cell_here"]
theorem sc_cell : FnScope N_cell ["_law_script", "_law_k"] (defScope s_cell) := ⟨rfl, rfl, rfl, by decide +kernel, rfl, by decide +kernel, by decide +kernel⟩
abbrev spCell (K : PySem.W.Frag) : Sp := C2 (rScr K) rI rI (fun ns k => ns.length ≤ 63 ∧ 0 ≤ k ∧ k ≤ 1000) (fun _ _ _ => True)
theorem ok_cell (F : FnP K "_law_cell" s_cell f fd) (T : TX mg) : FnG P w K mg base CX0 1 f fd ["_law_script", "_law_k"] (spCell K) := by
  refine fun_g F sc_cell (fun vs H Q E h => ?_) (fun cdv A outer s H vs Q E fr hr h => ?_)
  · obtain ⟨S, v1, v2, x, y, rfl, _⟩ := h
    rfl
  · obtain ⟨S, v, u, ns, i, rfl, c, h0, h1, ⟨l0, i0, i1⟩, q⟩ := h
    refine ⟨_, PSs.nox (pss_cons (ps_if (pt_cmpR op_lt (pv 1) (pe_callB call_lenS (by rfl) T.f_len PySem.boot_len (pa_cons (pv 0) pa_nil)) (nomark _)) (pss_one (ps_ret (pe_ix (show IxR _ (rIxL K) from ix_list) (pv 0) (pv 1) (fun _ _ => rfl)))) pss_nil)
      (pss_cons (ps_set (i := 2) sc_cell.nd rfl (.inl rfl) (pe_op op_mod (pe_op op_mul pe_int (pe_op op_add (pe_op op_add (pe_op op_mul (pv 1) (pv 1)) (pe_op op_mul pe_int (pv 1))) pe_int)) pe_int))
      (pss_cons (ps_for PassesOwn.never rfl (pi_list (pe_slice sl_list (pv 0) po_none (po_some pe_int))) (pg_name (i := 3) sc_cell.nd rfl (Or.inl rfl)) (pss_one (ps_set (i := 2) sc_cell.nd rfl (.inl rfl) (pe_op op_mod (pe_op op_add (pe_op op_mul (pv 2) pe_int) (pv 3)) pe_int))))
      (pss_one (ps_ret (pv 2)))))), ?_⟩
    refine st_if c (et_test (ev_cmp (ev_var (r := rI) rfl h1) (ev_lenR (ev_var rfl h0)))) (fun H1 g1 k c hb => ?_) fun H1 g1 k c _ => ?_
    · replace h0 := Rel.kp _ k h0
      obtain ⟨i, _, rfl, ⟨ns, rfl, rfl⟩, hb⟩ := hb
      refine st_ret c (ev_ixR (ev_var rfl h0) (ev_var (r := rI) rfl h1) ?_) fun x z H2 g2 _ _ hx _ => q x z H2 (g1.trans g2) hx trivial
      rintro _ _ rfl rfl
      exact ⟨i0, of_decide_eq_true hb.symm⟩
    · replace h0 := Rel.kp _ k h0
      have sq : i * i ≤ 1000 * 1000 := Int.mul_le_mul i1 i1 i0 (by decide)
      have sq0 : 0 ≤ i * i := Int.mul_nonneg i0 i0
      refine st_set c (ev_mod (ev_mulL ev_int (ev_plus (ev_plus (ev_mulR (ev_var (r := rI) rfl h1) (ev_var (r := rI) rfl h1) ?_) (ev_mulL ev_int (ev_var (r := rI) rfl h1) ?_)) ev_int) ?_) ev_int ?_) ?_
      · rintro _ rfl; omega
      · rintro _ rfl; exact ⟨by decide, by decide⟩
      · rintro _ rfl; exact ⟨by decide, by decide⟩
      · rintro _ rfl; decide
      rintro v2 st H2 g2 k c h2 _
      replace h0 := Rel.kp _ k h0
      refine st_for c (src_list (ev_slR (ev_var rfl h0) eo_no (eo_at ev_int))) fun l H3 hl g3 c3 => ⟨fun j σ' H' => (∃ st y, σ' = [some v, some u, some (.int st), y]) ∧ Go e0 H3 H' ∧ Sc e0 S H', ?_, ?_, ?_, ?_⟩
      · exact ⟨⟨st, none, by rw [← show v2 = .int st from h2]; rfl⟩, c3.here, c3⟩
      · rintro j σ' H' ⟨_, g, _⟩
        exact c3.kp g
      · rintro j x vx σ' H' hx ⟨⟨st, y, rfl⟩, g, c⟩ hv
        have h3 := hv
        have h2 : rI.rp S H' (.int st) st := rfl
        refine st_set c (ev_mod (ev_plus (ev_mulR (ev_var (r := rI) rfl h2) ev_int ?_) (ev_var (r := rI) rfl h3)) ev_int ?_) ?_
        · rintro _ rfl; exact ⟨by decide, by decide⟩
        · rintro _ rfl; decide
        rintro v4 st4 H4 g4 _ c4 h4 _
        exact ⟨⟨st4, _, by rw [show v4 = .int st4 from h4]; rfl⟩, g.trans g4, c4⟩
      · rintro σ' H' ⟨⟨st, y, rfl⟩, g, c⟩
        have h2 : rI.rp S H' (.int st) st := rfl
        refine st_ret c (ev_var (r := rI) rfl h2) fun x z H4 g4 _ _ hx _ => q x z H4 ((((g1.trans g2).trans g3).trans g).trans g4) hx trivial
abbrev s_deck : Stmt := top 19
abbrev N_deck : List Str := ["_law_cell_here", "_law_digits"]
theorem sc_deck : FnScope N_deck ["_law_cell_here"] (defScope s_deck) := ⟨rfl, rfl, rfl, by decide +kernel, rfl, by decide +kernel, by decide +kernel⟩
theorem ok_deck (F : FnP K "_law_deck" s_deck f fd) (T : TX mg) : FnG P w K mg base CX0 1 f fd ["_law_cell_here"] (spNew PD) := by
  refine fun_g F sc_deck (fun vs H Q E h => ?_) (fun cdv A outer s H vs Q E fr hr h => ?_)
  · obtain ⟨x, rfl, _⟩ := h
    rfl
  · obtain ⟨x, rfl, q⟩ := h
    have c : Sc e0 [] H := ⟨nofun, nofun, trivial⟩
    have h0 : rI.rp [] H (.int x) x := rfl
    refine ⟨_, PSs.nox (pss_cons (ps_set (i := 1) sc_deck.nd rfl (.inl rfl) pe_int)
      (pss_cons (ps_if (PW.pt (pw_or (pt_cmpR op_lt (pv 0) pe_int (nomark _)) (pw_or1 (pt_cmpR op_ge (pv 0) (pe_op op_pow pe_int pe_int) (nomark _))))) (pss_one (ps_set (i := 1) sc_deck.nd rfl (.inl rfl) (pe_callB call_absI (by rfl) T.f_abs (by decide +kernel) (pa_cons (pv 0) pa_nil)))) pss_nil)
      (pss_one (ps_ret (pe_lst (pa_cons (pv 1) (pa_cons (pe_op op_mod (pv 0) pe_int) (pa_cons pe_int pa_nil)))))))), ?_⟩
    refine st_set c ev_int fun v1 d H1 g1 _ c h1 _ => ?_
    have fin : ∀ (σ : L2.St) (v : V) (d : Int) (H2 : Hp), v = .int d → σ = [some (.int x), some v] → Go e0 H H2 → Sc e0 [] H2 → (tRet (tLst (tCons (tVar 1) (tCons (tOp (L2.rI (fun _ j => 0 < j) fun i j => .int (i % j)) (tVar 0) (tC (.int 2147483489))) (tCons (tC (.int 0)) tNil)))) : TS) { nx := fun _ => Q .non, rt := Q } σ H2 := by
      rintro σ v d H2 rfl rfl g c
      refine ⟨_, rfl, _, rfl, x, _, rfl, rfl, by show (0 : Int) < 2147483489; decide, by show 3 ≤ sizeLine; decide, fun p np => ?_⟩
      exact q p _ (g.1.to.trans (same_upd np)) (g.1.to.free np) ⟨_, ⟨_, _, _, rfl⟩, upd_same⟩
    refine st_if c (et_or (et_test (ev_cmp (ev_var (r := rI) rfl h0) ev_int)) (fun _ => (et_test (ev_cmp (ev_var (r := rI) rfl h0) (ev_pow ev_int ev_int ?_))))) (fun H2 g2 _ c _ => ?_) fun H2 g2 _ c _ => ?_
    · rintro _ _ rfl rfl; exact ⟨by decide, by decide, by decide⟩
    · refine st_set c (ev_abs (ev_var (r := rI) rfl h0)) fun v3 d3 H3 g3 _ c h3 _ => ?_
      exact fin _ v3 d3 H3 h3 rfl ((g1.trans g2).trans g3) c
    · exact fin _ v1 d H2 h1 rfl (g1.trans g2) c
end
end K43
namespace K43
open PySem PySem.Spec PyProof.Rows L2 Gd Gr
def row52 : List Str := Gr.signs (Txt.mul abc 2)
def mid20 : List Str := Gr.signs (cutS abc (some 3) (some 23))
theorem row_ok : row52.length = 52 ∧ (∀ z ∈ row52, isC z = true) ∧ (cut row52 none (some 26)).Nodup := by
  refine ⟨by decide +kernel, ?_, by decide +kernel⟩
  have : row52.all isC = true := by decide +kernel
  exact List.all_eq_true.mp this
theorem mid_ok : mid20.length = 20 ∧ (∀ z ∈ mid20, isC z = true) ∧ Asc mid20 := by
  refine ⟨by decide +kernel, ?_, ?_⟩
  · have : mid20.all isC = true := by decide +kernel
    exact List.all_eq_true.mp this
  · unfold Asc
    decide +kernel
theorem mid_row : row52.filter (fun x => decide (x ∈ mid20)) = (List.replicate 2 mid20).flatten := by decide +kernel
theorem row_all : ∀ x ∈ row52, x ∈ cut row52 none (some 26) := by
  have : row52.all (fun x => decide (x ∈ cut row52 none (some 26))) = true := by decide +kernel
  exact fun x hx => of_decide_eq_true (List.all_eq_true.mp this x hx)
section
variable {P : Program} {w : World} {K : PySem.W.Frag} {mg : Str → Option Value} {base : Heap} {f : Addr} {fd : FuncData}
abbrev s_by_hand : Stmt := top 26
abbrev N_by_hand : List Str := ["_law_letters", "_law_strip_here", "_law_some_here", "_law_letter"]
theorem sc_by_hand : FnScope N_by_hand [] (defScope s_by_hand) := ⟨rfl, rfl, rfl, by decide +kernel, rfl, by decide +kernel, by decide +kernel⟩
abbrev spHand : Sp := fun vs H Q _ => vs = [] ∧ ∀ H', Same H H' → Q (.bl true) H'
theorem ok_hand (F : FnP K "_law_by_hand" s_by_hand f fd) (T : TX mg) (pj : Fn P w K mg base "projection" 3 ["row", "colours"] (spPj K)) : FnG P w K mg base CX0 4 f fd [] spHand := by
  refine fun_g F sc_by_hand (fun vs H Q E h => ?_) (fun cdv A outer s H vs Q E fr hr h => ?_)
  · obtain ⟨rfl, _⟩ := h
    rfl
  · obtain ⟨rfl, q⟩ := h
    have c : Sc e0 [] H := ⟨nofun, nofun, trivial⟩
    have hu66 : (A.deeper (envOfC "_law_by_hand" (defScope s_by_hand) s.heap.objs.size f cdv)).units + 66 < cLine := by have := hr.un; omega
    refine ⟨_, PSs.nox (pss_cons (ps_set (i := 0) sc_by_hand.nd rfl (.inl rfl) pe_str)
      (pss_cons (ps_par (i := 1) (j := 2) rfl sc_by_hand.nd rfl rfl (by decide) rfl rfl (pa_cons (pe_callTy call_tupleOf (by rfl) T.f_tuple PyProof.Rows.boot_tuple (pa_cons (pe_lc (own := [("_law_letter", 3)]) (g := gName 3) (tt := tYes) rfl sc_by_hand.nd (pi_str (pe_op op_mulZ (pv 0) pe_int)) (blkOk_by (N := N_by_hand) (sc := defScope s_by_hand) (by decide +kernel)) (fun _ _ _ _ _ => (pg_name (i := 3) sc_by_hand.nd rfl (Or.inl rfl))) (fun _ _ _ _ _ => pts_nil) (fun _ _ _ _ _ => (pv 3))) pa_nil)) (pa_cons (pe_callTy call_tupleOf (by rfl) T.f_tuple PyProof.Rows.boot_tuple (pa_cons (pe_lc (own := [("_law_letter", 3)]) (g := gName 3) (tt := tYes) rfl sc_by_hand.nd (pi_str (pe_slice sl_str (pv 0) (po_some pe_int) (po_some pe_int))) (blkOk_by (N := N_by_hand) (sc := defScope s_by_hand) (by decide +kernel)) (fun _ _ _ _ _ => (pg_name (i := 3) sc_by_hand.nd rfl (Or.inl rfl))) (fun _ _ _ _ _ => pts_nil) (fun _ _ _ _ _ => (pv 3))) pa_nil)) pa_nil)) (by rfl))
      (pss_one (ps_ret (pe_and (pe_cmpR op_eq (pe_callB (call_reprD fr hu66) (by rfl) T.f_repr PyProof.Rows.boot_repr (pa_cons (pe_fn pj fr hr rfl (pa_cons (pv 1) (pa_cons (pv 2) pa_nil))) pa_nil)) (pe_callB (call_reprD fr hu66) (by rfl) T.f_repr PyProof.Rows.boot_repr (pa_cons (pe_op op_repT (pv 2) pe_int) pa_nil)) (nomark _)) (pe_one (pe_cmpR (op_eqD hr.units) (pe_fn pj fr hr rfl (pa_cons (pv 1) (pa_cons (pe_callTy call_tupleOf (by rfl) T.f_tuple PyProof.Rows.boot_tuple (pa_cons (pe_callB (call_sortD (enc := PyData.str) hu66) (by rfl) T.f_sorted (by decide +kernel) (pa_cons (pe_slice sl_tupA (pv 1) po_none (po_some pe_int)) pa_nil)) pa_nil)) pa_nil))) (pv 1) (nomark _)))))))), ?_⟩
    refine st_set c (ev_str (z := abc)) fun v0 z0 H1 g1 k c h0 e => ?_
    cases e
    refine st_par c (ev_tupleL (ev_lcm (ρ := rS) (fun _ => true) id (src_str (ev_mulZ (ev_var (r := rS) rfl h0) ev_int ?_)) ?_ (fun _ => rfl) fun D l H1 hl g c1 n x v H' hx kp c' hv => ⟨et_yes, fun _ => ?_⟩))
      (ev_tupleL (ev_lcm (ρ := rS) (fun _ => true) id (src_str (ev_slZ (ev_var (r := rS) rfl h0) (eo_at ev_int) (eo_at ev_int) ?_)) ?_ (fun _ => rfl) fun D l H1 hl g c1 n x v H' hx kp c' hv => ⟨et_yes, fun _ => ?_⟩)) ?_
    · rintro _ _ rfl rfl; exact ⟨by decide, by decide, by decide⟩
    · rintro _ ⟨_, ⟨_, _, rfl, rfl, rfl⟩, rfl⟩
      show row52.length ≤ 100000
      rw [row_ok.1]; decide
    · have h3 := hv
      exact (ev_var (r := rS) rfl h3)
    · rintro _ rfl; decide
    · rintro _ ⟨_, ⟨_, _, _, rfl, ⟨_, rfl, rfl⟩, ⟨_, rfl, rfl⟩, rfl⟩, rfl⟩
      show mid20.length ≤ 100000
      rw [mid_ok.1]; decide
    · have h3 := hv
      exact (ev_var (r := rS) rfl h3)
    rintro v1 v2 row mid H2 g2 k c h1 h2 e1 e2
    have er : row = row52 := by
      obtain ⟨_, ⟨_, ⟨_, _, rfl, rfl, rfl⟩, rfl⟩, rfl⟩ := e1
      rw [List.filter_eq_self.mpr fun _ _ => rfl, List.map_id]
      rfl
    have em : mid = mid20 := by
      obtain ⟨_, ⟨_, ⟨_, _, _, rfl, ⟨_, rfl, rfl⟩, ⟨_, rfl, rfl⟩, rfl⟩, rfl⟩, rfl⟩ := e2
      rw [List.filter_eq_self.mpr fun _ _ => rfl, List.map_id]
      rfl
    subst er em
    clear e1 e2
    obtain ⟨r1, r2, r3⟩ := row_ok
    obtain ⟨m1, m2, m3⟩ := mid_ok
    have nr : Nice 60 900000 (.tuple (row52.map PyData.str)) := (nice_cols r2 (by omega)).mono (by decide) (by decide)
    have nm : Nice 60 900000 (.tuple ((List.replicate 2 mid20).flatten.map PyData.str)) := by
      rw [← mid_row]
      exact (nice_cols (fun z hz => r2 z (List.mem_filter.mp hz).1) (Nat.le_trans (List.length_filter_le ..) (by omega))).mono (by decide) (by decide)
    have fs : row52.filter (fun x => decide (x ∈ (cut row52 none (some 26)).mergeSort (PySem.W.dataLe false PyData.str))) = row52 := List.filter_eq_self.mpr fun x hx => decide_eq_true ((List.mergeSort_perm _ _).mem_iff.mpr (row_all x hx))
    have sc : ∀ z ∈ (cut row52 none (some 26)).mergeSort (PySem.W.dataLe false PyData.str), isC z = true := fun z hz => by
      have h := (List.mergeSort_perm _ _).mem_iff.mp hz
      unfold cut at h
      exact r2 z (List.mem_of_mem_drop (List.mem_of_mem_take h))
    refine st_ret c (ev_andV (ev_eqZ (ev_repr (dat_T dat_S) ref_T (ev_c2 (ev_var rfl h1) (ev_var rfl h2) ?_) ?_) (ev_repr (dat_T dat_S) ref_T (ev_repT (ev_var rfl h2) ev_int ?_) ?_)) fun _ => ev_eqD (dat_T dat_S) (dat_T dat_S) (ev_c2 (ev_var rfl h1) (ev_tupleL (ev_sortT ord_str dat_S (ev_slT (ev_var rfl h1) eo_no (eo_at ev_int)))) ?_) (ev_var rfl h1) ?_ ?_) ?_
    · rintro _ _ rfl rfl; exact ⟨⟨by omega, r2⟩, m3, m2⟩
    · rintro _ ⟨_, _, rfl, rfl, rfl⟩; rw [mid_row]; exact nm
    · rintro _ _ rfl rfl; exact ⟨by decide, by decide, (fun z => by rw [z] at m1; cases m1), by omega⟩
    · rintro _ ⟨_, _, rfl, rfl, rfl⟩; exact nm
    · rintro _ _ rfl ⟨_, ⟨_, _, _, rfl, rfl, ⟨_, rfl, rfl⟩, rfl⟩, rfl⟩; exact ⟨⟨by omega, r2⟩, asc_sort r3, sc⟩
    · rintro _ ⟨_, _, rfl, ⟨_, ⟨_, _, _, rfl, rfl, ⟨_, rfl, rfl⟩, rfl⟩, rfl⟩, rfl⟩; rw [fs]; exact nr
    · rintro _ rfl; exact nr
    rintro u b H3 g3 _ _ hu hb
    have : b = true := by
      rcases hb with ⟨⟨_, _, ⟨_, ⟨_, _, rfl, rfl, rfl⟩, rfl⟩, ⟨_, ⟨_, _, rfl, rfl, rfl⟩, rfl⟩, z⟩, _⟩ | ⟨_, _, _, ⟨_, _, rfl, ⟨_, ⟨_, _, _, rfl, rfl, ⟨_, rfl, rfl⟩, rfl⟩, rfl⟩, rfl⟩, rfl, z⟩
      · rw [mid_row] at z
        simp at z
      · rw [fs, SeqAt.eqv_refl _ nr.cl] at z
        exact z
    subst this
    rw [show u = .bl true from hu]
    exact q H3 (((g1.trans g2).trans g3).1.to)
abbrev s_law : Stmt := top 27
abbrev N_law : List Str := ["_law_script", "_law_k"]
theorem sc_law : FnScope N_law ["_law_script"] (defScope s_law) := ⟨rfl, rfl, rfl, by decide +kernel, rfl, by decide +kernel, by decide +kernel⟩
theorem ok_law (F : FnP K "law" s_law f fd) (T : TX mg) (hand : Fn P w K mg base "_law_by_hand" 4 [] spHand) (right : Fn P w K mg base "_law_right" 4 ["_law_deck_here"] spRight) (deck : Fn P w K mg base "_law_deck" 4 ["_law_cell_here"] (spNew PD)) (cell : Fn P w K mg base "_law_cell" 4 ["_law_script", "_law_k"] (spCell K)) :
    FnG P w K mg base CX0 5 f fd ["_law_script"] (spLawS K) := by
  refine fun_g F sc_law (fun vs H Q E h => ?_) (fun cdv A outer s H vs Q E fr hr h => ?_)
  · obtain ⟨a, ns, rfl, _⟩ := h
    rfl
  · obtain ⟨a, ns, rfl, hS, l63, q⟩ := h
    refine ⟨_, PSs.nox (pss_cons (ps_if (pt_not (pt_val (pe_fn0 hand fr hr rfl))) (pss_one (ps_ret pe_bl)) pss_nil)
      (pss_one (ps_ret (pe_callB (cr_all rfl) (by rfl) T.f_all boot_all (pa_cons (pe_lc (own := [("_law_k", 1)]) (g := gName 1) (tt := tYes) rfl sc_law.nd (pi_range1 (by rfl) T.f_range (pa_cons (pe_callB (call_maxI rfl) (by rfl) T.f_max boot_max (pa_cons pe_int (pa_cons (pe_callB (call_minI rfl) (by rfl) T.f_min boot_min (pa_cons (pe_callB call_lenS (by rfl) T.f_len PySem.boot_len (pa_cons (pv 0) pa_nil)) (pa_cons pe_int pa_nil))) pa_nil))) pa_nil)) (blkOk_by (N := N_law) (sc := defScope s_law) (by decide +kernel)) (fun _ _ _ _ _ => (pg_name (i := 1) sc_law.nd rfl (Or.inl rfl))) (fun _ _ _ _ _ => pts_nil) (fun _ _ _ _ _ => (pe_fn right fr hr rfl (pa_cons (pe_fn deck fr hr rfl (pa_cons (pe_fn cell fr hr rfl (pa_cons (pv 0) (pa_cons (pv 1) pa_nil))) pa_nil)) pa_nil)))) pa_nil))))), ?_⟩
    refine ⟨rfl, fun H1 s1 => ⟨_, rfl, iteF ?_⟩⟩
    have c : Sc e0 [] H1 := ⟨nofun, nofun, trivial⟩
    have h0 : (rScr K).rp [] H1 (.ref a) ns := Rel.kp _ (Kp.same s1) (scr_of hS)
    have n8 : ∀ x, (∃ y z, y = 2 ∧ (∃ a b, (∃ l, l = ns ∧ a = (l.length : Int)) ∧ b = 8 ∧ z = if b < a then b else a) ∧ x = if z > y then z else y) → 0 ≤ x ∧ x ≤ 100 := by
      rintro _ ⟨_, _, rfl, ⟨_, _, ⟨_, rfl, rfl⟩, rfl, rfl⟩, rfl⟩
      split <;> split <;> omega
    refine st_ret c (ev_all (ev_lcn (src_range (ev_max ev_int (ev_min (ev_lenR (ev_var rfl h0)) ev_int)) ?_) ?_ (fun _ => rfl) fun D l H2 hl g c1 n => ⟨fun _ acc => ∀ b ∈ acc, b = true, nofun, fun j x vx acc H' hx hb kp c' hv => ⟨_, et_yes, nofun, fun _ => ?_⟩, fun m hm => hm⟩)) ?_
    · intro x hx
      have := n8 x hx
      omega
    · rintro l ⟨x, hx, rfl⟩
      rw [upto_len]
      have := n8 x hx
      omega
    · refine ⟨_, ev_new0 flat_B (ev_c2 (ev_var rfl (into c g n kp h0)) (ev_var (r := rI) rfl hv) ?_), fun y hy b hb2 => ?_⟩
      · rintro _ _ rfl rfl
        obtain ⟨z, hz, rfl⟩ := hl
        have := n8 z hz
        obtain ⟨e, lt⟩ := upto_at hx
        exact ⟨l63, by omega, by omega⟩
      · rcases List.mem_append.mp hb2 with z | z
        · exact hb b z
        · rw [List.mem_singleton.mp z]; exact hy
    · rintro u b H2 g2 _ _ hu ⟨l, hl, rfl⟩
      have : l.all id = true := List.all_eq_true.mpr fun b hb => hl b hb
      rw [show u = .bl (l.all id) from hu, this]
      exact q H2
end
end K43
namespace K43
open PySem PySem.Spec PyProof.Rows L2 Gd Gr
def dd (x : Str) (st : Stmt) : He.DefD := ⟨(x, none), x, x, defArgs st, defBody st, defScope st, [], []⟩
def fn : List He.DefD := [dd "is_colour" sIsC, dd "check_pushes" s_cp, dd "check_row" s_cr, dd "is_in_order" s_io, dd "check_any_colours" s_ca, dd "pushes_of" s_po, dd "projection" s_pj, dd "_law_cell" s_cell, dd "_law_deck" s_deck, dd "_law_draw" s_draw, dd "_law_words" s_words, dd "_law_kept" s_kept, dd "_law_some" s_some, dd "_law_strip" s_strip, dd "_law_right" s_right, dd "_law_by_hand" s_by_hand, dd "law" s_law]
def fa : List He.Fa := [.glo "is_colour", .glo "check_pushes", .glo "check_row", .glo "is_in_order", .glo "check_any_colours", .glo "pushes_of", .glo "projection", .glo "_law_cell", .glo "_law_deck", .glo "_law_draw", .glo "_law_words", .glo "_law_kept", .glo "_law_some", .glo "_law_strip", .glo "_law_right", .glo "_law_by_hand", .glo "law", .free "len", .free "range", .free "isinstance", .free "str", .free "tuple", .free "all", .free "max", .free "min", .free "abs", .free "divmod", .free "int", .free "sorted", .free "repr", .free "enumerate", .str "LETTERS" abc, .int "MOST_LETTERS" 6, .int "MOST_ROW" 400]
def more (K : PySem.W.Frag) : Bool := true
abbrev R : PySem.W.OpenRow := PySem.W.OpenLaw.row PySem.Challenge.rw_doorlots_k43_projections
abbrev hk : PySem.W.Hook := hookX 6 fa fn more
abbrev loose : List Str := ["MOST_ROW", "__name__", "InvalidInput", "InvalidRow", "InvalidColours", "LETTERS", "MOST_LETTERS", "is_colour", "check_pushes", "check_row", "is_in_order", "check_any_colours", "pushes_of", "projection", "_law_cell", "_law_deck", "_law_draw", "_law_words", "_law_kept", "_law_some", "_law_strip", "_law_right", "_law_by_hand"]
theorem run (w : World) : HandSHeadRun.RunEq R (PySem.W.view R.prog [27]) hk (obX 6 fa fn more) 9000 loose w := by
  intro os
  kernel_rfl
theorem facts {P : Program} {w : World} {K : PySem.W.Frag} {h : Heap} {mg : Str → Option Value} {f : Addr} (X : K.In h) (G : h.Ns mainGlobals mg) (hfa : mg ("law" : Str) = some (.ref f)) (c : He.SaysD fa fn K) (m : more K = true) :
    ∃ fd : FuncData, (∀ (s : Shared) (v : Value), BindsTo s fd ⟨[v], []⟩ [("_law_script", v)]) ∧ ∀ base : Heap, K.In base → base.Ns mainGlobals mg → FnG P w K mg base CX0 5 f fd ["_law_script"] (spLawS K) := by
  obtain ⟨d_is_colour, F_is_colour⟩ := c.def_ 0 (d := dd "is_colour" sIsC) rfl
  obtain ⟨d_check_pushes, F_check_pushes⟩ := c.def_ 1 (d := dd "check_pushes" s_cp) rfl
  obtain ⟨d_check_row, F_check_row⟩ := c.def_ 2 (d := dd "check_row" s_cr) rfl
  obtain ⟨d_is_in_order, F_is_in_order⟩ := c.def_ 3 (d := dd "is_in_order" s_io) rfl
  obtain ⟨d_check_any_colours, F_check_any_colours⟩ := c.def_ 4 (d := dd "check_any_colours" s_ca) rfl
  obtain ⟨d_pushes_of, F_pushes_of⟩ := c.def_ 5 (d := dd "pushes_of" s_po) rfl
  obtain ⟨d_projection, F_projection⟩ := c.def_ 6 (d := dd "projection" s_pj) rfl
  obtain ⟨d__law_cell, F__law_cell⟩ := c.def_ 7 (d := dd "_law_cell" s_cell) rfl
  obtain ⟨d__law_deck, F__law_deck⟩ := c.def_ 8 (d := dd "_law_deck" s_deck) rfl
  obtain ⟨d__law_draw, F__law_draw⟩ := c.def_ 9 (d := dd "_law_draw" s_draw) rfl
  obtain ⟨d__law_words, F__law_words⟩ := c.def_ 10 (d := dd "_law_words" s_words) rfl
  obtain ⟨d__law_kept, F__law_kept⟩ := c.def_ 11 (d := dd "_law_kept" s_kept) rfl
  obtain ⟨d__law_some, F__law_some⟩ := c.def_ 12 (d := dd "_law_some" s_some) rfl
  obtain ⟨d__law_strip, F__law_strip⟩ := c.def_ 13 (d := dd "_law_strip" s_strip) rfl
  obtain ⟨d__law_right, F__law_right⟩ := c.def_ 14 (d := dd "_law_right" s_right) rfl
  obtain ⟨d__law_by_hand, F__law_by_hand⟩ := c.def_ 15 (d := dd "_law_by_hand" s_by_hand) rfl
  obtain ⟨d_law, F_law⟩ := c.def_ 16 (d := dd "law" s_law) rfl
  have gl : ∀ (i : Nat) (x : Str), fa[i]? = some (.glo x) → mg x = some (.ref (He.ga K x)) := fun i x e => He.glo_ok X G (c.fact i e)
  have fr : ∀ (i : Nat) (x : Str), fa[i]? = some (.free x) → mg x = none := fun i x e => He.free_ok X G (c.fact i e)
  have e := hfa.symm.trans (gl 16 "law" rfl)
  cases e
  have B_is_colour : Binds K d_is_colour ["value"] [] := F_is_colour.bindsN fun _ _ _ _ _ _ us hl => match us, hl with | [_], _ => rfl
  have B_check_pushes : Binds K d_check_pushes ["row"] [] := F_check_pushes.bindsN fun _ _ _ _ _ _ us hl => match us, hl with | [_], _ => rfl
  have B_check_row : Binds K d_check_row ["row"] [] := F_check_row.bindsN fun _ _ _ _ _ _ us hl => match us, hl with | [_], _ => rfl
  have B_is_in_order : Binds K d_is_in_order ["values", "position"] [] := F_is_in_order.bindsN fun _ _ _ _ _ _ us hl => match us, hl with | [_, _], _ => rfl
  have B_check_any_colours : Binds K d_check_any_colours ["colours"] [] := F_check_any_colours.bindsN fun _ _ _ _ _ _ us hl => match us, hl with | [_], _ => rfl
  have B_pushes_of : Binds K d_pushes_of ["row", "colours"] [] := F_pushes_of.bindsN fun _ _ _ _ _ _ us hl => match us, hl with | [_, _], _ => rfl
  have B_projection : Binds K d_projection ["row", "colours"] [] := F_projection.bindsN fun _ _ _ _ _ _ us hl => match us, hl with | [_, _], _ => rfl
  have B__law_cell : Binds K d__law_cell ["_law_script", "_law_k"] [] := F__law_cell.bindsN fun _ _ _ _ _ _ us hl => match us, hl with | [_, _], _ => rfl
  have B__law_deck : Binds K d__law_deck ["_law_cell_here"] [] := F__law_deck.bindsN fun _ _ _ _ _ _ us hl => match us, hl with | [_], _ => rfl
  have B__law_draw : Binds K d__law_draw ["_law_deck_here", "_law_many"] [] := F__law_draw.bindsN fun _ _ _ _ _ _ us hl => match us, hl with | [_, _], _ => rfl
  have B__law_words : Binds K d__law_words ["_law_deck_here", "_law_many"] [] := F__law_words.bindsN fun _ _ _ _ _ _ us hl => match us, hl with | [_, _], _ => rfl
  have B__law_kept : Binds K d__law_kept ["_law_strip_here", "_law_some_here"] [] := F__law_kept.bindsN fun _ _ _ _ _ _ us hl => match us, hl with | [_, _], _ => rfl
  have B__law_some : Binds K d__law_some ["_law_deck_here", "_law_words_here"] [] := F__law_some.bindsN fun _ _ _ _ _ _ us hl => match us, hl with | [_, _], _ => rfl
  have B__law_strip : Binds K d__law_strip ["_law_deck_here", "_law_words_here"] [] := F__law_strip.bindsN fun _ _ _ _ _ _ us hl => match us, hl with | [_, _], _ => rfl
  have B__law_right : Binds K d__law_right ["_law_deck_here"] [] := F__law_right.bindsN fun _ _ _ _ _ _ us hl => match us, hl with | [_], _ => rfl
  have B__law_by_hand : Binds K d__law_by_hand [] [] := F__law_by_hand.bindsN fun _ _ _ _ _ _ us hl => match us, hl with | [], _ => rfl
  have T : TX mg := ⟨fr 17 "len" rfl, fr 18 "range" rfl, fr 19 "isinstance" rfl, fr 20 "str" rfl, fr 21 "tuple" rfl, fr 22 "all" rfl, fr 23 "max" rfl, fr 24 "min" rfl, fr 25 "abs" rfl, fr 26 "divmod" rfl, fr 27 "int" rfl, fr 28 "sorted" rfl, fr 29 "repr" rfl, fr 30 "enumerate" rfl, He.str_ok X G (c.fact 31 (f := .str "LETTERS" abc) rfl), He.int_ok X G (c.fact 32 (f := .int "MOST_LETTERS" 6) rfl), He.int_ok X G (c.fact 33 (f := .int "MOST_ROW" 400) rfl)⟩
  have b := FunD.bindsA (ps := ["_law_script"]) F_law fun _ _ _ _ _ _ us hl => match us, hl with | [_], _ => rfl
  refine ⟨d_law, fun s v => b s [v] rfl, fun base _ _ => ?_⟩
  have col : Fn P w K mg base "is_colour" 1 ["value"] (spCol) := ⟨_, _, ok_col F_is_colour T, F_is_colour.kp, B_is_colour, gl 0 "is_colour" rfl⟩
  have cp : Fn P w K mg base "check_pushes" 1 ["row"] (spCp K) := ⟨_, _, ok_cp F_check_pushes T, F_check_pushes.kp, B_check_pushes, gl 1 "check_pushes" rfl⟩
  have cr : Fn P w K mg base "check_row" 2 ["row"] (spCr K) := ⟨_, _, ok_cr F_check_row T cp col, F_check_row.kp, B_check_row, gl 2 "check_row" rfl⟩
  have io : Fn P w K mg base "is_in_order" 1 ["values", "position"] (spIo K) := ⟨_, _, ok_io F_is_in_order T, F_is_in_order.kp, B_is_in_order, gl 3 "is_in_order" rfl⟩
  have ca : Fn P w K mg base "check_any_colours" 2 ["colours"] (spCa K) := ⟨_, _, ok_ca F_check_any_colours T io col, F_check_any_colours.kp, B_check_any_colours, gl 4 "check_any_colours" rfl⟩
  have po : Fn P w K mg base "pushes_of" 1 ["row", "colours"] (spPo K) := ⟨_, _, ok_po F_pushes_of T, F_pushes_of.kp, B_pushes_of, gl 5 "pushes_of" rfl⟩
  have pj : Fn P w K mg base "projection" 3 ["row", "colours"] (spPj K) := ⟨_, _, ok_pj F_projection cr ca po, F_projection.kp, B_projection, gl 6 "projection" rfl⟩
  have draw : Fn P w K mg base "_law_draw" 1 ["_law_deck_here", "_law_many"] (spDraw) := ⟨_, _, ok_draw F__law_draw T, F__law_draw.kp, B__law_draw, gl 9 "_law_draw" rfl⟩
  have words : Fn P w K mg base "_law_words" 2 ["_law_deck_here", "_law_many"] (spWords) := ⟨_, _, ok_words F__law_words T draw, F__law_words.kp, B__law_words, gl 10 "_law_words" rfl⟩
  have kept : Fn P w K mg base "_law_kept" 1 ["_law_strip_here", "_law_some_here"] (spKept K) := ⟨_, _, ok_kept F__law_kept T, F__law_kept.kp, B__law_kept, gl 11 "_law_kept" rfl⟩
  have some_ : Fn P w K mg base "_law_some" 2 ["_law_deck_here", "_law_words_here"] (spSome K) := ⟨_, _, ok_some F__law_some T draw, F__law_some.kp, B__law_some, gl 12 "_law_some" rfl⟩
  have strip : Fn P w K mg base "_law_strip" 2 ["_law_deck_here", "_law_words_here"] (spStrip K) := ⟨_, _, ok_strip F__law_strip T draw, F__law_strip.kp, B__law_strip, gl 13 "_law_strip" rfl⟩
  have kb : KBn K d_projection ["row", "colours"] 0 ["row", "colours"] (fun _ ws => ws) (fun _ zs => zs) ∧ KBn K d_projection ["row", "colours"] 0 ["colours", "row"] (fun _ ws => [ws.getD 1 .none, ws.getD 0 .none]) (fun _ zs => [zs.getD 1 .non, zs.getD 0 .non]) := by
    obtain ⟨_, _, _, _, _, _, _, _, _, _, rfl, _, _, dflt, _⟩ := F_projection.ex
    rcases dflt with none_ | ⟨e, _⟩
    · cases none_.2
      exact ⟨⟨fun s us ws _ l1 l2 => match us, ws, l1, l2 with | [], [_, _], _, _ => .of_eq rfl, fun _ r => r⟩, ⟨fun s us ws _ l1 l2 => match us, ws, l1, l2 with | [], [_, _], _, _ => .of_eq rfl, fun _ r => vals_swap r⟩⟩
    · exact absurd rfl e
  have pjk : FnK P w K mg base "projection" 3 ["row", "colours"] (spPj K) 0 ["row", "colours"] (fun _ zs => zs) := ⟨_, _, _, ok_pj F_projection cr ca po, F_projection.kp, kb.1, gl 6 "projection" rfl⟩
  have pjks : FnK P w K mg base "projection" 3 ["row", "colours"] (spPj K) 0 ["colours", "row"] (fun _ zs => [zs.getD 1 .non, zs.getD 0 .non]) := ⟨_, _, _, ok_pj F_projection cr ca po, F_projection.kp, kb.2, gl 6 "projection" rfl⟩
  have right : Fn P w K mg base "_law_right" 4 ["_law_deck_here"] (spRight) := ⟨_, _, ok_right F__law_right T (words.up (by decide)) (strip.up (by decide)) (some_.up (by decide)) (kept.up (by decide)) pj pjk pjks, F__law_right.kp, B__law_right, gl 14 "_law_right" rfl⟩
  have hand : Fn P w K mg base "_law_by_hand" 4 [] (spHand) := ⟨_, _, ok_hand F__law_by_hand T pj, F__law_by_hand.kp, B__law_by_hand, gl 15 "_law_by_hand" rfl⟩
  have deck : Fn P w K mg base "_law_deck" 1 ["_law_cell_here"] (spNew PD) := ⟨_, _, ok_deck F__law_deck T, F__law_deck.kp, B__law_deck, gl 8 "_law_deck" rfl⟩
  have cell : Fn P w K mg base "_law_cell" 1 ["_law_script", "_law_k"] (spCell K) := ⟨_, _, ok_cell F__law_cell T, F__law_cell.kp, B__law_cell, gl 7 "_law_cell" rfl⟩
  exact ok_law F_law T hand right (deck.up (by decide)) (cell.up (by decide))
end K43
open PySem PySem.W PySem.Calls PyProof.Rows
theorem PySem.Challenge.cw_doorlots_k43_projections_holds : PySem.Challenge.rw_doorlots_k43_projections.Holds := by
  w_on; o_law
  refine HandSHeadRun.head_any (r := OpenLaw.row PySem.Challenge.rw_doorlots_k43_projections) (q := view (OpenLaw.row PySem.Challenge.rw_doorlots_k43_projections).prog [27]) (H := K43.hk) (ob := Gd.obX 6 K43.fa K43.fn K43.more) (M := 9000) (loose := K43.loose)
    (d := HandSHeadRun.topDef (OpenLaw.row PySem.Challenge.rw_doorlots_k43_projections).prog 27) (kwd := []) (Gd.obX_eq 6 K43.fa K43.fn K43.more)
    (by kernel_rfl) (fun s => by kernel_rfl) K43.run (by kernel_rfl) (by kernel_rfl) (by kernel_rfl) (by rfl) (by first | assumption | decide +kernel) (by decide +kernel) ⟨rfl, rfl, rfl, rfl, rfl, by decide +kernel⟩ ?hw ?hc
  case hw => w_witness2
  case hc =>
    refine Gd.walk_g (l := PySem.Challenge.rw_doorlots_k43_projections) (n := 63) (k := 5) (x := "_law_script") (CX := L2.CX0) ⟨rfl, by decide, by decide⟩ rfl (by decide) (by kernel_rfl) (fun _ _ _ _ z => z) ?F
    intro w mg fa h Y G hmg0
    obtain ⟨K, KX, c, m⟩ := Y
    have hmg : mg ("law" : PySem.Str) = some (.ref fa) := by
      have e : (HandSHeadRun.topDef (OpenLaw.row PySem.Challenge.rw_doorlots_k43_projections).prog 27).name = ("law" : PySem.Str) := by kernel_rfl
      rw [← e]
      exact hmg0
    obtain ⟨fd, hb, hF⟩ := K43.facts (P := (PySem.Challenge.rw_doorlots_k43_projections).prog) (w := w) KX G hmg c m
    exact ⟨⟨K, fd, Gr.spLawS K, KX, hb, fun H a ns hl _ hS => ⟨a, ns, rfl, hS, hl, fun _ => rfl⟩, hF⟩⟩
