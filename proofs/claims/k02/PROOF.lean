import PyProof.Rows.All
import Wide.All
import OpenK.AllK
import Wide.FinOn
import PyProof.EqAt
import PyProof.EqKinds
import PyProof.TupleCall
import PyProof.ReprRoads
import HandS.Base
import HandS.Call
import HandS.List
import HandS.Comp
import HandS.Ends
import HandS.Words
import HandS.ForMost
import HandS.IsInst
import HandS.Flow
import HandS.TupAny
import HandS.Zip
import HandS.Walk
import HandS.DictComp
import HandS.More
import HandS.Style
import HandS.TryOnly
import KE.GoesMore
import KE.GoesEnum
import PyProof.ReprLen
import HandS.Conv
import PyProof.P3Eq
import HandS.ExcInit
import HandS.ExcField
import KE.KExcIs
import KE.KTryMore
import KE.KExcInit
import HandS.ExcIs
import HandS.WordsExc
import HandS.ExcOwn
import PySem.Challenge.RW_grudgecote_k02_what_lies_where
set_option Elab.async false
set_option linter.all false
set_option maxRecDepth 100000
set_option maxHeartbeats 4000000
/-! Defs that are entered while no repr is under way (so that a repr within them shows all): the same road as for plain defs, with that one fact more. -/
namespace Gc
open PySem PySem.Spec PyProof.Rows L2

/-- a def that keeps its promise when entered while no repr is under way -/
structure GOk (P : Program) (w : World) (K : PySem.W.Frag) (mg : Str → Option Value) (base : Heap) (k : Nat) (f : Addr) (fd : FuncData) (ps : List Str) (sp : Sp) : Prop where
  len : ∀ vs H Q E, sp vs H Q E → vs.length = ps.length
  go : ∀ (A : Around) (out : List Env) (s : Shared) (H : Hp) (ar : Args) (us : List Value) (vs : List V) (Q : VK) (E : XK), Room k A → A.guards = some [] →
    Env0 P w K mg base A out s H → BindsTo s fd ar (ps.zip us) → Vals vs us → sp vs H Q E → codeAny (model P w) A (.call (.ref f) ar) (CR CX0 out P w H s Q E) s

section
variable {P : Program} {w : World} {K : PySem.W.Frag} {mg : Str → Option Value} {base : Heap}
theorem GOk.of {k : Nat} {f : Addr} {fd : FuncData} {ps : List Str} {sp : Sp} (F : FnOk P w K mg base CX0 k f fd ps sp) : GOk P w K mg base k f fd ps sp :=
  ⟨F.len, fun A out s H ar us vs Q E hr _ => F.run A out s H ar us vs Q E hr⟩
/-- a def of the text, by its body: in the body, too, no repr is under way -/
theorem g_ok {nm ql : Str} {st : Stmt} {f : Addr} {fd : FuncData} {N ps : List Str} {k : Nat} {sp : Sp} (F : Fun K nm ql st f fd) (S : FnScope N ps (defScope st)) (len : ∀ vs H Q E, sp vs H Q E → vs.length = ps.length)
    (body : ∀ (cd : Value) (A : Around) (out : List Env) (s : Shared) (H : Hp) (vs : List V) (Q : VK) (E : XK), Room k (A.deeper (envOfC ql (defScope st) s.heap.objs.size f cd)) → A.guards = some [] → sp vs H Q E →
      ∃ t, PSs (cxOf CX0 P w K mg base N ql (defScope st) f cd A out s H E).nox (defBody st) t ∧ t { nx := fun _ H' => Q .non H', rt := Q } (start N vs) H) : GOk P w K mg base (k + 1) f fd ps sp := by
  obtain ⟨oc, od, kV, doc, pm, an, cd, ct, osl, rfl, lk, hcd⟩ := F.ex
  constructor
  · exact len
  intro A out s H ar us vs Q E hr hg e0 hb rv hsp
  have KX : K.In s.heap := e0.mod.kin.keeps (fun b o e => (e0.bs b o e).1)
  have hlm : s.heap.NoLimit := e0.mod.nolimit.keeps (fun b o e => (e0.bs b o e).1)
  have kinds : ∀ y ∈ ps.zip us, (defScope st).names.lookup y.1 = some .local ∨ ((defScope st).names.lookup y.1 = some .cell ∧ ((cellsFrom (s.heap.objs.size + 1) (defScope st).names []).lookup y.1).isSome = true) := by
    rintro ⟨n, v⟩ hy
    have hn : n ∈ ps := (List.of_mem_zip hy).1
    cases S.par n hn with
    | inl q => exact .inl q
    | inr q => exact .inr ⟨q, PySem.W.cellsFrom_some _ _ _ (.inl q)⟩
  apply codeAny_call_function hr.depth (KX _ _ lk) rfl S.co S.gen rfl (PySem.W.codeRec_of KX hcd)
  apply hb
  apply wpAny_newFunctionEnv_cells S.kind kinds
  intro env he s1 x
  subst he
  refine ⟨hlm.keeps x.toInCall.keep, codeAny_func ?_⟩
  obtain ⟨t, ht, hq⟩ := body cd A out s H vs Q E (hr.deeper _) hg hsp
  have I := inv_start (CX := CX0) (P := P) (w := w) (mg := mg) (E := E) S hr.hd e0 (len _ _ _ _ hsp) rv x
  apply wpAny_mono (ht.nox.run [] s1 (start N vs) H _ I hq)
  · intro fl s2 hs
    cases fl with
    | ret u =>
      obtain ⟨v, _, H2, J, r2, q2⟩ := hs
      exact ⟨v, H2, J.os, J.bare, J.base, J.hok, r2, q2⟩
    | next =>
      obtain ⟨_, H2, J, q2⟩ := hs
      exact ⟨.non, H2, J.os, J.bare, J.base, J.hok, rfl, q2⟩
    | brk => exact hs.elim fun _ z => z.elim fun _ z => z.2.elim
    | cont => exact hs.elim fun _ z => z.elim fun _ z => z.2.elim
  · intro e s2 hs
    exact hs
end

section
variable {X : Cx} {k : Nat} {f : Addr} {fd : FuncData} {ps : List Str} {sp : Sp} {dvs : List V} {ds : List Value} {E : XK} {x : Str} {p pos : Pos} {e : Expr} {es : List Expr} {t : TA}
/-- such a def called -/
theorem pe_callG (F : GOk X.prog X.w X.K X.mg X.base k f fd ps sp) (hr : Room k X.A) (hG : X.A.guards = some []) (hg : Gl X x) (hm : X.mg x = some (.ref f)) (hk : PySem.W.keepIn X.K (.ref f) = true) (hb : Binds X.K fd ps [])
    (ha : PA X (e :: es) t) (hdb : (x == ("__debug__" : Str)) = false := by decide) (he : starEach (e :: es) X.env = (false, eval e X.env) :: starEach es X.env := by rfl) (hpl : (backTo pos (starEach es X.env)).any (·.1) = false := by rfl) :
    PE X (.Call (.Name x p) (e :: es) [] pos) (tCall sp [] E t) := by
  constructor
  intro pins s σ H Q I h
  apply wpAny_Call_Name_kw
  apply ld_glob I hg hm _ hdb
  apply PySem.W.callWith_K (h₀ := X.base) I.ok.mod.kin hk _ he hpl
  apply thn (ha.run pos pins s σ H _ I h)
  rintro us s1 ⟨vs, H1, I1, r1, q1⟩
  refine ⟨I1.kIn, ?_⟩
  rw [List.append_nil] at q1
  have hl : us.length = ps.length := by rw [← r1.length]; exact F.len _ _ _ _ q1
  have bd := hb s1 us I1.kIn (by rw [List.append_nil]; exact hl)
  rw [List.append_nil] at bd
  apply wpAny_call
  apply codeAny_mono (F.go X.A X.stack s1 H1 ⟨us, []⟩ us vs Q E hr hG I1.env0 bd r1 q1)
  intro r s2 hq
  match r, hq with
  | .error _, hq => exact hq.elim
  | .ok (.ret _), hq => exact I1.after hq
  | .ok .next, hq => exact hq.elim
  | .ok .brk, hq => exact hq.elim
  | .ok .cont, hq => exact hq.elim
end

/-! ### repr of data -/
section
variable {X : Cx}
theorem hsm_of {d : PyData} {as : List Addr} (h : d.hasDict = false) : d.hasDict = true → sysModules ∉ as := fun q => by rw [h] at q; cases q
def rRepr (K : PySem.W.Frag) : List V → Hp → VK → Prop := fun xs H Q => ∃ (a : Addr) (d : PyData), xs = [V.ref a] ∧ Dp K H (.ref a) d ∧ d.showable = true ∧ d.hasDict = false ∧ d.depth ≤ 60 ∧ d.shown.length ≤ sizeLine ∧ Q (.str d.shown) H
theorem call_reprD (hG : X.A.guards = some []) (hu : X.A.units + 64 < cLine) : CallR X (.builtin "repr") (rRepr X.K) := by
  intro pins s σ H xs us Q I r h
  obtain ⟨a, d, rfl, hd, h1, h2, h3, h4, q⟩ := h
  obtain ⟨u, rfl, ru⟩ := vals1 r
  cases (show u = Value.ref a from ru)
  obtain ⟨as, r1⟩ := Dp.reads I d _ _ hd (show RelV (V.ref a) (Value.ref a) from rfl)
  exact repr_of_reads' r1 h1 (hsm_of h2) hG (by omega) (fun _ _ e => e) (fun h' u tk hk => ⟨.str d.shown, H, I.kept hk, ⟨_, rfl⟩, q⟩) h4
end
end Gc

set_option Elab.async false
set_option linter.all false
set_option maxRecDepth 100000
set_option maxHeartbeats 4000000
/-! The law's end over a def that keeps its promise while no repr is under way. -/
namespace Gc
open PySem PySem.Spec PyProof.Rows L2

/-- the heap that tracks the script alone -/
def oneH (a : Addr) (u : HO) : Hp := fun b => if b = a then some u else none
theorem oneH_at {a : Addr} {u : HO} : oneH a u a = some u := by unfold oneH; rw [if_pos rfl]
theorem oneH_of {a b : Addr} {u o : HO} (h : oneH a u b = some o) : b = a ∧ o = u := by
  unfold oneH at h
  by_cases e : b = a
  · rw [if_pos e] at h; exact ⟨e, (Option.some.inj h).symm⟩
  · rw [if_neg e] at h; cases h

section
variable {P : Program} {w : World} {K : PySem.W.Frag} {mg mb : Str → Option Value} {k : Nat} {fa a : Addr} {fd : FuncData} {x : Str} {sp : Sp} {s1 : Shared} {vs : List Value} {ns : List Int}
/-- the call over one abstract heap -/
theorem law_run (H : Hp) (hO : Only H) (hok : HOk P w H s1.heap) (KX : K.In s1.heap) (hns : s1.heap.Ns mainGlobals mg) (hb : s1.heap.Ns builtinsNs mb) (hbb : ∀ x : Str, x ≠ "__name__" → mb x = bootBuiltins x) (hlim : s1.heap.NoLimit) (hg : s1.gens = #[])
    (ha : s1.heap.get? a = some { cls := .type "list", data := .seq vs.toArray }) (only : ∀ b o, H b = some o → b = a) (hK : H a ≠ none → K.lookup a = none) (hr : Room k callerA)
    (F : ∀ base : Heap, K.In base → base.Ns mainGlobals mg → GOk P w K mg base k fa fd [x] sp) (hbind : ∀ (s : Shared) (u : Value), BindsTo s fd ⟨[u], []⟩ [(x, u)])
    (hsp : sp [.ref a] H (fun v _ => v = .bl true) fun _ _ _ => False) :
    codeAny (model P w) callerA (.call (.ref fa) ⟨[.ref a], []⟩) (fun r s' => r = .ok (.ret (.bool true)) ∧ OldK s1.heap s'.heap ∧ s'.os = s1.os ∧ AllBare s'.gens) s1 := by
  have keepNs : ∀ {b : Addr} {m : Str → Option Value}, s1.heap.Ns b m → (hidT s1.heap H).Ns b m := by
    rintro b m ⟨o, es, ep, e, d, r⟩
    refine ⟨o, es, ep, hidT_get e ?_, d, r⟩
    cases q : H b with
    | none => rfl
    | some u =>
      have eb := only b u q
      subst eb
      rw [ha] at e
      cases e
      cases (show Data.seq vs.toArray _ = Data.dict es ep from d)
  have keepK : K.In (hidT s1.heap H) := by
    intro b o e
    refine hidT_get (KX b o e) ?_
    cases q : H b with
    | none => rfl
    | some u =>
      have eb := only b u q
      subst eb
      rw [hK (by rw [q]; exact fun z => nomatch z)] at e
      cases e
  have M : Mod K mg (hidT s1.heap H) := ⟨keepK, keepNs hns, ⟨mb, keepNs hb, hbb⟩, hlim.elim fun mc z => ⟨mc, keepNs z.1, z.2⟩⟩
  have e0 : Env0 P w K mg (hidT s1.heap H) callerA [] s1 H := by
    refine ⟨rfl, M, fun b o e => of_hidT e, Nat.le_of_eq (hidT_size _ _), trivial, fun b z => ?_, hok, .of_eq hg⟩
    cases z
  apply codeAny_mono ((F _ keepK (keepNs hns)).go callerA [] s1 H ⟨[.ref a], []⟩ [.ref a] [.ref a] _ _ hr rfl e0 (hbind s1 (.ref a)) (.cons rfl .nil) hsp)
  intro r s2 q
  match r, q with
  | .error _, q => exact q.elim
  | .ok .next, q => exact q.elim
  | .ok .brk, q => exact q.elim
  | .ok .cont, q => exact q.elim
  | .ok (.ret u), q =>
    obtain ⟨v, H2, os, bare, un, hok2, ru, ev⟩ := q
    subst ev
    cases (show u = Value.bool true from ru)
    refine ⟨rfl, OldK.of_keep ?_, os, bare⟩
    intro b o e
    rcases hO b with z | ⟨ob, xs, z⟩
    · exact un.keep b o e z (fun y => nomatch y) (fun y => nomatch y)
    · have z2 := un.frzs b ob _ z
      have e1 := (hok b _ z).1
      have e2 := (hok2 b _ z2).1
      rw [e] at e1
      cases e1
      exact e2

theorem law_callG (KX : K.In s1.heap) (hns : s1.heap.Ns mainGlobals mg) (hb : s1.heap.Ns builtinsNs mb) (hbb : ∀ x : Str, x ≠ "__name__" → mb x = bootBuiltins x) (hlim : s1.heap.NoLimit) (hg : s1.gens = #[])
    (ha : s1.heap.get? a = some { cls := .type "list", data := .seq vs.toArray }) (hi : IntsAre vs ns) (hl : ns.length ≤ sizeLine) (hr : Room k callerA)
    (F : ∀ base : Heap, K.In base → base.Ns mainGlobals mg → GOk P w K mg base k fa fd [x] sp) (hbind : ∀ (s : Shared) (u : Value), BindsTo s fd ⟨[u], []⟩ [(x, u)])
    (hsp : ∀ H : Hp, Only H → SqL K H a (ns.map V.int) → sp [.ref a] H (fun v _ => v = .bl true) fun _ _ _ => False) :
    codeAny (model P w) callerA (.call (.ref fa) ⟨[.ref a], []⟩) (fun r s' => r = .ok (.ret (.bool true)) ∧ OldK s1.heap s'.heap ∧ s'.os = s1.os ∧ AllBare s'.gens) s1 := by
  have rv := vals_ints hi
  cases hk : K.lookup a with
  | some o =>
    have e := KX a o hk
    rw [ha] at e
    cases e
    have hS : SqL K (fun _ => none) a (ns.map V.int) := .inr ⟨_, vs.toArray, _, hk, rfl, rfl, rfl, by rw [List.size_toArray, hi.length]; exact hl, by simpa using rv⟩
    exact law_run (fun _ => none) (fun _ => .inl rfl) (fun b u z => nomatch z) KX hns hb hbb hlim hg ha (fun b o z => nomatch z) (fun z => absurd rfl z) hr F hbind (hsp _ (fun _ => .inl rfl) hS)
  | none =>
    let u : HO := .frz { cls := .type "list", data := .seq vs.toArray } (.lst (ns.map V.int))
    have hO : Only (oneH a u) := fun b => by
      unfold oneH
      by_cases e : b = a
      · exact .inr ⟨_, _, if_pos e⟩
      · exact .inl (if_neg e)
    have hS : SqL K (oneH a u) a (ns.map V.int) := .inl (.inr ⟨_, oneH_at⟩)
    refine law_run (oneH a u) hO ?_ KX hns hb hbb hlim hg ha (fun b o z => (oneH_of z).1) (fun _ => hk) hr F hbind (hsp _ hO hS)
    intro b o z
    obtain ⟨eb, eo⟩ := oneH_of z
    subst eb eo
    exact ⟨ha, by rw [List.length_map]; exact hl, vs, _, rv, ha⟩
end

theorem walk_ofG {l : PySem.W.OpenLaw} {n k : Nat} {q : Program} {loose : List Str} {XP : (Str → Option Value) → Heap → Prop} {YP : World → Heap → Prop} {d : DefRec} {K : Params → PySem.W.Frag} {sp : PySem.W.Frag → Sp} {x : Str}
    (hn : l.most = some n) (hn2 : n ≤ sizeLine) (hdf : d.params.defaults = []) (hr : Room k callerA) (hY : ∀ (w : World) (h : Heap), YP w h → (K w.params).In h)
    (F : ∀ (w : World) (mg : Str → Option Value) (fa : Addr) (h : Heap), (K w.params).In h → h.Ns mainGlobals mg → mg d.name = some (.ref fa) →
      ∃ fd : FuncData, (∀ (s : Shared) (u : Value), BindsTo s fd ⟨[u], []⟩ [(x, u)]) ∧ ∀ base : Heap, (K w.params).In base → base.Ns mainGlobals mg → GOk l.prog w (K w.params) mg base k fa fd [x] (sp (K w.params)))
    (hsp : ∀ (K : PySem.W.Frag) (H : Hp) (a : Addr) (ns : List Int), ns.length ≤ n → SqL K H a (ns.map V.int) → sp K [.ref a] H (fun v _ => v = .bl true) fun _ _ _ => False) :
    PySem.W.WalkO q loose XP YP l.row.toRowW d [] (fun f vs => PySem.call f vs) := by
  apply Att.attach_call hn hdf
  intro w s0 s1 mg mb fa o pm cd doc a vs ns G Y ho hd hcd hmg hobj hints hlen hg
  have KX := hY w _ Y
  obtain ⟨fd, hb, hF⟩ := F w mg fa _ KX G.T.g hmg
  exact law_callG KX G.T.g G.T.b G.T.builtins G.T.nolimit hg hobj hints (Nat.le_trans hlen hn2) hr hF hb (fun H _ hS => hsp _ H a ns hlen hS)
end Gc

set_option Elab.async false
set_option linter.all false
set_option maxRecDepth 100000
set_option maxHeartbeats 4000000
/-! Data over a part of the heap that stands still while a box is drawn from. -/
namespace Gc
open PySem PySem.Spec PyProof.Rows L2

theorem Same.seqT {K : PySem.W.Frag} {H H' : Hp} {a : Addr} {xs : List V} (e : Same H H') (h : SqT K H a xs) : SqT K H' a xs := by
  rcases h with (h | ⟨o, h⟩) | h
  · exact .inl (.inl (e _ _ h))
  · exact .inl (.inr ⟨o, e _ _ h⟩)
  · exact .inr h
theorem same_new {H : Hp} {p : Addr} (h : H p = none) (o : HO) : Same H (upd H p o) := fun b u q => by rw [upd_ne (ne_of_none q h)]; exact q

mutual
theorem Dp.mono {K : PySem.W.Frag} {G H : Hp} (e : Same G H) : ∀ {v : V} {d : PyData}, Dp K G v d → Dp K H v d
  | _, _, .non => .non
  | _, _, .bl b => .bl b
  | _, _, .int i => .int i
  | _, _, .str x => .str x
  | _, _, .lst s a => .lst (e.seq s) (DpAll.mono e a)
  | _, _, .tup s a => .tup (Same.seqT e s) (DpAll.mono e a)
theorem DpAll.mono {K : PySem.W.Frag} {G H : Hp} (e : Same G H) : ∀ {vs : List V} {ds : List PyData}, DpAll K G vs ds → DpAll K H vs ds
  | _, _, .nil => .nil
  | _, _, .cons h t => .cons (Dp.mono e h) (DpAll.mono e t)
end
section
variable {K : PySem.W.Frag} {H : Hp}
theorem DpAll.len : ∀ {vs : List V} {ds : List PyData}, DpAll K H vs ds → vs.length = ds.length
  | _, _, .nil => rfl
  | _, _, .cons _ t => by rw [List.length_cons, List.length_cons, DpAll.len t]
theorem DpAll.get : ∀ {vs : List V} {ds : List PyData} {i : Nat} {v : V}, DpAll K H vs ds → vs[i]? = some v → ∃ d, ds[i]? = some d ∧ Dp K H v d
  | _, _, _, _, .nil, e => by simp at e
  | _, _, 0, _, .cons h _, e => by simp at e; subst e; exact ⟨_, rfl, h⟩
  | _, _, i + 1, _, .cons _ t, e => by simpa using DpAll.get (i := i) t (by simpa using e)
theorem DpAll.got : ∀ {vs : List V} {ds : List PyData} {i : Nat} {d : PyData}, DpAll K H vs ds → ds[i]? = some d → ∃ v, vs[i]? = some v ∧ Dp K H v d
  | _, _, _, _, .nil, e => by simp at e
  | _, _, 0, _, .cons h _, e => by simp at e; subst e; exact ⟨_, rfl, h⟩
  | _, _, i + 1, _, .cons _ t, e => by simpa using DpAll.got (i := i) t (by simpa using e)
theorem DpAll.app : ∀ {vs ws : List V} {ds es : List PyData}, DpAll K H vs ds → DpAll K H ws es → DpAll K H (vs ++ ws) (ds ++ es)
  | _, _, _, _, .nil, s => s
  | _, _, _, _, .cons h t, s => .cons h (DpAll.app t s)
theorem DpAll.snoc {vs : List V} {ds : List PyData} {v : V} {d : PyData} (a : DpAll K H vs ds) (h : Dp K H v d) : DpAll K H (vs ++ [v]) (ds ++ [d]) := DpAll.app a (.cons h .nil)
theorem DpAll.set : ∀ {vs : List V} {ds : List PyData} {v : V} {d : PyData} (i : Nat), DpAll K H vs ds → Dp K H v d → DpAll K H (vs.set i v) (ds.set i d)
  | _, _, _, _, _, .nil, _ => .nil
  | _, _, _, _, 0, .cons _ t, h => .cons h t
  | _, _, _, _, i + 1, .cons g t, h => .cons g (DpAll.set i t h)
theorem DpAll.take : ∀ {vs : List V} {ds : List PyData} (n : Nat), DpAll K H vs ds → DpAll K H (vs.take n) (ds.take n)
  | _, _, 0, _ => .nil
  | _, _, _ + 1, .nil => .nil
  | _, _, n + 1, .cons h t => .cons h (DpAll.take n t)
theorem DpAll.drop : ∀ {vs : List V} {ds : List PyData} (n : Nat), DpAll K H vs ds → DpAll K H (vs.drop n) (ds.drop n)
  | _, _, 0, a => a
  | _, _, _ + 1, .nil => .nil
  | _, _, n + 1, .cons _ t => DpAll.drop n t
theorem DpAll.rev {vs : List V} {ds : List PyData} (a : DpAll K H vs ds) : DpAll K H vs.reverse ds.reverse := by
  induction vs generalizing ds with
  | nil => cases a; exact .nil
  | cons v vs ih =>
    cases a with
    | cons h t => rw [List.reverse_cons, List.reverse_cons]; exact DpAll.snoc (ih t) h
theorem dp_ints : ∀ (ns : List Int), DpAll K H (ns.map V.int) (ns.map PyData.int)
  | [] => .nil
  | n :: r => .cons (.int n) (dp_ints r)
theorem dp_strs : ∀ (xs : List Str), DpAll K H (xs.map V.str) (xs.map PyData.str)
  | [] => .nil
  | n :: r => .cons (.str n) (dp_strs r)
theorem Dp.tup_inv {v : V} {ds : List PyData} (h : Dp K H v (.tuple ds)) : ∃ a xs, v = .ref a ∧ SqT K H a xs ∧ DpAll K H xs ds := by
  cases h with
  | tup s a => exact ⟨_, _, rfl, s, a⟩
theorem Dp.lst_inv {v : V} {ds : List PyData} (h : Dp K H v (.list ds)) : ∃ a xs, v = .ref a ∧ SqL K H a xs ∧ DpAll K H xs ds := by
  cases h with
  | lst s a => exact ⟨_, _, rfl, s, a⟩
/-- a sequence: a list or a tuple -/
def SqS (K : PySem.W.Frag) (H : Hp) (a : Addr) (xs : List V) : Prop := SqL K H a xs ∨ SqT K H a xs
/-- a list or a tuple of these -/
def Ds (K : PySem.W.Frag) (H : Hp) (v : V) (ds : List PyData) : Prop := Dp K H v (.list ds) ∨ Dp K H v (.tuple ds)
theorem Ds.inv {v : V} {ds : List PyData} (h : Ds K H v ds) : ∃ a xs, v = .ref a ∧ (SqL K H a xs ∨ SqT K H a xs) ∧ DpAll K H xs ds := by
  rcases h with h | h
  · obtain ⟨a, xs, e, s, t⟩ := Dp.lst_inv h
    exact ⟨a, xs, e, .inl s, t⟩
  · obtain ⟨a, xs, e, s, t⟩ := Dp.tup_inv h
    exact ⟨a, xs, e, .inr s, t⟩
theorem Ds.mono {G : Hp} (e : Same G H) {v : V} {ds : List PyData} (h : Ds K G v ds) : Ds K H v ds := h.imp (Dp.mono e) (Dp.mono e)
end

/-! ### the box that is drawn from -/
def BoxAt (H : Hp) (b : Addr) : Prop := ∃ x y z : Int, H b = some (.lst [.int x, .int y, .int z])
/-- the box may have turned, all else that was tracked is as it was -/
structure Step (b : Addr) (H H' : Hp) : Prop where
  box : BoxAt H' b
  old : ∀ a o, a ≠ b → H a = some o → H' a = some o
/-- G, without the box, stands in H, with the box -/
structure Sg (b : Addr) (G H : Hp) : Prop where
  sub : Same G H
  off : G b = none
  box : BoxAt H b
section
variable {b p : Addr} {G G' H H' H2 : Hp} {o : HO}
theorem BoxAt.same (h : BoxAt H b) (e : Same H H') : BoxAt H' b := by
  obtain ⟨x, y, z, q⟩ := h
  exact ⟨x, y, z, e _ _ q⟩
theorem Step.trans (h : Step b H H') (k : Step b H' H2) : Step b H H2 := ⟨k.box, fun a o n e => k.old a o n (h.old a o n e)⟩
theorem Step.same (h : BoxAt H b) (e : Same H H') : Step b H H' := ⟨h.same e, fun a o _ q => e a o q⟩
theorem Step.refl (h : BoxAt H b) : Step b H H := .same h (Same.refl H)
theorem Sg.step (h : Sg b G H) (k : Step b H H') : Sg b G H' := ⟨fun a o e => k.old a o (ne_of_none e h.off) (h.sub a o e), h.off, k.box⟩
theorem Sg.same (h : Sg b G H) (e : Same H H') : Sg b G H' := ⟨h.sub.trans e, h.off, h.box.same e⟩
theorem BoxAt.ne (h : BoxAt H b) (hp : H p = none) : b ≠ p := by
  obtain ⟨x, y, z, q⟩ := h
  exact ne_of_none q hp
theorem Sg.new (h : Sg b G H) (hp : H p = none) (o : HO) : Sg b (upd G p o) (upd H p o) := by
  have nb := h.box.ne hp
  refine ⟨fun a u e => ?_, by rw [upd_ne nb]; exact h.off, h.box.same (same_new hp o)⟩
  by_cases ea : a = p
  · subst ea; rw [upd_same] at e ⊢; exact e
  · rw [upd_ne ea] at e ⊢; exact h.sub a u e
theorem Sg.free (h : Sg b G H) (hp : H p = none) : G p = none := h.sub.free hp
theorem Sg.grow (h : Sg b G H) (hp : H p = none) (o : HO) : Same G (upd G p o) := same_new (h.free hp) o
/-- all but the box -/
def but (H : Hp) (b : Addr) : Hp := fun a => if a = b then none else H a
theorem but_at : but H b b = none := by unfold but; rw [if_pos rfl]
theorem but_ne {a : Addr} (h : a ≠ b) : but H b a = H a := by unfold but; rw [if_neg h]
theorem Sg.but (h : BoxAt H b) : Sg b (but H b) H := ⟨fun a o e => by
  by_cases q : a = b
  · rw [q, but_at] at e; cases e
  · rw [but_ne q] at e; exact e, but_at, h⟩
end

/-! ### standings as data -/
abbrev Gr := Int × Str
def dG (g : Gr) : PyData := .tuple [.int g.1, .str g.2]
def dH (h : List Gr) : PyData := .tuple (h.map dG)
def dS (s : List (List Gr)) : PyData := .tuple (s.map dH)
mutual
def listed : PyData → PyData
  | .list xs => .list (listedAll xs)
  | .tuple xs => .list (listedAll xs)
  | .none => .none
  | .bool b => .bool b
  | .int i => .int i
  | .str s => .str s
  | .dict kvs => .dict kvs
def listedAll : List PyData → List PyData
  | [] => []
  | d :: ds => listed d :: listedAll ds
end
theorem listedAll_map : ∀ ds : List PyData, listedAll ds = ds.map listed
  | [] => by rw [listedAll]; rfl
  | d :: ds => by rw [listedAll, listedAll_map ds]; rfl
/-- the words that are drawn -/
def menu : List Str := ["a", "b", "a", "b", "ab", "ba", "c", "zzzzzz"]
/-- how many grudges in all -/
def total : List (List Gr) → Nat
  | [] => 0
  | h :: r => h.length + total r
/-- each grudge is about another dove that is there, by a word of the menu -/
def OkS (S : List (List Gr)) : Prop := ∀ (i : Nat) (h : List Gr), S[i]? = some h → ∀ g ∈ h, 0 ≤ g.1 ∧ g.1 < (S.length : Int) ∧ g.1 ≠ (i : Int) ∧ g.2 ∈ menu
/-- a drawn standing: one dove to n, at most m grudges -/
structure RoomOk (n m : Int) (S : List (List Gr)) : Prop where
  one : 1 ≤ S.length
  many : (S.length : Int) ≤ n
  sum : (total S : Int) ≤ m
  ok : OkS S
theorem total_set : ∀ {S : List (List Gr)} {i : Nat} {h : List Gr} (g : Gr), S[i]? = some h → total (S.set i (h ++ [g])) = total S + 1
  | [], _, _, _, e => by simp at e
  | a :: r, 0, h, g, e => by
    have e' : a = h := by simpa using e
    subst e'
    show (a ++ [g]).length + total r = a.length + total r + 1
    rw [List.length_append, List.length_singleton]
    omega
  | a :: r, i + 1, h, g, e => by
    have ih := total_set (S := r) (i := i) (h := h) g (by simpa using e)
    show a.length + total (r.set i (h ++ [g])) = a.length + total r + 1
    omega
theorem mem_total : ∀ {S : List (List Gr)} {i : Nat} {h : List Gr}, S[i]? = some h → h.length ≤ total S
  | [], _, _, e => by simp at e
  | a :: r, 0, h, e => by
    have e' : a = h := by simpa using e
    subst e'
    exact Nat.le_add_right _ _
  | a :: r, i + 1, h, e => Nat.le_trans (mem_total (S := r) (i := i) (h := h) (by simpa using e)) (Nat.le_add_left _ _)
theorem OkS.put {S : List (List Gr)} {i : Nat} {h : List Gr} {g : Gr} (ok : OkS S) (e : S[i]? = some h) (hg : 0 ≤ g.1 ∧ g.1 < (S.length : Int) ∧ g.1 ≠ (i : Int) ∧ g.2 ∈ menu) : OkS (S.set i (h ++ [g])) := by
  intro j k hj g' hg'
  rw [List.length_set]
  have hi : i < S.length := (List.getElem?_eq_some_iff.mp e).1
  by_cases hij : i = j
  · subst hij
    rw [List.getElem?_set_self hi] at hj
    cases hj
    rcases List.mem_append.mp hg' with z | z
    · exact ok i h e g' z
    · cases List.mem_singleton.mp z
      exact hg
  · rw [List.getElem?_set_ne hij] at hj
    exact ok j k hj g' hg'
theorem OkS.rep (n : Nat) : OkS (List.replicate n []) := by
  intro j k hj g hg
  rw [List.getElem?_replicate] at hj
  split at hj
  · cases hj; cases hg
  · cases hj
/-- the next one but r3 round -/
theorem round_ne {r2 r3 c : Int} (a0 : 0 ≤ r2) (a1 : r2 < c) (b0 : 0 ≤ r3) (b1 : r3 < c - 1) : 0 ≤ (r2 + 1 + r3) % c ∧ (r2 + 1 + r3) % c < c ∧ (r2 + 1 + r3) % c ≠ r2 := by
  refine ⟨Int.emod_nonneg _ (by omega), Int.emod_lt_of_pos _ (by omega), ?_⟩
  by_cases h : r2 + 1 + r3 < c
  · rw [Int.emod_eq_of_lt (by omega) h]
    omega
  · have e : (r2 + 1 + r3) % c = (r2 + 1 + r3 - c) % c := by
      have z : r2 + 1 + r3 = (r2 + 1 + r3 - c) + c := by omega
      rw [z, Int.add_emod_right]
      congr 1
      omega
    rw [e, Int.emod_eq_of_lt (by omega) (by omega)]
    omega
theorem total_rep : ∀ n, total (List.replicate n []) = 0
  | 0 => rfl
  | n + 1 => by rw [List.replicate_succ]; show 0 + total _ = 0; rw [total_rep n]
/-! ### small things -/
theorem atI_int {α : Type} {xs : List α} {r : Int} (h0 : 0 ≤ r) (h1 : r < xs.length) : ∃ v, xs[r.toNat]? = some v ∧ atI xs r = some v ∧ v ∈ xs := by
  have hl : r.toNat < xs.length := by omega
  refine ⟨xs[r.toNat], List.getElem?_eq_getElem hl, ?_, List.getElem_mem hl⟩
  have q : atI xs ((r.toNat : Nat) : Int) = some xs[r.toNat] := atI_nat (List.getElem?_eq_getElem hl)
  rw [Int.toNat_of_nonneg h0] at q
  exact q
theorem at_map {α β : Type} {f : α → β} {xs : List α} {r : Int} {v : α} (h0 : 0 ≤ r) (h : xs[r.toNat]? = some v) : atI (xs.map f) r = some (f v) := by
  have q : atI (xs.map f) ((r.toNat : Nat) : Int) = some (f v) := atI_nat (by rw [List.getElem?_map, h]; rfl)
  rw [Int.toNat_of_nonneg h0] at q
  exact q
theorem ite01 (c : Bool) : (if c = true then (1 : Int) else 0) = 1 ∨ (if c = true then (1 : Int) else 0) = 0 := by
  cases c
  · exact .inr rfl
  · exact .inl rfl
end Gc

set_option Elab.async false
set_option linter.all false
set_option maxRecDepth 100000
set_option maxHeartbeats 4000000
namespace Gc
open PySem PySem.Spec PyProof.Rows L2 RZ

/-! ### data of tuples alone: they stand whatever is written -/
def tupsOf (H : Hp) : Hp := fun a => match H a with
  | some (.tup xs) => some (.tup xs)
  | _ => none
theorem tupsOf_some {H : Hp} {a : Addr} {o : HO} (h : tupsOf H a = some o) : ∃ xs, o = .tup xs ∧ H a = some (.tup xs) := by
  unfold tupsOf at h
  split at h
  · rename_i xs e
    cases h
    exact ⟨xs, rfl, e⟩
  · cases h
theorem tupsOf_at {H : Hp} {a : Addr} {xs : List V} (h : H a = some (.tup xs)) : tupsOf H a = some (.tup xs) := by
  unfold tupsOf
  rw [h]
theorem tups_sub {H : Hp} : Same (tupsOf H) H := fun a o e => by
  obtain ⟨xs, rfl, q⟩ := tupsOf_some e
  exact q
/-- every tuple stands -/
def Tups (H H' : Hp) : Prop := ∀ a xs, H a = some (.tup xs) → H' a = some (.tup xs)
theorem Tups.refl (H : Hp) : Tups H H := fun _ _ e => e
theorem Tups.trans {H H1 H2 : Hp} (a : Tups H H1) (b : Tups H1 H2) : Tups H H2 := fun c xs e => b c xs (a c xs e)
theorem Tups.low {H H' : Hp} (t : Tups H H') : Same (tupsOf H) (tupsOf H') := fun a o e => by
  obtain ⟨xs, rfl, q⟩ := tupsOf_some e
  exact tupsOf_at (t a xs q)
theorem Tups.of {H H' : Hp} (e : Same H H') : Tups H H' := fun a xs q => e a _ q
theorem Step.tups {b : Addr} {H H' : Hp} (s : Step b H H') (hb : BoxAt H b) : Tups H H' := fun a xs e => by
  obtain ⟨x, y, z, q⟩ := hb
  exact s.old a _ (ne_of e q (by intro r; cases r)) e
theorem Tups.put {H : Hp} {a : Addr} {xs ys : List V} (h : H a = some (.lst xs)) : Tups H (upd H a (.lst ys)) := fun c zs e => by
  rw [upd_ne (ne_of e h (by intro r; cases r))]
  exact e
abbrev Dt (K : PySem.W.Frag) (H : Hp) (v : V) (d : PyData) : Prop := Dp K (tupsOf H) v d
abbrev DtAll (K : PySem.W.Frag) (H : Hp) (vs : List V) (ds : List PyData) : Prop := DpAll K (tupsOf H) vs ds
section
variable {K : PySem.W.Frag} {H H' : Hp}
theorem Dt.dp {v : V} {d : PyData} (h : Dt K H v d) : Dp K H v d := Dp.mono tups_sub h
theorem Dt.on {v : V} {d : PyData} (h : Dt K H v d) (t : Tups H H') : Dt K H' v d := Dp.mono t.low h
theorem DtAll.on {vs : List V} {ds : List PyData} (h : DtAll K H vs ds) (t : Tups H H') : DtAll K H' vs ds := DpAll.mono t.low h
theorem DtAll.dp {vs : List V} {ds : List PyData} (h : DtAll K H vs ds) : DpAll K H vs ds := DpAll.mono tups_sub h
theorem Dt.mk {p : Addr} {xs : List V} {ds : List PyData} (h : H p = some (.tup xs)) (a : DtAll K H xs ds) : Dt K H (.ref p) (.tuple ds) := .tup (SqT.of (tupsOf_at h)) a
/-- a tuple that stands whatever is written -/
abbrev SqU (K : PySem.W.Frag) (H : Hp) (a : Addr) (xs : List V) : Prop := SqT K (tupsOf H) a xs
theorem SqU.t {a : Addr} {xs : List V} (h : SqU K H a xs) : SqT K H a xs := Same.seqT tups_sub h
theorem SqU.on {a : Addr} {xs : List V} (h : SqU K H a xs) (t : Tups H H') : SqU K H' a xs := Same.seqT t.low h
theorem Dt.inv {v : V} {ds : List PyData} (h : Dt K H v (.tuple ds)) : ∃ a xs, v = .ref a ∧ SqU K H a xs ∧ DtAll K H xs ds := Dp.tup_inv h
theorem SqT.low {a : Addr} {xs : List V} {ds : List PyData} (h : SqT K (tupsOf H) a xs) (t : DtAll K H xs ds) : Dt K H (.ref a) (.tuple ds) := .tup h t
end

/-! ### a list or a tuple is walked -/
section
variable {X : Cx} {tg : Expr}
def iSeq (K : PySem.W.Frag) (tl : TE) : TI := fun σ H R => tl σ H fun x H1 => ∃ a xs, x = .ref a ∧ ((SqL K H1 a xs ∧ R (Itl K a) H1) ∨ (SqT K H1 a xs ∧ R (Itt K a) H1))
theorem pi_seq {l : Expr} {tl : TE} (hl : PE X l tl) : PI X tg l (iSeq X.K tl) := by
  constructor
  intro pins s σ H R I h
  apply thn (hl.run pins s σ H _ I h)
  rintro v s1 ⟨x, H1, I1, r1, a, xs, e, q⟩
  subst e
  cases r1
  have new : ∀ b ∈ [s1.heap.objs.size], FpOk X pins H1 b := fun b hb => by
    cases List.mem_singleton.mp hb
    exact I1.fpOk (Nat.le_refl _) (I1.hok.fresh (Nat.le_refl _))
  rcases q with ⟨hq, q⟩ | ⟨hq, q⟩
  · obtain ⟨its, rv, p, hz⟩ := I1.list hq
    apply wpAny_pyIter_list p.isList
    exact ⟨_, _, _, _, H1, rfl, I1.kept (t' := s1.toks) (fun b o e => Heap.get?_push_of_some _ e), turn_list a _, ⟨_, Heap.get?_push_size _ rfl, rfl, rfl⟩, new, q⟩
  · obtain ⟨its, rv, p, hz⟩ := I1.tuple hq
    apply wpAny_pyIter_tuple (show s1.heap.IsTuple a its.toArray from p)
    exact ⟨_, _, _, _, H1, rfl, I1.kept (t' := s1.toks) (fun b o e => Heap.get?_push_of_some _ e), turn_tuple a _, ⟨_, Heap.get?_push_size _ rfl, rfl, rfl⟩, new, q⟩
end
/-- either walk, by one proof -/
theorem seq_it {K : PySem.W.Frag} {H : Hp} {a : Addr} {xs : List V} {R : It → Hp → Prop} (h : SqL K H a xs ∨ SqT K H a xs)
    (r : ∀ (J : It) (G : Hp → Prop), Walk J xs.length G (YAt xs) → (∀ H', Same H H' → G H') → R J H) : (SqL K H a xs ∧ R (Itl K a) H) ∨ (SqT K H a xs ∧ R (Itt K a) H) := by
  rcases h with h | h
  · exact .inl ⟨h, r _ _ walk_list fun H' e => e.seq h⟩
  · exact .inr ⟨h, r _ _ walk_tup fun H' e => Same.seqT e h⟩

/-! ### isinstance of data -/
def tyN : PyData → String
  | .none => "NoneType"
  | .bool _ => "bool"
  | .int _ => "int"
  | .str _ => "str"
  | .list _ => "list"
  | .tuple _ => "tuple"
  | .dict _ => "dict"
def isList : PyData → Bool
  | .list _ => true
  | _ => false
def isTuple : PyData → Bool
  | .tuple _ => true
  | _ => false
def isStr : PyData → Bool
  | .str _ => true
  | _ => false
def isBool : PyData → Bool
  | .bool _ => true
  | _ => false
def isInt : PyData → Bool
  | .int _ => true
  | .bool _ => true
  | _ => false
section
variable {K : PySem.W.Frag} {H : Hp}
theorem ty_list {a : Addr} {xs : List V} (h : SqL K H a xs) : TyX K H (.ref a) (.type "list") := by
  rcases h with (h | ⟨o, h⟩) | ⟨o, its, n, h, c, _⟩
  · exact .base (.lst h)
  · exact .base (.frz h)
  · exact .kList h c
theorem ty_tuple {a : Addr} {xs : List V} (h : SqT K H a xs) : TyX K H (.ref a) (.type "tuple") := by
  rcases h with (h | ⟨o, h⟩) | ⟨o, its, n, h, c, _⟩
  · exact .base (.tup h)
  · exact .fTuple h
  · exact .kTuple h c
theorem Dp.ty {v : V} : ∀ {d : PyData}, Dp K H v d → TyX K H v (.type (tyN d))
  | _, .non => .base .non
  | _, .bl b => .base (.bl b)
  | _, .int i => .base (.int i)
  | _, .str x => .base (.str x)
  | _, .lst s _ => ty_list s
  | _, .tup s _ => ty_tuple s
theorem kit_all : (kitB "NoneType" "list" = some false ∧ kitB "bool" "list" = some false ∧ kitB "int" "list" = some false ∧ kitB "str" "list" = some false ∧ kitB "list" "list" = some true ∧ kitB "tuple" "list" = some false) ∧
    (kitB "NoneType" "tuple" = some false ∧ kitB "bool" "tuple" = some false ∧ kitB "int" "tuple" = some false ∧ kitB "str" "tuple" = some false ∧ kitB "list" "tuple" = some false ∧ kitB "tuple" "tuple" = some true) ∧
    (kitB "NoneType" "str" = some false ∧ kitB "bool" "str" = some false ∧ kitB "int" "str" = some false ∧ kitB "str" "str" = some true ∧ kitB "list" "str" = some false ∧ kitB "tuple" "str" = some false) ∧
    (kitB "NoneType" "bool" = some false ∧ kitB "bool" "bool" = some true ∧ kitB "int" "bool" = some false ∧ kitB "str" "bool" = some false ∧ kitB "list" "bool" = some false ∧ kitB "tuple" "bool" = some false) ∧
    (kitB "NoneType" "int" = some false ∧ kitB "bool" "int" = some true ∧ kitB "int" "int" = some true ∧ kitB "str" "int" = some false ∧ kitB "list" "int" = some false ∧ kitB "tuple" "int" = some false) := by
  decide +kernel
theorem kit_list {d : PyData} {v : V} (h : Dp K H v d) : kitB (tyN d) "list" = some (isList d) := by
  obtain ⟨⟨a1, a2, a3, a4, a5, a6⟩, _⟩ := kit_all
  cases h <;> assumption
theorem kit_tuple {d : PyData} {v : V} (h : Dp K H v d) : kitB (tyN d) "tuple" = some (isTuple d) := by
  obtain ⟨_, ⟨a1, a2, a3, a4, a5, a6⟩, _⟩ := kit_all
  cases h <;> assumption
theorem kit_str {d : PyData} {v : V} (h : Dp K H v d) : kitB (tyN d) "str" = some (isStr d) := by
  obtain ⟨_, _, ⟨a1, a2, a3, a4, a5, a6⟩, _⟩ := kit_all
  cases h <;> assumption
theorem kit_bool {d : PyData} {v : V} (h : Dp K H v d) : kitB (tyN d) "bool" = some (isBool d) := by
  obtain ⟨_, _, _, ⟨a1, a2, a3, a4, a5, a6⟩, _⟩ := kit_all
  cases h <;> assumption
theorem kit_int {d : PyData} {v : V} (h : Dp K H v d) : kitB (tyN d) "int" = some (isInt d) := by
  obtain ⟨_, _, _, _, ⟨a1, a2, a3, a4, a5, a6⟩⟩ := kit_all
  cases h <;> assumption
theorem clsLT : Paired ClsV [.ty "list", .ty "tuple"] [.type "list", .type "tuple"] := .cons (.ty _) (.cons (.ty _) .nil)
theorem kitLT {d : PyData} {v : V} (h : Dp K H v d) : PySem.W.kitAny K (.type (tyN d)) [.type "list", .type "tuple"] = some (isList d || isTuple d) := by
  apply kitAny_cons (kit_ty (kit_list h))
  · intro e
    rw [e]
    apply kitAny_cons (kit_ty (kit_tuple h))
    · intro e2
      rw [e2]
      rfl
    · intro e2
      rw [e2]
      rfl
  · intro e
    rw [e]
    rfl
end
/-! ### walks of two, sizes -/
theorem walk_zipT {K : PySem.W.Frag} {a b : Addr} {xs ys : List V} {n : Nat} (h1 : n = xs.length) (h2 : n = ys.length) : Walk (ItzT K a b) n (fun H => SqT K H a xs ∧ SqT K H b ys) (YPair (fun i => xs[i]?) (fun i => ys[i]?)) := by
  constructor
  · intro i H hi q
    exact ⟨xs, ys, xs[i]'(by omega), ys[i]'(by omega), q.1, q.2, List.getElem?_eq_getElem _, List.getElem?_eq_getElem _⟩
  · intro H q
    exact ⟨xs, ys, q.1, q.2, .inl (by omega)⟩
  · rintro i H v H' hi q ⟨T, x, z, e1, e2, e3, e4, e5⟩
    exact ⟨T, x, z, e1, e2, e3, e4 xs q.1, e5 ys q.2⟩
theorem zip_it {K : PySem.W.Frag} {H : Hp} {a b : Addr} {xs ys : List V} {n : Nat} {R : It → Hp → Prop} (h : (SqL K H a xs ∧ SqL K H b ys) ∨ (SqT K H a xs ∧ SqT K H b ys)) (h1 : xs.length = n) (h2 : ys.length = n)
    (r : ∀ (J : It) (G : Hp → Prop), Walk J n G (YPair (fun i => xs[i]?) (fun i => ys[i]?)) → (∀ H', Same H H' → G H') → R J H) : (SqL K H a xs ∧ SqL K H b ys ∧ R (Itz K a b) H) ∨ (SqT K H a xs ∧ SqT K H b ys ∧ R (ItzT K a b) H) := by
  rcases h with h | h
  · exact .inl ⟨h.1, h.2, r _ _ (walk_zip (by omega)) fun H' e => ⟨e.seq h.1, e.seq h.2⟩⟩
  · exact .inr ⟨h.1, h.2, r _ _ (walk_zipT (by omega) (by omega)) fun H' e => ⟨Same.seqT e h.1, Same.seqT e h.2⟩⟩
theorem same_put {H0 H : Hp} {D : Addr} {o : HO} (h : H0 D = none) (e : Same H0 H) : Same H0 (upd H D o) := fun b u q => by
  rw [upd_ne (ne_of_none q h)]
  exact e b u q
theorem depth_mem {d : PyData} : ∀ {ds : List PyData}, d ∈ ds → d.depth ≤ PyData.depthAll ds
  | e :: r, h => by
    rw [PyData.depthAll]
    rcases List.mem_cons.mp h with rfl | h
    · exact Nat.le_max_left _ _
    · exact Nat.le_trans (depth_mem h) (Nat.le_max_right _ _)
theorem weight_mem {d : PyData} : ∀ {ds : List PyData}, d ∈ ds → d.weight + 1 ≤ PyData.weightAll ds
  | e :: r, h => by
    rw [PyData.weightAll]
    rcases List.mem_cons.mp h with rfl | h
    · omega
    · have := weight_mem h
      omega
theorem length_weight : ∀ {ds : List PyData}, ds.length ≤ PyData.weightAll ds
  | [] => Nat.zero_le _
  | e :: r => by
    have := length_weight (ds := r)
    rw [PyData.weightAll, List.length_cons]
    omega
/-! ### what is new -/
def newOf (H H' : Hp) : Hp := fun a => match H a with
  | none => H' a
  | some _ => none
theorem newOf_at {H H' : Hp} {a : Addr} (h : H a = none) : newOf H H' a = H' a := by
  unfold newOf
  rw [h]
theorem newOf_some {H H' : Hp} {a : Addr} {o : HO} (h : newOf H H' a = some o) : H a = none ∧ H' a = some o := by
  unfold newOf at h
  split at h
  · exact ⟨by assumption, h⟩
  · cases h
theorem newOf_sub {H H' : Hp} : Same (newOf H H') H' := fun a o e => (newOf_some e).2
/-- fewer that stood, more that stands -/
theorem newOf_low {H0 H1 H2 H3 : Hp} (h : ∀ a, H1 a = none → H0 a = none) (e : ∀ a o, H1 a = none → H2 a = some o → H3 a = some o) : Same (newOf H1 H2) (newOf H0 H3) := fun a o q => by
  obtain ⟨q1, q2⟩ := newOf_some q
  rw [newOf_at (h a q1)]
  exact e a o q1 q2
theorem none_of {H H' : Hp} (e : Same H H') : ∀ a, H' a = none → H a = none := fun a q => e.free q
/-- a thousand thousand -/
def mega : Nat := 1000000
theorem mega_line {n : Nat} (h : n ≤ mega) : n < sizeLine := Nat.lt_of_le_of_lt h (by decide)
/-- the built-ins' names are the built-ins' -/
structure Nb (mg : Str → Option Value) : Prop where
  abs : mg "abs" = none
  int : mg "int" = none
  list : mg "list" = none
  tuple : mg "tuple" = none
  str : mg "str" = none
  bool : mg "bool" = none
  enum : mg "enumerate" = none
  isi : mg "isinstance" = none
  len : mg "len" = none
  all : mg "all" = none
  zip : mg "zip" = none
  range : mg "range" = none
  sum : mg "sum" = none
  repr : mg "repr" = none
end Gc

set_option Elab.async false
set_option linter.all false
set_option maxRecDepth 100000
set_option maxHeartbeats 4000000
namespace Gc
open PySem PySem.Spec PyProof.Rows L2 RZ
open Sem (wp)

/-! ### enumerate of a tuple -/
theorem enumT_meets {v : Value} {o : Obj} {G : Heap → Prop} (B : Begins v o G) :
    Meets (Builtin.«enumerate.__new__» ⟨[.type "enumerate", v], []⟩) (fun _ R s => G s.heap ∧
      R (.ok (.ret (.ref (s.heap.push o).objs.size))) { s with heap := (s.heap.push o).push { cls := .type "enumerate", data := .fields #[.none, .bool false, .ref s.heap.objs.size, rawInt 0, .none, .none] } }) := by
  refine .of_wp fun prog w A R s h => ?_
  obtain ⟨hp, g, d, tk, os⟩ := s
  obtain ⟨h1, h2⟩ := h
  have sub := sub_enumerate
  have step : ∀ {A' : Around} {E : Value → Shared → Prop} {Q : Value → Shared → Prop}, Q (.ref hp.objs.size) ⟨hp.push o, g, d, tk, os⟩ → wpAny (model prog w) A' (pyIter v) Q E ⟨hp, g, d, tk, os⟩ := fun q =>
    B.iter prog w _ _ ⟨hp, g, d, tk, os⟩ _ h1 q
  wp_walk using step
  refine wpAny_stack_any fun st => wpAny_pure ?_
  split
  · rename_i c _ _ _ _ _
    cases (c == Value.type "enumerate") <;> (wp_walk using step; exact ⟨_, rfl, h2⟩)
  · wp_walk using step
    exact ⟨_, rfl, h2⟩
theorem enumT_call {prog : Program} {w : World} {A : Around} {E : Value → Shared → Prop} {s : Shared} {v : Value} {o : Obj} {G : Heap → Prop} {Q : Value → Shared → Prop} (B : Begins v o G) (h1 : G s.heap)
    (h : ∀ h', IsEnum h' (s.heap.objs.size + 1) s.heap.objs.size 0 .none → h'.get? s.heap.objs.size = some o → (∀ b u, s.heap.get? b = some u → h'.get? b = some u) → Q (.ref (s.heap.objs.size + 1)) { s with heap := h' }) :
    wpAny (model prog w) A (call (.type "enumerate") [v]) Q E s := by
  apply callType_new F.called_enumerate (by decide) (F.typeCall_enumerate_1 _) (F.newCall_enumerate_1 _) (fun obj => F.args_object_init_2 obj _) F.entry_enumerate_new (enumT_meets B)
  refine ⟨h1, ?_⟩
  have hz : (s.heap.push o).objs.size = s.heap.objs.size + 1 := Heap.size_push ..
  show _ ∧ _
  rw [hz]
  have he : IsEnum ((s.heap.push o).push { cls := .type "enumerate", data := .fields #[.none, .bool false, .ref s.heap.objs.size, rawInt 0, .none, .none] }) (s.heap.objs.size + 1) s.heap.objs.size 0 .none := by
    have q := Heap.get?_push_size (s.heap.push o) (o := { cls := .type "enumerate", data := .fields #[.none, .bool false, .ref s.heap.objs.size, rawInt 0, .none, .none] }) rfl
    rw [hz] at q
    exact q
  exact ⟨⟨_, he, rfl⟩, h _ he (Heap.get?_push_of_some _ (Heap.get?_push_size _ B.free)) (fun b u x => Heap.get?_push_of_some _ (Heap.get?_push_of_some _ x))⟩
/-- the tuple at a, each item in a new pair behind its place -/
def IteT (K : PySem.W.Frag) (a : Addr) : It :=
  ⟨fun i H => ∃ (xs : List V) (x : V), SqT K H a xs ∧ xs[i]? = some x, fun i H v H' => ∃ T x, v = .ref T ∧ H T = none ∧ H' = upd H T (.tup [.int (i : Nat), x]) ∧ ∀ xs, SqT K H a xs → xs[i]? = some x, fun i H => ∃ xs : List V, SqT K H a xs ∧ xs.length ≤ i⟩
theorem turn_enumT {P : Program} {w : World} {K : PySem.W.Frag} {elts : List Expr} {kk : Nat} {tpos : Pos} {a e it : Addr} (hai : a ≠ it) (hae : a ≠ e) :
    Turn P w K (.Tuple elts kk tpos) (IteT K a) [e, it] e (fun i h => (∃ old, IsEnum h e it ((i : Nat) : Int) old) ∧ h.IsTupleIter it a i ∧ e ≠ it) := by
  have two : ∀ {b : Addr}, b ∈ [e, it] → b = e ∨ b = it := fun hb => by simpa using hb
  constructor
  · exact List.mem_cons_self
  · rintro i h ⟨⟨old, he⟩, ⟨o, ho, hc, hd⟩, _⟩ b hb
    rcases two hb with z | z
    · rw [z]
      exact ⟨_, he, fun v q => nomatch q⟩
    · rw [z]
      exact ⟨o, ho, fun v q => by rw [hd] at q; cases q⟩
  · rintro i h h' ⟨⟨old, he⟩, hi, hne⟩ k
    exact ⟨⟨old, k e (by simp) _ he⟩, hi.at fun o q => k it (by simp) o q, hne⟩
  · rintro X rfl rfl rfl hc i pins s σ H E I hf ⟨⟨old, he⟩, hit, hne⟩ ⟨xs, x, hq, hx⟩
    obtain ⟨its, rv, p, hz⟩ := I.tuple hq
    obtain ⟨u, hu, ru⟩ := rv.get hx
    have hlt : i < its.toArray.size := by
      rw [List.size_toArray, ← rv.length]
      exact (List.getElem?_eq_some_iff.mp hx).1
    have hel : e < s.heap.objs.size := Heap.lt_size he
    have hil : it < s.heap.objs.size := by obtain ⟨_, q, _⟩ := hit; exact Heap.lt_size q
    have D := Draws.tuple (prog := X.prog) (w := X.w) (A := X.A.in1) (I.ok.hd hc) it a hai its.toArray
    apply wpAny_pyNext_enum_itemD D he ⟨hit, p⟩ hlt hne (by intro z; rcases List.mem_cons.mp z with z | z; exact hne z; exact hae (List.mem_singleton.mp z).symm)
    intro x' h' tk hx' ho st' hT hsz hk
    have ex : x' = u := by
      have e1 : its.toArray[i]? = some u := by simpa using hu
      rw [e1] at hx'
      exact (Option.some.inj hx').symm
    subst ex
    refine ⟨_, rfl, wpAny_letOwnedTupleGo_enum (s := { s with heap := h', toks := tk + 1 }) ho fun h2 he2 sb => ?_⟩
    have hT2 : h2.get? s.heap.objs.size = some { cls := .type "tuple", data := .seq #[.int i tk, x'] } := (sb.2 _ (Nat.ne_of_gt hel)).trans hT
    have new : ObjOk X.prog X.w (upd H s.heap.objs.size (.tup [.int (i : Nat), x])) h2 s.heap.objs.size (.tup [.int (i : Nat), x]) :=
      ⟨by show 2 ≤ sizeLine; decide, [.int i tk, x'], .cons ⟨_, rfl⟩ (.cons ru .nil), ⟨_, hT2, rfl, _, rfl⟩⟩
    have I1 : Inv X pins σ (upd H s.heap.objs.size (.tup [.int (i : Nat), x])) { s with heap := h2, toks := tk + 1 } := by
      refine I.turnedNew (ch := [e, it]) (fun b ob hb q => ?_) hf (Nat.le_refl _) new
      have b1 : b ≠ e := fun z => hb (by simp [z])
      have b2 : b ≠ it := fun z => hb (by simp [z])
      exact (sb.2 b b1).trans (hk b ob b1 b2 q)
    refine ⟨.ref s.heap.objs.size, _, I1, rfl, ⟨_, x, rfl, I.hok.fresh (Nat.le_refl _), rfl, fun ys hy => by rw [I.tuple_inj hy hq]; exact hx⟩, ⟨⟨x', ?_⟩, st'.1.at fun o q => (sb.2 it (Ne.symm hne)).trans q, hne⟩, fun b hb => ?_⟩
    · have e1 : ((i + 1 : Nat) : Int) = (i : Int) + 1 := by omega
      rw [e1]
      exact he2
    · have hb' : b < s.heap.objs.size := by
        rcases two hb with z | z
        · rw [z]; exact hel
        · rw [z]; exact hil
      rw [upd_ne (Nat.ne_of_lt hb')]
      exact (hf b hb).1
  · rintro X rfl rfl rfl hc i pins s σ H E I hf ⟨⟨old, he⟩, hit, hne⟩ ⟨xs, hq, hx⟩
    obtain ⟨its, rv, p, hz⟩ := I.tuple hq
    obtain ⟨f0, f1, f2, f3, f4, f5⟩ := hf it (by simp)
    have hl := rv.length
    have D := Draws.tuple (prog := X.prog) (w := X.w) (A := X.A.in1) (I.ok.hd hc) it a hai its.toArray
    have D2 : Draws X.prog X.w X.A.in1 it [it, a] i (fun _ _ => True) (fun j h => j = i ∧ h.IsTupleIter it a i ∧ h.IsTuple a its.toArray) := by
      refine ⟨fun j h st => D.live i h st.2, fun j h h' st k => ⟨st.1, D.frame i h h' st.2 k⟩, fun j s Q E hj st _ => absurd st.1 (Nat.ne_of_lt hj), fun s Q E st hE => ?_⟩
      exact wpAny_nextOf_tuple_end (I.ok.hd hc) st.2.1 st.2.2 (by simp; omega) hE
    exact wpAny_pyNext_enum_endD D2 he ⟨rfl, hit, p⟩ fun h' eb => ⟨rfl, I.turned (t' := s.toks) (fun b o hb q => eb b o hb q) f0 f1 f3 f4 f5⟩
  · rintro A i s Q E ⟨⟨_, he⟩, _⟩ h
    exact wpAny_pyIter_enum he h
/-- enumerate of a list or of a tuple -/
def iEnumS (K : PySem.W.Frag) (ta : TA) : TI := fun σ H R => ta σ H fun vs H1 => ∃ a xs, vs = [.ref a] ∧ ((SqL K H1 a xs ∧ R (Ite K a) H1) ∨ (SqT K H1 a xs ∧ R (IteT K a) H1))
theorem pi_enumS {X : Cx} {e : Expr} {ta : TA} {p pos tpos : Pos} {elts : List Expr} {kk : Nat} (hg : Gl X "enumerate") (hm : X.mg "enumerate" = none) (ha : PA X [e] ta) (hs : starEach [e] X.env = [(false, eval e X.env)] := by rfl) :
    PI X (.Tuple elts kk tpos) (.Call (.Name "enumerate" p) [e] [] pos) (iEnumS X.K ta) := by
  constructor
  intro pins s σ H R I h
  apply Call_ (ld_blt I hg hm boot_enumerate (PyProof.Rows.callWith_type1 _ hs rfl))
  apply thn (ha.run pos pins s σ H _ I h)
  rintro us s1 ⟨vs, H1, I1, r1, a, xs, ex, q⟩
  subst ex
  obtain ⟨u, rfl, ru⟩ := r1.one
  cases (show u = Value.ref a from ru)
  have fp : ∀ b ∈ [s1.heap.objs.size + 1, s1.heap.objs.size], FpOk X pins H1 b := fun b hb => by
    have hle : s1.heap.objs.size ≤ b := by
      rcases List.mem_cons.mp hb with z | z
      · rw [z]; exact Nat.le_succ _
      · rw [List.mem_singleton.mp z]; exact Nat.le_refl _
    exact I1.fpOk hle (I1.hok.fresh hle)
  rcases q with ⟨hq, q⟩ | ⟨hq, q⟩
  · obtain ⟨its, rv, p', hz⟩ := I1.list hq
    refine call_enumerate_list p'.isList fun h' he hit hsz hk => wpAny_pyIter_enum he ?_
    exact ⟨_, _, _, _, H1, rfl, I1.kept (t' := s1.toks) hk, turn_enum a (s1.heap.objs.size + 1) s1.heap.objs.size, ⟨⟨.none, he⟩, hit, Nat.succ_ne_self _⟩, fp, q⟩
  · obtain ⟨its, rv, p', hz⟩ := I1.tuple hq
    refine enumT_call (begins_tuple a its.toArray) p' fun h' he hit hk => wpAny_pyIter_enum he ?_
    have al : a < s1.heap.objs.size := by obtain ⟨o, ho, _⟩ := p'; exact Heap.lt_size ho
    exact ⟨_, _, _, _, H1, rfl, I1.kept (t' := s1.toks) hk, turn_enumT (Nat.ne_of_lt al) (Nat.ne_of_lt (Nat.lt_succ_of_lt al)), ⟨⟨.none, he⟩, ⟨_, hit, rfl, rfl⟩, Nat.succ_ne_self _⟩, fp, q⟩
theorem walk_enumT {K : PySem.W.Frag} {a : Addr} {xs : List V} : Walk (IteT K a) xs.length (fun H => SqT K H a xs) (YPair (fun i => some (.int (i : Nat))) (fun i => xs[i]?)) := by
  constructor
  · intro i H hi q
    exact ⟨xs, xs[i], q, by simp [hi]⟩
  · intro H q
    exact ⟨xs, q, Nat.le_refl _⟩
  · rintro i H v H' hi q ⟨T, x, h1, h2, h3, h4⟩
    exact ⟨T, .int (i : Nat), x, h1, h2, h3, rfl, h4 xs q⟩

/-! ### a dict comprehension over any walk -/
theorem dc_it {J : It} {n : Nat} {G : Hp → Prop} {Y : Nat → Hp → V → Hp → Prop} (w : Walk J n G Y) {g : TG} {tt : TT} {tk tv : TE} {vs : List Nat} {σ : L2.St} {H1 : Hp} {D : Addr} {Qd : Hp → Prop} (Pv : Nat → Hp → Prop) (h0 : Pv 0 (upd H1 D (.dK []))) (hG : ∀ i H, i ≤ n → Pv i H → G H)
    (hs : ∀ i x H H', i < n → Pv i H → Y i H x H' → g x (wipe σ vs) H' fun σ2 H2 => wipe σ2 vs = wipe σ vs ∧ tt σ2 H2 fun b H3 =>
      if b = true then tk σ2 H3 fun y H4 => tv σ2 H4 fun z H5 => ∃ kvs k, y = kV k ∧ H5 D = some (.dK kvs) ∧ kvs.length < sizeLine ∧ Pv (i + 1) (upd H5 D (.dK (putK kvs k z))) else Pv (i + 1) H3) (hd : ∀ H, Pv n H → Qd H) :
    ∃ W : Nat → Nat → Hp → Prop, (∃ m, W 0 m (upd H1 D (.dK []))) ∧ ∀ i m H, W i m H →
      (J.stop i H ∧ Qd H) ∨ (J.go i H ∧ ∃ Nx : Hp → Prop, (∀ H', Nx H' → ∃ m', m' < m ∧ W (i + 1) m' H') ∧ ∀ x H', J.yld i H x H' → g x (wipe σ vs) H' fun σ2 H2 => wipe σ2 vs = wipe σ vs ∧ tt σ2 H2 fun b H3 =>
        if b = true then tk σ2 H3 fun y H4 => tv σ2 H4 fun z H5 => ∃ kvs k, y = kV k ∧ H5 D = some (.dK kvs) ∧ kvs.length < sizeLine ∧ Nx (upd H5 D (.dK (putK kvs k z))) else Nx H3) := by
  exists fun i m H => m = n - i ∧ i ≤ n ∧ Pv i H
  constructor
  · exact ⟨n, by omega, Nat.zero_le _, h0⟩
  · intro i m H ⟨em, hi, p⟩
    have q := hG i H hi p
    rcases Nat.lt_or_ge i n with hlt | hge
    · refine .inr ⟨w.goes i H hlt q, Pv (i + 1), fun H' p' => ⟨n - (i + 1), by omega, rfl, hlt, p'⟩, fun x H' y => ?_⟩
      exact hs i x H H' hlt p (w.yields i H x H' hlt q y)
    · have e : i = n := Nat.le_antisymm hi hge
      rw [e] at p ⊢
      exact .inl ⟨w.stops H q, hd H p⟩

/-! ### a call by keywords alone -/
section
variable {X : Cx} {CX : CXT} {k : Nat} {f : Addr} {fd : FuncData} {ps ks : List Str} {sp : Sp} {E : XK} {x : Str} {p pos : Pos} {kws : List Keyword} {tk : TA} {g : List Value → List Value → List Value} {gV : List V → List V → List V}
theorem pe_callK0 (F : FnOk X.prog X.w X.K X.mg X.base CX k f fd ps sp) (hr : Room k X.A) (hg : Gl X x) (hm : X.mg x = some (.ref f)) (hk : PySem.W.keepIn X.K (.ref f) = true) (hb : KBinds X.K fd ps ks g gV) (hx : Passes CX X E) (hkw : PK X kws tk)
    (hall : (backToKw pos (keywordEach kws X.env)).all (·.1.isSome) = true := by rfl) (hks : (backToKw pos (keywordEach kws X.env)).filterMap (·.1) = ks := by rfl) (hdb : (x == ("__debug__" : Str)) = false := by decide)
    (hpl : ((backTo pos (starEach [] X.env)).any (·.1) || (backToKw pos (keywordEach kws X.env)).any (·.1.isNone)) = false := by rfl) : PE X (.Call (.Name x p) [] kws pos) (tCallK sp gV E tNil tk) := by
  constructor
  intro pins s σ H Q I h
  apply wpAny_Call_Name_kw
  apply ld_glob I hg hm _ hdb
  apply PySem.W.callWith_KW0 (h₀ := X.base) I.ok.mod.kin hk hall _ hpl
  apply thn (hkw.run pos pins s σ H _ I h)
  rintro ws s2 ⟨zs, H2, I2, rz, q2⟩
  refine ⟨I2.kIn, ?_⟩
  rw [hks]
  exact run_fnk (us := []) F hr hb hx I2 .nil rz q2
end
/-- all parameters by keywords: h shows the binding of a list of that many values -/
theorem kb_all {K : PySem.W.Frag} {fd : FuncData} {ps ks : List Str} {g : {α : Type} → List α → List α} (h : ∀ ws : List Value, (g ws).length = ps.length → bindArgs fd ⟨[], ks.zip ws⟩ = pure (ps.zip (g ws)))
    (hrel : ∀ {zs : List V} {ws : List Value}, Vals zs ws → Vals (g zs) (g ws)) (h0 : ∀ (us ws : List Value), us ≠ [] → (if us = [] then g ws else []).length = ps.length → False) :
    KBinds K fd ps ks (fun us ws => if us = [] then g ws else []) (fun vs zs => if vs = [] then g zs else []) := by
  constructor
  · intro s us ws _ hl
    by_cases hu : us = []
    · subst hu
      rw [if_pos rfl] at hl ⊢
      exact .of_eq (h ws hl)
    · exact (h0 us ws hu hl).elim
  · intro vs us zs ws r1 r2
    cases r1 with
    | nil => exact hrel r2
    | cons a b => exact .nil
end Gc

set_option Elab.async false
set_option linter.all false
set_option maxRecDepth 100000
set_option maxHeartbeats 4000000
namespace Gc
open PySem PySem.Spec PyProof.Rows L2 RZ

/-! ### rules for either -/
section
variable {X : Cx}
theorem pg_two {tg : Expr} {t1 t2 : TG} (h1 : PG X tg t1) (h2 : PG X tg t2) : PG X tg (fun v σ H Q => t1 v σ H Q ∨ t2 v σ H Q) := by
  constructor
  intro pins s σ H v u Q I r h
  exact h.elim (h1.run pins s σ H v u Q I r) (h2.run pins s σ H v u Q I r)
def rIxD : R2 := fun x y H Q => ∃ a v, x = .ref a ∧ DGet H a y (some v) ∧ Q v H
theorem ix_dict (hu : X.A.units + 1 < cLine) : IxR X rIxD := by
  intro value slice pins s σ H x y v u Q I rx ry h hs
  obtain ⟨a, z, rfl, g, q⟩ := h
  cases rx
  exact tail_any (dict_typeIs I g) PySem.F.slot_dict_getitem.lookup (d_getItem hu I g ry fun w' s3 I3 rw' => ⟨z, H, I3, rw', q⟩) hs
end

/-! ### data, whatever stands for its tuples -/
mutual
def tupled : PyData → PyData
  | .list xs => .tuple (tupledAll xs)
  | .tuple xs => .tuple (tupledAll xs)
  | .none => .none
  | .bool b => .bool b
  | .int i => .int i
  | .str s => .str s
  | .dict kvs => .dict kvs
def tupledAll : List PyData → List PyData
  | [] => []
  | d :: ds => tupled d :: tupledAll ds
end
theorem tupledAll_map : ∀ ds : List PyData, tupledAll ds = ds.map tupled
  | [] => by rw [tupledAll]; rfl
  | d :: ds => by rw [tupledAll, tupledAll_map ds]; rfl
mutual
theorem tupled_listed : ∀ d : PyData, tupled (listed d) = tupled d
  | .list xs => by rw [listed, tupled, tupled, tupledAll_listed xs]
  | .tuple xs => by rw [listed, tupled, tupled, tupledAll_listed xs]
  | .none => by rw [listed]
  | .bool b => by rw [listed]
  | .int i => by rw [listed]
  | .str s => by rw [listed]
  | .dict kvs => by rw [listed]
theorem tupledAll_listed : ∀ ds : List PyData, tupledAll (listedAll ds) = tupledAll ds
  | [] => by rw [listedAll]
  | d :: ds => by rw [listedAll, tupledAll, tupledAll, tupled_listed d, tupledAll_listed ds]
end
theorem tupled_dG (g : Gr) : tupled (dG g) = dG g := by
  unfold dG
  rw [tupled, tupledAll, tupledAll, tupledAll, tupled, tupled]
theorem tupled_dH (h : List Gr) : tupled (dH h) = dH h := by
  unfold dH
  have e : tupled ∘ dG = dG := funext tupled_dG
  rw [tupled, tupledAll_map, List.map_map, e]
theorem tupled_dS (S : List (List Gr)) : tupled (dS S) = dS S := by
  unfold dS
  have e : tupled ∘ dH = dH := funext tupled_dH
  rw [tupled, tupledAll_map, List.map_map, e]
section
variable {K : PySem.W.Frag} {H : Hp}
theorem tup_inv {v : V} {d : PyData} {es : List PyData} (hv : Dp K H v d) (e : tupled d = .tuple es) :
    ∃ (a : Addr) (xs : List V) (ds : List PyData), v = .ref a ∧ (SqL K H a xs ∨ SqT K H a xs) ∧ DpAll K H xs ds ∧ ds.map tupled = es := by
  cases d with
  | list ds =>
    obtain ⟨a, xs, e1, s, t⟩ := Dp.lst_inv hv
    rw [tupled, tupledAll_map] at e
    exact ⟨a, xs, ds, e1, .inl s, t, PyData.tuple.inj e⟩
  | tuple ds =>
    obtain ⟨a, xs, e1, s, t⟩ := Dp.tup_inv hv
    rw [tupled, tupledAll_map] at e
    exact ⟨a, xs, ds, e1, .inr s, t, PyData.tuple.inj e⟩
  | none => rw [tupled] at e; cases e
  | bool b => rw [tupled] at e; cases e
  | int i => rw [tupled] at e; cases e
  | str s => rw [tupled] at e; cases e
  | dict kvs => rw [tupled] at e; cases e
theorem int_inv {v : V} {d : PyData} {i : Int} (hv : Dp K H v d) (e : tupled d = .int i) : v = .int i := by
  cases hv with
  | int j => rw [tupled] at e; cases e; rfl
  | non => rw [tupled] at e; cases e
  | bl b => rw [tupled] at e; cases e
  | str s => rw [tupled] at e; cases e
  | lst s t => rw [tupled] at e; cases e
  | tup s t => rw [tupled] at e; cases e
theorem str_inv {v : V} {d : PyData} {x : Str} (hv : Dp K H v d) (e : tupled d = .str x) : v = .str x := by
  cases hv with
  | str j => rw [tupled] at e; cases e; rfl
  | non => rw [tupled] at e; cases e
  | bl b => rw [tupled] at e; cases e
  | int s => rw [tupled] at e; cases e
  | lst s t => rw [tupled] at e; cases e
  | tup s t => rw [tupled] at e; cases e
/-- a grudge, as a list or a tuple -/
theorem gr_inv {v : V} {d : PyData} {g : Gr} (hv : Dp K H v d) (e : tupled d = dG g) : ∃ a, v = .ref a ∧ (SqL K H a [.int g.1, .str g.2] ∨ SqT K H a [.int g.1, .str g.2]) := by
  obtain ⟨a, xs, ds, e1, s, t, e2⟩ := tup_inv hv e
  cases t with
  | nil => simp at e2
  | cons h1 t1 =>
    cases t1 with
    | nil => simp at e2
    | cons h2 t2 =>
      cases t2 with
      | nil =>
        have a1 := int_inv h1 (List.head_eq_of_cons_eq e2)
        have a2 := str_inv h2 (List.head_eq_of_cons_eq (List.tail_eq_of_cons_eq e2))
        rw [a1, a2] at s
        exact ⟨a, e1, s⟩
      | cons h3 t3 => simp at e2
/-- the items of a heap -/
theorem heap_inv {v : V} {d : PyData} {h : List Gr} (hv : Dp K H v d) (e : tupled d = dH h) :
    ∃ (a : Addr) (xs : List V), v = .ref a ∧ (SqL K H a xs ∨ SqT K H a xs) ∧ xs.length = h.length ∧ ∀ (i : Nat) (x : V), xs[i]? = some x → ∃ g b, h[i]? = some g ∧ x = .ref b ∧ (SqL K H b [.int g.1, .str g.2] ∨ SqT K H b [.int g.1, .str g.2]) := by
  obtain ⟨a, xs, ds, e1, s, t, e2⟩ := tup_inv hv e
  have l1 := DpAll.len t
  have l2 := congrArg List.length e2
  rw [List.length_map, List.length_map] at l2
  refine ⟨a, xs, e1, s, by omega, fun i x hx => ?_⟩
  obtain ⟨d1, g1, g2⟩ := DpAll.get t hx
  have q : (ds.map tupled)[i]? = _ := congrArg (fun l : List PyData => l[i]?) e2
  rw [List.getElem?_map, List.getElem?_map, g1] at q
  cases hh : h[i]? with
  | none => rw [hh] at q; cases q
  | some g =>
    rw [hh] at q
    obtain ⟨b, e3, s3⟩ := gr_inv g2 (Option.some.inj q)
    exact ⟨g, b, rfl, e3, s3⟩
/-- the heaps of a standing -/
theorem stand_inv {v : V} {d : PyData} {S : List (List Gr)} (hv : Dp K H v d) (e : tupled d = dS S) :
    ∃ (a : Addr) (xs : List V), v = .ref a ∧ (SqL K H a xs ∨ SqT K H a xs) ∧ xs.length = S.length ∧ ∀ (i : Nat) (x : V), xs[i]? = some x → ∃ h e, S[i]? = some h ∧ Dp K H x e ∧ tupled e = dH h := by
  obtain ⟨a, xs, ds, e1, s, t, e2⟩ := tup_inv hv e
  have l1 := DpAll.len t
  have l2 := congrArg List.length e2
  rw [List.length_map, List.length_map] at l2
  refine ⟨a, xs, e1, s, by omega, fun i x hx => ?_⟩
  obtain ⟨d1, g1, g2⟩ := DpAll.get t hx
  have q : (ds.map tupled)[i]? = _ := congrArg (fun l : List PyData => l[i]?) e2
  rw [List.getElem?_map, List.getElem?_map, g1] at q
  cases hh : S[i]? with
  | none => rw [hh] at q; cases q
  | some h =>
    rw [hh] at q
    exact ⟨h, d1, rfl, g2, Option.some.inj q⟩
theorem Dt.tup {v : V} {d : PyData} (h : Dt K H v d) : Dp K H v d := h.dp
end
/-- either of the two shapes of a pair, taken apart -/
def gPair (K : PySem.W.Frag) (i j : Nat) : TG := fun v σ H Q => gTup K 2 (gCons (gName i) (gCons (gName j) gNil)) v σ H Q ∨ gLst K 2 (gCons (gName i) (gCons (gName j) gNil)) v σ H Q
theorem gpair {K : PySem.W.Frag} {i j : Nat} {b : Addr} {σ : L2.St} {H : Hp} {x y : V} {Q : L2.St → Hp → Prop} (s : SqL K H b [x, y] ∨ SqT K H b [x, y]) (q : Q ((σ.set i (some x)).set j (some y)) H) : gPair K i j (.ref b) σ H Q := by
  rcases s with s | s
  · exact .inr ⟨b, _, rfl, s, rfl, x, _, rfl, y, _, rfl, rfl, q⟩
  · exact .inl ⟨b, _, rfl, s, rfl, x, _, rfl, y, _, rfl, rfl, q⟩
/-! ### comprehensions and loops over a list or a tuple, by one proof -/
section
variable {K : PySem.W.Frag} {te0 : TE} {g : TG} {tt : TT} {te : TE} {vs : List Nat} {σ : L2.St} {H H1 : Hp} {Q : VK} {a : Addr} {xs : List V}
theorem lc_seq (hte : ∀ k : VK, k (.ref a) H1 → te0 σ H k) (s : SqL K H1 a xs ∨ SqT K H1 a xs) (Pv : Addr → Nat → Hp → Prop) (h0 : ∀ D, H1 D = none → Pv D 0 (upd H1 D (.lst []))) (hG : ∀ D i H', H1 D = none → Pv D i H' → Same H1 H')
    (hs : ∀ D i x H', H1 D = none → xs[i]? = some x → Pv D i H' → g x (wipe σ vs) H' fun σ2 H2 => wipe σ2 vs = wipe σ vs ∧ tt σ2 H2 fun b H3 =>
      if b = true then te σ2 H3 fun y H4 => ∃ acc, H4 D = some (.lst acc) ∧ acc.length < sizeLine ∧ Pv D (i + 1) (upd H4 D (.lst (acc ++ [y]))) else Pv D (i + 1) H3)
    (hd : ∀ D H', H1 D = none → Pv D xs.length H' → Q (.ref D) H') : tLc (iSeq K te0) g tt te vs σ H Q := by
  refine hte _ ⟨a, xs, rfl, ?_⟩
  rcases s with s | s
  · exact .inl ⟨s, fun D hD => lc_list (Pv D) (h0 D hD) (fun i H' _ p => (hG D i H' hD p).seq s) (fun i x H' hx p => hs D i x H' hD hx p) (fun H' p => hd D H' hD p)⟩
  · exact .inr ⟨s, fun D hD => lc_tup (Pv D) (h0 D hD) (fun i H' _ p => Same.seqT (hG D i H' hD p) s) (fun i x H' hx p => hs D i x H' hD hx p) (fun H' p => hd D H' hD p)⟩
/-- enumerate -/
theorem lc_enumS {ta : TA} (hta : ∀ k : List V → Hp → Prop, k [.ref a] H1 → ta σ H k) (s : SqL K H1 a xs ∨ SqT K H1 a xs) (Pv : Addr → Nat → Hp → Prop) (h0 : ∀ D, H1 D = none → Pv D 0 (upd H1 D (.lst []))) (hG : ∀ D i H', H1 D = none → Pv D i H' → Same H1 H')
    (hs : ∀ D i x T H', H1 D = none → xs[i]? = some x → Pv D i H' → H' T = none → g (.ref T) (wipe σ vs) (upd H' T (.tup [.int (i : Nat), x])) fun σ2 H2 => wipe σ2 vs = wipe σ vs ∧ tt σ2 H2 fun b H3 =>
      if b = true then te σ2 H3 fun y H4 => ∃ acc, H4 D = some (.lst acc) ∧ acc.length < sizeLine ∧ Pv D (i + 1) (upd H4 D (.lst (acc ++ [y]))) else Pv D (i + 1) H3)
    (hd : ∀ D H', H1 D = none → Pv D xs.length H' → Q (.ref D) H') : tLc (iEnumS K ta) g tt te vs σ H Q := by
  refine hta _ ⟨a, xs, rfl, ?_⟩
  rcases s with s | s
  · refine .inl ⟨s, fun D hD => lc_it walk_enum (Pv D) (h0 D hD) (fun i H' _ p => (hG D i H' hD p).seq s) ?_ (fun H' p => hd D H' hD p)⟩
    rintro i x H2 H3 hi p ⟨T, x1, x2, rfl, hT, rfl, e1, e2⟩
    cases e1
    exact hs D i x2 T H2 hD e2 p hT
  · refine .inr ⟨s, fun D hD => lc_it walk_enumT (Pv D) (h0 D hD) (fun i H' _ p => Same.seqT (hG D i H' hD p) s) ?_ (fun H' p => hd D H' hD p)⟩
    rintro i x H2 H3 hi p ⟨T, x1, x2, rfl, hT, rfl, e1, e2⟩
    cases e1
    exact hs D i x2 T H2 hD e2 p hT
theorem dc_enumS {ta : TA} {tk tv : TE} (hta : ∀ k : List V → Hp → Prop, k [.ref a] H1 → ta σ H k) (s : SqL K H1 a xs ∨ SqT K H1 a xs) (Pv : Addr → Nat → Hp → Prop) (h0 : ∀ D, H1 D = none → Pv D 0 (upd H1 D (.dK []))) (hG : ∀ D i H', H1 D = none → Pv D i H' → Same H1 H')
    (hs : ∀ D i x T H', H1 D = none → xs[i]? = some x → Pv D i H' → H' T = none → g (.ref T) (wipe σ vs) (upd H' T (.tup [.int (i : Nat), x])) fun σ2 H2 => wipe σ2 vs = wipe σ vs ∧ tt σ2 H2 fun b H3 =>
      if b = true then tk σ2 H3 fun y H4 => tv σ2 H4 fun z H5 => ∃ kvs k, y = kV k ∧ H5 D = some (.dK kvs) ∧ kvs.length < sizeLine ∧ Pv D (i + 1) (upd H5 D (.dK (putK kvs k z))) else Pv D (i + 1) H3)
    (hd : ∀ D H', H1 D = none → Pv D xs.length H' → Q (.ref D) H') : tDc (iEnumS K ta) g tt tk tv vs σ H Q := by
  refine hta _ ⟨a, xs, rfl, ?_⟩
  rcases s with s | s
  · refine .inl ⟨s, fun D hD => dc_it walk_enum (Pv D) (h0 D hD) (fun i H' _ p => (hG D i H' hD p).seq s) ?_ (fun H' p => hd D H' hD p)⟩
    rintro i x H2 H3 hi p ⟨T, x1, x2, rfl, hT, rfl, e1, e2⟩
    cases e1
    exact hs D i x2 T H2 hD e2 p hT
  · refine .inr ⟨s, fun D hD => dc_it walk_enumT (Pv D) (h0 D hD) (fun i H' _ p => Same.seqT (hG D i H' hD p) s) ?_ (fun H' p => hd D H' hD p)⟩
    rintro i x H2 H3 hi p ⟨T, x1, x2, rfl, hT, rfl, e1, e2⟩
    cases e1
    exact hs D i x2 T H2 hD e2 p hT
/-- a loop -/
theorem for_seq {tb : TS} {E : Ends} (hte : ∀ k : VK, k (.ref a) H1 → te0 σ H k) (s : SqL K H1 a xs ∨ SqT K H1 a xs) (Pv : Nat → L2.St → Hp → Prop) (h0 : Pv 0 σ H1) (hG : ∀ i σ' H', Pv i σ' H' → (SqL K H1 a xs → SqL K H' a xs) ∧ (SqT K H1 a xs → SqT K H' a xs))
    (hs : ∀ i x σ' H', xs[i]? = some x → Pv i σ' H' → g x σ' H' fun σ2 H2 => tb { E with nx := Pv (i + 1), ct := Pv (i + 1), bk := E.nx } σ2 H2) (hd : ∀ σ' H', Pv xs.length σ' H' → E.nx σ' H') : tFor (iSeq K te0) g tb E σ H := by
  refine hte _ ⟨a, xs, rfl, ?_⟩
  rcases s with s | s
  · exact .inl ⟨s, for_list Pv h0 (fun i σ' H' _ p => (hG i σ' H' p).1 s) hs hd⟩
  · exact .inr ⟨s, for_tup Pv h0 (fun i σ' H' _ p => (hG i σ' H' p).2 s) hs hd⟩
end
/-- two tuples, one behind the other -/
theorem cat_dt {K : PySem.W.Frag} {H : Hp} {u v : V} {ds es : List PyData} {Q : VK} (hu : Dt K H u (.tuple ds)) (hv : Dt K H v (.tuple es)) (hl : ds.length + es.length ≤ 100000) (q : ∀ (H' : Hp) (x : V), Same H H' → Dt K H' x (.tuple (ds ++ es)) → Q x H') : rCatA K u v H Q := by
  obtain ⟨a, xs, rfl, s1, t1⟩ := Dt.inv hu
  obtain ⟨b, ys, rfl, s2, t2⟩ := Dt.inv hv
  have l1 := DpAll.len t1
  have l2 := DpAll.len t2
  refine ⟨a, b, xs, ys, rfl, rfl, s1.t, s2.t, Nat.le_of_lt (mega_line (by unfold mega; omega)), fun e => ?_, fun _ e => ?_, fun _ _ p hp => ?_⟩
  · rw [e] at t1
    cases t1
    exact q H _ (Same.refl H) hv
  · rw [e] at t2
    cases t2
    rw [List.append_nil] at q
    exact q H _ (Same.refl H) hu
  · exact q _ _ (same_new hp _) (Dt.mk upd_same (DtAll.on (DpAll.app t1 t2) (Tups.of (same_new hp _))))
/-! ### standings called otherwise, and beside one another -/
def idxI : List Int → Int → Int
  | [], _ => 0
  | x :: r, a => if x = a then 0 else idxI r a + 1
theorem idxI_at : ∀ {l : List Int} {i : Nat} {a : Int}, l.Nodup → l[i]? = some a → idxI l a = (i : Int)
  | [], _, _, _, h => by simp at h
  | x :: r, 0, a, _, h => by
    have e : x = a := by simpa using h
    unfold idxI
    rw [if_pos e]
    rfl
  | x :: r, i + 1, a, nd, h => by
    have h' : r[i]? = some a := by simpa using h
    obtain ⟨h1, h2⟩ := List.nodup_cons.mp nd
    have ne : ¬ x = a := fun e => h1 (e ▸ List.mem_of_getElem? h')
    unfold idxI
    rw [if_neg ne, idxI_at h2 h']
    omega
theorem idxI_lt : ∀ {l : List Int} {a : Int}, a ∈ l → 0 ≤ idxI l a ∧ idxI l a < (l.length : Int)
  | x :: r, a, h => by
    unfold idxI
    by_cases e : x = a
    · rw [if_pos e]
      exact ⟨Int.le_refl _, by rw [List.length_cons]; omega⟩
    · rw [if_neg e]
      have q := idxI_lt (l := r) (a := a) ((List.mem_cons.mp h).resolve_left fun z => e z.symm)
      rw [List.length_cons]
      omega
def renumM (f : Int → Int) (h : List Gr) : List Gr := h.map fun g => (f g.1, g.2)
def calledM (S : List (List Gr)) (order : List Int) : List (List Gr) := order.map fun x => renumM (idxI order) (S.getD x.toNat [])
def besideM (S R : List (List Gr)) : List (List Gr) := S ++ R.map (renumM fun a => (S.length : Int) + a)
/-- a dict or a list that tells f of all that h's grudges are about -/
def NumR (H : Hp) (v : V) (h : List Gr) (f : Int → Int) : Prop :=
  (∃ p kvs, v = .ref p ∧ H p = some (.dK kvs) ∧ ∀ g ∈ h, valV kvs (Sum.inl g.1) = some (.int (f g.1))) ∨ ∃ p ns, v = .ref p ∧ H p = some (.lst (ns.map V.int)) ∧ ∀ g ∈ h, atI ns g.1 = some (f g.1)
theorem NumR.on {H H' : Hp} {v : V} {h : List Gr} {f : Int → Int} (n : NumR H v h f) (e : Same H H') : NumR H' v h f := by
  rcases n with ⟨p, kvs, rfl, h1, h2⟩ | ⟨p, ns, rfl, h1, h2⟩
  · exact .inl ⟨p, kvs, rfl, e _ _ h1, h2⟩
  · exact .inr ⟨p, ns, rfl, e _ _ h1, h2⟩
theorem atI_map {α β : Type} {f : α → β} {xs : List α} {i : Int} {v : α} (h : atI xs i = some v) : atI (xs.map f) i = some (f v) := by
  unfold atI at h ⊢
  rw [List.length_map]
  cases e : ixN xs.length i with
  | none => rw [e] at h; cases h
  | some j =>
    rw [e] at h
    have h' : xs[j]? = some v := h
    show (xs.map f)[j]? = some (f v)
    rw [List.getElem?_map, h']
    rfl
section
variable {K : PySem.W.Frag} {H : Hp}
theorem ix_either {a : Addr} {xs : List V} {i : Int} {v : V} {Q : VK} (s : SqL K H a xs ∨ SqT K H a xs) (h : atI xs i = some v) (q : Q v H) : rIxL K (.ref a) (.int i) H Q ∨ rIxT K (.ref a) (.int i) H Q :=
  s.imp (fun s => ⟨a, xs, i, v, rfl, rfl, s, h, q⟩) (fun s => ⟨a, xs, i, v, rfl, rfl, s, h, q⟩)
def rLen (K : PySem.W.Frag) : List V → Hp → VK → Prop := fun xs H Q => ∃ p ys, xs = [V.ref p] ∧ (SqL K H p ys ∨ SqT K H p ys) ∧ Q (.int ys.length) H
theorem call_lenK {X : Cx} : CallR X (.builtin "len") (rLen X.K) := call_len_seq
theorem ints_inv {v : V} {d : PyData} {l : List Int} (hv : Dp K H v d) (e : tupled d = .tuple (l.map PyData.int)) :
    ∃ (a : Addr), v = .ref a ∧ (SqL K H a (l.map V.int) ∨ SqT K H a (l.map V.int)) := by
  obtain ⟨a, xs, ds, e1, s, t, e2⟩ := tup_inv hv e
  have ex : xs = l.map V.int := by
    clear s e1 hv e
    induction l generalizing xs ds with
    | nil =>
      cases t with
      | nil => rfl
      | cons h r => simp at e2
    | cons n r ih =>
      cases t with
      | nil => simp at e2
      | cons h r' =>
        rw [List.map_cons, List.map_cons] at e2
        rw [int_inv h (List.head_eq_of_cons_eq e2), ih _ _ r' (List.tail_eq_of_cons_eq e2)]
        rfl
  rw [ex] at s
  exact ⟨a, e1, s⟩
end
/-- no heap is longer than n -/
def Short (n : Nat) (S : List (List Gr)) : Prop := S.length ≤ n ∧ ∀ h ∈ S, h.length ≤ n
/-! ### what a standing is -/
def signOk (c : Nat) : Bool := decide (97 ≤ c) && decide (c ≤ 122)
def wordOk (x : Str) : Bool := (decide (1 ≤ x.length) && decide (x.length ≤ 6)) && x.cps.toList.all signOk
def isWord : PyData → Bool
  | .str x => wordOk x
  | _ => false
def isNum : PyData → Bool
  | .int _ => true
  | _ => false
def grOk (dove doves : Int) : PyData → Bool
  | .tuple [.int a, w] => decide (0 ≤ a) && decide (a < doves) && decide (a ≠ dove) && isWord w
  | _ => false
theorem grOk_int (i n j : Int) (w : PyData) : grOk i n (.tuple [.int j, w]) = (decide (0 ≤ j) && decide (j < n) && decide (j ≠ i) && isWord w) := rfl
def heapOk (dove doves : Int) : PyData → Bool
  | .tuple gs => gs.all (grOk dove doves)
  | _ => false
def heapsOk (doves : Int) : Int → List PyData → Bool
  | _, [] => true
  | i, h :: r => heapOk i doves h && heapsOk doves (i + 1) r
def isSt : PyData → Bool
  | .tuple hs => !hs.isEmpty && heapsOk (hs.length : Int) 0 hs
  | _ => false
theorem le_a (c : Nat) : (!decide (([c] : List Nat) < [97])) = decide (97 ≤ c) := by
  by_cases h : 97 ≤ c
  · rw [decide_eq_true h]
    have : ¬ ([c] : List Nat) < [97] := by
      intro q
      cases q with
      | rel q => omega
      | cons q => cases q
    rw [decide_eq_false this]
    rfl
  · rw [decide_eq_false h]
    have : ([c] : List Nat) < [97] := List.Lex.rel (by omega)
    rw [decide_eq_true this]
    rfl
theorem le_z (c : Nat) : (!decide (([122] : List Nat) < [c])) = decide (c ≤ 122) := by
  by_cases h : c ≤ 122
  · rw [decide_eq_true h]
    have : ¬ ([122] : List Nat) < [c] := by
      intro q
      cases q with
      | rel q => omega
      | cons q => cases q
    rw [decide_eq_false this]
    rfl
  · rw [decide_eq_false h]
    have : ([122] : List Nat) < [c] := List.Lex.rel (by omega)
    rw [decide_eq_true this]
    rfl
theorem all_map_id {α : Type} (f : α → Bool) : ∀ l : List α, (l.map f).all id = l.all f
  | [] => rfl
  | a :: r => by rw [List.map_cons, List.all_cons, List.all_cons, all_map_id f r]; rfl
theorem dp_isT {K : PySem.W.Frag} {H : Hp} {v : V} {d : PyData} (h : Dp K H v d) (c : isTuple d = true) : ∃ ds a xs, d = .tuple ds ∧ v = .ref a ∧ SqT K H a xs ∧ DpAll K H xs ds := by
  cases h with
  | tup s t => exact ⟨_, _, _, rfl, rfl, s, t⟩
  | lst s t => cases c
  | non => cases c
  | bl b => cases c
  | int i => cases c
  | str x => cases c
/-- what all steps keep: the tuples of what was told stand -/
theorem DtAll.snoc {K : PySem.W.Frag} {H H' : Hp} {vs : List V} {ds : List PyData} {v : V} {d : PyData} (a : DtAll K H vs ds) (t : Tups H H') (h : Dt K H' v d) : DtAll K H' (vs ++ [v]) (ds ++ [d]) := DpAll.snoc (DtAll.on a t) h
end Gc

set_option Elab.async false
set_option linter.all false
set_option maxRecDepth 100000
set_option maxHeartbeats 4000000
namespace Gc
open PySem PySem.Spec PyProof.Rows L2 RZ

/-! ### tame data: small ints, plain signs, no dict -/
mutual
def tame : PyData → Bool
  | .none => true
  | .bool _ => true
  | .int i => decide (-100 ≤ i) && decide (i ≤ 1000)
  | .str x => x.cps.toList.all fun c => decide (c < 128)
  | .list xs => tameAll xs
  | .tuple xs => tameAll xs
  | .dict _ => false
def tameAll : List PyData → Bool
  | [] => true
  | d :: ds => tame d && tameAll ds
end
theorem tameAll_mem : ∀ {ds : List PyData}, tameAll ds = true ↔ ∀ d ∈ ds, tame d = true
  | [] => by
    rw [tameAll]
    exact ⟨fun _ d h => absurd h (by simp), fun _ => rfl⟩
  | d :: ds => by
    rw [tameAll, Bool.and_eq_true, tameAll_mem (ds := ds)]
    constructor
    · rintro ⟨h1, h2⟩ e he
      rcases List.mem_cons.mp he with rfl | he
      · exact h1
      · exact h2 e he
    · intro h
      exact ⟨h d List.mem_cons_self, fun e he => h e (List.mem_cons_of_mem _ he)⟩
theorem int_short : ∀ n : Fin 1101, (PyData.shown (.int ((n.val : Int) - 100))).length ≤ 8 := by
  have h : (List.range 1101).all (fun n => decide ((PyData.shown (.int ((n : Int) - 100))).length ≤ 8)) = true := by decide +kernel
  intro n
  exact of_decide_eq_true (List.all_eq_true.mp h n.val (List.mem_range.mpr n.isLt))
theorem log_small {i : Int} (h1 : -100 ≤ i) (h2 : i ≤ 1000) : i.natAbs.log2 < 1920 := by
  have h : i.natAbs < 2 ^ 1920 := Nat.lt_of_le_of_lt (show i.natAbs ≤ 1000 by omega) (by decide +kernel)
  by_cases h0 : i.natAbs = 0
  · rw [h0]
    decide
  · exact (Nat.log2_lt h0).mpr h
mutual
theorem tame_show : ∀ {d : PyData}, tame d = true → d.showable = true ∧ d.hasDict = false ∧ d.leavesShort 8 = true ∧ d.canLay0 = true
  | .none, _ => ⟨by rw [PyData.showable], by rw [PyData.hasDict], by rw [PyData.leavesShort], by rw [PyData.canLay0]⟩
  | .bool b, _ => ⟨by rw [PyData.showable], by rw [PyData.hasDict], by rw [PyData.leavesShort], by rw [PyData.canLay0]⟩
  | .int i, h => by
    rw [tame, Bool.and_eq_true] at h
    have h1 := of_decide_eq_true h.1
    have h2 := of_decide_eq_true h.2
    refine ⟨by rw [PyData.showable]; exact decide_eq_true (log_small h1 h2), by rw [PyData.hasDict], ?_, by rw [PyData.canLay0]⟩
    rw [PyData.leavesShort]
    have q := int_short ⟨(i + 100).toNat, by omega⟩
    have e : (((i + 100).toNat : Nat) : Int) - 100 = i := by omega
    rw [e] at q
    exact decide_eq_true q
  | .str x, h => by
    rw [tame] at h
    have h' := List.all_eq_true.mp h
    refine ⟨by rw [PyData.showable], by rw [PyData.hasDict], ?_, ?_⟩
    · rw [PyData.leavesShort]
      exact List.all_eq_true.mpr fun c hc => decide_eq_true (Nat.lt_of_lt_of_le (of_decide_eq_true (h' c hc)) (by decide))
    · rw [PyData.canLay0]
      show (x.cps.all fun c => decide (c < 0x110000)) = true
      rw [← Array.all_toList]
      exact List.all_eq_true.mpr fun c hc => decide_eq_true (Nat.lt_of_lt_of_le (of_decide_eq_true (h' c hc)) (by decide))
  | .list xs, h => by
    rw [tame] at h
    obtain ⟨a, b, c, d⟩ := tame_showAll h
    exact ⟨by rw [PyData.showable]; exact a, by rw [PyData.hasDict]; exact b, by rw [PyData.leavesShort]; exact c, by rw [PyData.canLay0]; exact d⟩
  | .tuple xs, h => by
    rw [tame] at h
    obtain ⟨a, b, c, d⟩ := tame_showAll h
    exact ⟨by rw [PyData.showable]; exact a, by rw [PyData.hasDict]; exact b, by rw [PyData.leavesShort]; exact c, by rw [PyData.canLay0]; exact d⟩
  | .dict kvs, h => by rw [tame] at h; cases h
theorem tame_showAll : ∀ {ds : List PyData}, tameAll ds = true → PyData.showableAll ds = true ∧ PyData.hasDictAll ds = false ∧ PyData.leavesShortAll 8 ds = true ∧ PyData.canLayAll0 ds = true
  | [], _ => ⟨by rw [PyData.showableAll], by rw [PyData.hasDictAll], by rw [PyData.leavesShortAll], by rw [PyData.canLayAll0]⟩
  | d :: ds, h => by
    rw [tameAll, Bool.and_eq_true] at h
    obtain ⟨a, b, c, e⟩ := tame_show h.1
    obtain ⟨a', b', c', e'⟩ := tame_showAll h.2
    exact ⟨by rw [PyData.showableAll, a, a']; rfl, by rw [PyData.hasDictAll, b, b']; rfl, by rw [PyData.leavesShortAll, c, c']; rfl, by rw [PyData.canLayAll0, e, e']; rfl⟩
end
/-- a tame, light datum is shown within the line -/
theorem tame_fits {d : PyData} (h : tame d = true) (hw : d.weight ≤ mega) : d.shown.length ≤ sizeLine :=
  PyData.shown_fits (B := 8) (Nat.le_refl _) (by decide) (tame_show h).2.2.1 (Nat.le_trans hw (by decide))
section
variable {K : PySem.W.Frag} {H : Hp}
/-- what repr asks -/
theorem repr_ok {a : Addr} {d : PyData} {Q : VK} (hv : Dp K H (.ref a) d) (h : tame d = true) (hw : d.weight ≤ mega) (hd : d.depth ≤ 60) (q : Q (.str d.shown) H) : rRepr K [V.ref a] H Q :=
  ⟨a, d, rfl, hv, (tame_show h).1, (tame_show h).2.1, hd, tame_fits h hw, q⟩
theorem eq_ok {x y : V} {d e : PyData} {Q : VK} (hx : Dp K H x d) (hy : Dp K H y e) (h1 : tame d = true) (h2 : tame e = true) (d1 : d.depth ≤ 64) (d2 : e.depth ≤ 64) (q : Q (.bl (PyData.eqv d e)) H) : rEqD K x y H Q :=
  ⟨d, e, hx, hy, by unfold SeqAt.shaped; rw [(tame_show h1).2.2.2, decide_eq_true d1]; rfl, by unfold SeqAt.shaped; rw [(tame_show h2).2.2.2, decide_eq_true d2]; rfl, q⟩
end
/-! ### the size of a standing -/
theorem menu_tame {x : Str} (h : x ∈ menu) : tame (.str x) = true ∧ x.length ≤ 6 ∧ wordOk x = true := by
  have hh : menu.all (fun x => tame (.str x) && decide (x.length ≤ 6) && wordOk x) = true := by decide +kernel
  have q := List.all_eq_true.mp hh x h
  rw [Bool.and_eq_true, Bool.and_eq_true] at q
  exact ⟨q.1.1, of_decide_eq_true q.1.2, q.2⟩
theorem weight_int {i : Int} (h1 : -100 ≤ i) (h2 : i ≤ 1000) : (PyData.int i).weight ≤ 11 := by
  rw [PyData.weight]
  split
  · omega
  · rename_i h0
    have hn : i.natAbs ≠ 0 := fun z => h0 (by rw [beq_iff_eq]; omega)
    have : i.natAbs.log2 < 10 := (Nat.log2_lt hn).mpr (by show i.natAbs < 1024; omega)
    omega
/-- all grudges are about doves 0 to n, by words of the menu -/
def Plain (n : Int) (S : List (List Gr)) : Prop := ∀ h ∈ S, ∀ g ∈ h, 0 ≤ g.1 ∧ g.1 < n ∧ g.2 ∈ menu
section
variable {n : Int} {g : Gr} {h : List Gr} {S : List (List Gr)}
theorem dG_ok (hn : n ≤ 1000) (a : 0 ≤ g.1 ∧ g.1 < n ∧ g.2 ∈ menu) : tame (dG g) = true ∧ (dG g).weight ≤ 19 ∧ (dG g).depth = 1 := by
  have m := menu_tame a.2.2
  have w1 := weight_int (i := g.1) (by omega) (by omega)
  refine ⟨?_, ?_, ?_⟩
  · unfold dG
    rw [tame, tameAll, tameAll, tameAll, m.1, tame, decide_eq_true (show -100 ≤ g.1 by omega), decide_eq_true (show g.1 ≤ 1000 by omega)]
    rfl
  · unfold dG
    have w2 : (PyData.str g.2).weight ≤ 6 := by rw [PyData.weight]; exact m.2.1
    rw [PyData.weight, PyData.weightAll, PyData.weightAll, PyData.weightAll]
    omega
  · unfold dG
    rw [PyData.depth, PyData.depthAll, PyData.depthAll, PyData.depthAll, PyData.depth, PyData.depth]
    rfl
theorem dHs_ok (hn : n ≤ 1000) : ∀ {h : List Gr}, (∀ g ∈ h, 0 ≤ g.1 ∧ g.1 < n ∧ g.2 ∈ menu) → tameAll (h.map dG) = true ∧ PyData.weightAll (h.map dG) ≤ 20 * h.length ∧ PyData.depthAll (h.map dG) ≤ 1
  | [], _ => ⟨by rw [List.map_nil, tameAll], by rw [List.map_nil, PyData.weightAll]; exact Nat.zero_le _, by rw [List.map_nil, PyData.depthAll]; exact Nat.zero_le _⟩
  | g :: r, a => by
    obtain ⟨a1, a2, a3⟩ := dG_ok hn (a g List.mem_cons_self)
    obtain ⟨b1, b2, b3⟩ := dHs_ok (h := r) hn fun x hx => a x (List.mem_cons_of_mem _ hx)
    rw [List.map_cons, tameAll, PyData.weightAll, PyData.depthAll, a1, b1, a3, List.length_cons]
    exact ⟨rfl, by omega, by omega⟩
theorem dH_ok (hn : n ≤ 1000) (a : ∀ g ∈ h, 0 ≤ g.1 ∧ g.1 < n ∧ g.2 ∈ menu) : tame (dH h) = true ∧ (dH h).weight ≤ 20 * h.length ∧ (dH h).depth ≤ 2 := by
  obtain ⟨b1, b2, b3⟩ := dHs_ok hn a
  unfold dH
  rw [tame, PyData.weight, PyData.depth]
  exact ⟨b1, b2, by omega⟩
theorem dSs_ok (hn : n ≤ 1000) : ∀ {S : List (List Gr)}, Plain n S → tameAll (S.map dH) = true ∧ PyData.weightAll (S.map dH) ≤ 20 * total S + S.length ∧ PyData.depthAll (S.map dH) ≤ 2
  | [], _ => ⟨by rw [List.map_nil, tameAll], by rw [List.map_nil, PyData.weightAll]; exact Nat.zero_le _, by rw [List.map_nil, PyData.depthAll]; exact Nat.zero_le _⟩
  | h :: r, a => by
    obtain ⟨a1, a2, a3⟩ := dH_ok hn (a h List.mem_cons_self)
    obtain ⟨b1, b2, b3⟩ := dSs_ok (S := r) hn fun x hx => a x (List.mem_cons_of_mem _ hx)
    rw [List.map_cons, tameAll, PyData.weightAll, PyData.depthAll, a1, b1, List.length_cons]
    refine ⟨rfl, ?_, by omega⟩
    show (dH h).weight + 1 + PyData.weightAll (r.map dH) ≤ 20 * (h.length + total r) + (r.length + 1)
    omega
theorem dS_ok (hn : n ≤ 1000) (a : Plain n S) : tame (dS S) = true ∧ (dS S).weight ≤ 20 * total S + S.length ∧ (dS S).depth ≤ 3 := by
  obtain ⟨b1, b2, b3⟩ := dSs_ok hn a
  unfold dS
  rw [tame, PyData.weight, PyData.depth]
  exact ⟨b1, b2, by omega⟩
theorem OkS.plain (ok : OkS S) : Plain (S.length : Int) S := fun h hh g hg => by
  obtain ⟨i, hi, e⟩ := List.getElem_of_mem hh
  have q := ok i h (by rw [List.getElem?_eq_getElem hi, e]) g hg
  exact ⟨q.1, q.2.1, q.2.2.2⟩
theorem total_ge : ∀ {S : List (List Gr)}, ∀ h ∈ S, h.length ≤ total S := fun h hh => by
  obtain ⟨i, hi, e⟩ := List.getElem_of_mem hh
  exact mem_total (by rw [List.getElem?_eq_getElem hi, e])
theorem RoomOk.short {n m : Int} (r : RoomOk n m S) (hn : n ≤ 1000) (hm : m ≤ 1000) : Short 1000 S := by
  refine ⟨?_, fun h hh => ?_⟩
  · have := r.many
    omega
  · have a := total_ge h hh
    have b := r.sum
    omega
end
theorem heapsOk_of {n : Int} : ∀ {S : List (List Gr)} {i : Nat}, (∀ (j : Nat) (h : List Gr), S[j]? = some h → ∀ g ∈ h, 0 ≤ g.1 ∧ g.1 < n ∧ g.1 ≠ ((i + j : Nat) : Int) ∧ g.2 ∈ menu) → heapsOk n (i : Int) (S.map dH) = true
  | [], _, _ => rfl
  | h :: r, i, a => by
    rw [List.map_cons, heapsOk, Bool.and_eq_true]
    constructor
    · show (h.map dG).all (grOk (i : Int) n) = true
      rw [List.all_map]
      refine List.all_eq_true.mpr fun g hg => ?_
      have q := a 0 h rfl g hg
      show grOk (i : Int) n (.tuple [.int g.1, .str g.2]) = true
      have w : isWord (.str g.2) = true := (menu_tame q.2.2.2).2.2
      rw [grOk_int, decide_eq_true q.1, decide_eq_true q.2.1, decide_eq_true (show g.1 ≠ (i : Int) from q.2.2.1), w]
      rfl
    · have := heapsOk_of (n := n) (S := r) (i := i + 1) fun j k hj g hg => by
        have q := a (j + 1) k hj g hg
        rw [show i + 1 + j = i + (j + 1) by omega]
        exact q
      exact this
theorem isSt_dS {S : List (List Gr)} (h1 : 1 ≤ S.length) (ok : OkS S) : isSt (dS S) = true := by
  show (!(S.map dH).isEmpty && heapsOk ((S.map dH).length : Int) 0 (S.map dH)) = true
  have e : (!(S.map dH).isEmpty) = true := by
    cases S with
    | nil => simp at h1
    | cons a r => rfl
  rw [e, Bool.true_and, List.length_map]
  refine heapsOk_of (i := 0) fun j h hj g hg => ?_
  have q := ok j h hj g hg
  rw [Nat.zero_add]
  exact q
/-- tuple(x) of a list or a tuple -/
def rTupOf (K : PySem.W.Frag) : List V → Hp → VK → Prop := fun xs H Q => ∃ p ys, xs = [.ref p] ∧ ((SqL K H p ys ∧ ∀ l, H l = none → Q (.ref l) (upd H l (.tup ys))) ∨ (SqT K H p ys ∧ Q (.ref p) H))
theorem call_tupK {X : Cx} : CallR X (.type "tuple") (rTupOf X.K) := call_tuple_of
end Gc

set_option Elab.async false
set_option linter.all false
set_option maxRecDepth 100000
set_option maxHeartbeats 4000000
namespace Gc
open PySem PySem.Spec PyProof.Rows L2 RZ

/-! ### comprehensions whose items are data -/
/-- all but D's object stands, D is a list -/
structure SameBut (D : Addr) (H H' : Hp) : Prop where
  old : ∀ a o, a ≠ D → H a = some o → H' a = some o
  lst : ∃ xs, H D = some (.lst xs)
/-- a reading of an item that stands while D grows -/
def StandsBut (D : Addr) (R : Hp → V → PyData → Prop) : Prop := ∀ H H' v d, SameBut D H H' → R H v d → R H' v d
theorem same_but {D : Addr} {H H' : Hp} (e : SameBut D H H') : Same (but H D) (but H' D) := fun a o q => by
  have ne : a ≠ D := fun z => by rw [z, but_at] at q; cases q
  rw [but_ne ne] at q ⊢
  exact e.old a o ne q
theorem same_of_but {D : Addr} {H : Hp} : Same (but H D) H := fun a o q => by
  have ne : a ≠ D := fun z => by rw [z, but_at] at q; cases q
  rw [but_ne ne] at q
  exact q
theorem but_of {D : Addr} {G H : Hp} (h : G D = none) (e : Same G H) : Same G (but H D) := fun a o q => by
  rw [but_ne (ne_of_none q h)]
  exact e a o q
theorem tups_but {D : Addr} {H : Hp} {xs : List V} (h : H D = some (.lst xs)) : Same (tupsOf H) (but H D) := fun a o q => by
  obtain ⟨ys, rfl, e⟩ := tupsOf_some q
  have ne : a ≠ D := fun z => by rw [z, h] at e; cases e
  rw [but_ne ne]
  exact e
theorem but_tups {D : Addr} {H H' : Hp} (e : SameBut D H H') : Tups H H' := fun a xs q => by
  obtain ⟨ys, h⟩ := e.lst
  have ne : a ≠ D := fun z => by rw [z, h] at q; cases q
  exact e.old a _ ne q
theorem stands_dp {K : PySem.W.Frag} {D : Addr} : StandsBut D (fun H v d => Dp K (but H D) v d) := fun H H' v d e h => Dp.mono (same_but e) h
theorem stands_dt {K : PySem.W.Frag} {D : Addr} : StandsBut D (fun H v d => Dt K H v d) := fun H H' v d e h => Dt.on h (but_tups e)
/-- a list, not D's, of tuples alone -/
def LstT (K : PySem.W.Frag) (D : Addr) (H : Hp) (v : V) (d : PyData) : Prop := ∃ (la : Addr) (ys : List V) (ds : List PyData), v = .ref la ∧ la ≠ D ∧ H la = some (.lst ys) ∧ d = .list ds ∧ DtAll K H ys ds
theorem stands_lt {K : PySem.W.Frag} {D : Addr} : StandsBut D (LstT K D) := fun H H' v d e ⟨la, ys, ds, h1, h2, h3, h4, h5⟩ => ⟨la, ys, ds, h1, h2, e.old _ _ h2 h3, h4, DtAll.on h5 (but_tups e)⟩
theorem LstT.on {K : PySem.W.Frag} {D : Addr} {H H' : Hp} {v : V} {d : PyData} (h : LstT K D H v d) (e : Same H H') : LstT K D H' v d := by
  obtain ⟨la, ys, ds, h1, h2, h3, h4, h5⟩ := h
  exact ⟨la, ys, ds, h1, h2, e _ _ h3, h4, DtAll.on h5 (Tups.of e)⟩
theorem LstT.dp {K : PySem.W.Frag} {D : Addr} {H : Hp} {v : V} {d : PyData} (h : LstT K D H v d) : Dp K H v d := by
  obtain ⟨la, ys, ds, rfl, h2, h3, rfl, h5⟩ := h
  exact .lst (SqL.of h3) (DtAll.dp h5)
theorem paired_got {α β : Type} {F : α → β → Prop} : ∀ {l₁ : List α} {l₂ : List β} {i : Nat} {a : α}, Paired F l₁ l₂ → l₁[i]? = some a → ∃ b, l₂[i]? = some b ∧ F a b
  | _, _, _, _, .nil, e => by simp at e
  | _, _, 0, _, .cons h _, e => by simp at e; subst e; exact ⟨_, rfl, h⟩
  | _, _, i + 1, _, .cons _ t, e => by simpa using paired_got (i := i) t (by simpa using e)
theorem dpall_of {K : PySem.W.Frag} {H : Hp} : ∀ {vs : List V} {ds : List PyData}, Paired (fun v d => Dp K H v d) vs ds → DpAll K H vs ds
  | _, _, .nil => .nil
  | _, _, .cons h t => .cons h (dpall_of t)
theorem paired_len {α β : Type} {F : α → β → Prop} : ∀ {l₁ : List α} {l₂ : List β}, Paired F l₁ l₂ → l₁.length = l₂.length
  | _, _, .nil => rfl
  | _, _, .cons _ t => by rw [List.length_cons, List.length_cons, paired_len t]
def selTo (sel : Nat → Option PyData) (n : Nat) : List PyData := (List.range n).filterMap sel
theorem selTo_succ (sel : Nat → Option PyData) (n : Nat) : selTo sel (n + 1) = selTo sel n ++ (sel n).toList := by
  unfold selTo
  rw [List.range_succ, List.filterMap_append]
  cases e : sel n with
  | none => rw [List.filterMap_cons_none e]; rfl
  | some d => rw [List.filterMap_cons_some e]; rfl
theorem selTo_get (ds : List PyData) : selTo (fun i => ds[i]?) ds.length = ds := by
  have h : ∀ n, n ≤ ds.length → selTo (fun i => ds[i]?) n = ds.take n := by
    intro n
    induction n with
    | zero => intro _; rw [List.take_zero]; rfl
    | succ n ih =>
      intro hn
      rw [selTo_succ, ih (by omega), List.take_add_one]
  rw [h ds.length (Nat.le_refl _), List.take_length]
theorem selTo_len (sel : Nat → Option PyData) : ∀ n, (selTo sel n).length ≤ n
  | 0 => Nat.le_refl _
  | n + 1 => by
    rw [selTo_succ, List.length_append]
    have := selTo_len sel n
    cases sel n with
    | none => show _ + 0 ≤ _; omega
    | some d => show _ + 1 ≤ _; omega
section
variable {J : It} {n : Nat} {G : Hp → Prop} {Y : Nat → Hp → V → Hp → Prop} {g : TG} {tt : TT} {te : TE} {vs : List Nat} {σ : L2.St} {H1 : Hp} {D : Addr} {Qd : Hp → Prop}
theorem build (w : Walk J n G Y) (hD : H1 D = none) (hsz : n ≤ 100000) (R : Hp → V → PyData → Prop) (hR : StandsBut D R) (sel : Nat → Option PyData) (hG : ∀ H', Same H1 H' → G H')
    (hs : ∀ i x H2 H3 acc (k : VK) (kn : Hp → Prop), i < n → H2 D = some (.lst acc) → Same H1 H2 → Y i H2 x H3 → (∀ y H6 d, Same H2 H6 → sel i = some d → R H6 y d → k y H6) → (∀ H5, Same H2 H5 → sel i = none → kn H5) →
      g x (wipe σ vs) H3 fun σ2 H4 => wipe σ2 vs = wipe σ vs ∧ tt σ2 H4 fun b H5 => if b = true then te σ2 H5 k else kn H5)
    (hd : ∀ H' acc, Same H1 H' → H' D = some (.lst acc) → Paired (R H') acc (selTo sel n) → Qd H') :
    ∃ W : Nat → Nat → Hp → Prop, (∃ m, W 0 m (upd H1 D (.lst []))) ∧ ∀ i m H, W i m H →
      (J.stop i H ∧ Qd H) ∨ (J.go i H ∧ ∃ Nx : Hp → Prop, (∀ H', Nx H' → ∃ m', m' < m ∧ W (i + 1) m' H') ∧ ∀ x H', J.yld i H x H' → g x (wipe σ vs) H' fun σ2 H2 => wipe σ2 vs = wipe σ vs ∧ tt σ2 H2 fun b H3 =>
        if b = true then te σ2 H3 fun y H4 => ∃ acc, H4 D = some (.lst acc) ∧ acc.length < sizeLine ∧ Nx (upd H4 D (.lst (acc ++ [y]))) else Nx H3) := by
  refine lc_it w (fun i H' => ∃ acc, H' D = some (.lst acc) ∧ Same H1 H' ∧ Paired (R H') acc (selTo sel i)) ⟨[], upd_same, same_new hD _, .nil⟩ (fun i H' _ p => hG H' p.choose_spec.2.1) ?_ (fun H' ⟨acc, p1, p2, p3⟩ => hd H' acc p2 p1 p3)
  rintro i x H2 H3 hi ⟨acc, p1, p2, p3⟩ y
  refine hs i x H2 H3 acc _ _ hi p1 p2 y (fun v H6 d e hd' r => ?_) (fun H5 e hn => ?_)
  · have q1 := e _ _ p1
    have sb : SameBut D H2 (upd H6 D (.lst (acc ++ [v]))) := ⟨fun a o ne q => by rw [upd_ne ne]; exact e a o q, ⟨_, p1⟩⟩
    have sb2 : SameBut D H6 (upd H6 D (.lst (acc ++ [v]))) := ⟨fun a o ne q => by rw [upd_ne ne]; exact q, ⟨_, q1⟩⟩
    refine ⟨acc, q1, ?_, acc ++ [v], upd_same, same_put hD (p2.trans e), ?_⟩
    · have := paired_len p3
      have := selTo_len sel i
      exact mega_line (by unfold mega; omega)
    · rw [selTo_succ, hd']
      exact Paired.snoc (Paired.mapP p3 fun a b r' => hR _ _ a b sb r') (hR _ _ _ _ sb2 r)
  · refine ⟨acc, e _ _ p1, p2.trans e, ?_⟩
    rw [selTo_succ, hn]
    show Paired _ acc (selTo sel i ++ [])
    rw [List.append_nil]
    exact Paired.mapP p3 fun a b r' => hR _ _ a b ⟨fun a o _ q => e a o q, ⟨_, p1⟩⟩ r'
theorem buildT {K : PySem.W.Frag} (w : Walk J n G Y) (hD : H1 D = none) (ds : List PyData) (hl : ds.length = n) (hsz : n ≤ 100000) (hG : ∀ H', Same H1 H' → G H')
    (hs : ∀ i x d H2 H3 acc (k : VK), i < n → ds[i]? = some d → H2 D = some (.lst acc) → Same H1 H2 → Y i H2 x H3 → (∀ y H6, Same H2 H6 → Dt K H6 y d → k y H6) → g x (wipe σ vs) H3 fun σ2 H4 => wipe σ2 vs = wipe σ vs ∧ te σ2 H4 k)
    (hd : ∀ H' acc, Same H1 H' → H' D = some (.lst acc) → DtAll K H' acc ds → Qd H') :
    ∃ W : Nat → Nat → Hp → Prop, (∃ m, W 0 m (upd H1 D (.lst []))) ∧ ∀ i m H, W i m H →
      (J.stop i H ∧ Qd H) ∨ (J.go i H ∧ ∃ Nx : Hp → Prop, (∀ H', Nx H' → ∃ m', m' < m ∧ W (i + 1) m' H') ∧ ∀ x H', J.yld i H x H' → g x (wipe σ vs) H' fun σ2 H2 => wipe σ2 vs = wipe σ vs ∧ tYes σ2 H2 fun b H3 =>
        if b = true then te σ2 H3 fun y H4 => ∃ acc, H4 D = some (.lst acc) ∧ acc.length < sizeLine ∧ Nx (upd H4 D (.lst (acc ++ [y]))) else Nx H3) := by
  refine build w hD hsz (fun H v d => Dt K H v d) stands_dt (fun i => ds[i]?) hG ?_ ?_
  · intro i x H2 H3 acc k kn hi h2 e y hk _
    have hi' : i < ds.length := by omega
    exact hs i x ds[i] H2 H3 acc k hi (List.getElem?_eq_getElem hi') h2 e y fun v H6 e6 r => hk v H6 ds[i] e6 (List.getElem?_eq_getElem hi') r
  · intro H' acc e h p
    rw [← hl, selTo_get] at p
    exact hd H' acc e h (dpall_of p)
theorem buildB {K : PySem.W.Frag} (w : Walk J n G Y) (hD : H1 D = none) (ds : List PyData) (hl : ds.length = n) (hsz : n ≤ 100000) (hG : ∀ H', Same H1 H' → G H')
    (hs : ∀ i x d H2 H3 acc (k : VK), i < n → ds[i]? = some d → H2 D = some (.lst acc) → Same H1 H2 → Y i H2 x H3 → (∀ y H6, Same H2 H6 → Dp K (but H6 D) y d → k y H6) → g x (wipe σ vs) H3 fun σ2 H4 => wipe σ2 vs = wipe σ vs ∧ te σ2 H4 k)
    (hd : ∀ H' acc, Same H1 H' → H' D = some (.lst acc) → DpAll K (but H' D) acc ds → Qd H') :
    ∃ W : Nat → Nat → Hp → Prop, (∃ m, W 0 m (upd H1 D (.lst []))) ∧ ∀ i m H, W i m H →
      (J.stop i H ∧ Qd H) ∨ (J.go i H ∧ ∃ Nx : Hp → Prop, (∀ H', Nx H' → ∃ m', m' < m ∧ W (i + 1) m' H') ∧ ∀ x H', J.yld i H x H' → g x (wipe σ vs) H' fun σ2 H2 => wipe σ2 vs = wipe σ vs ∧ tYes σ2 H2 fun b H3 =>
        if b = true then te σ2 H3 fun y H4 => ∃ acc, H4 D = some (.lst acc) ∧ acc.length < sizeLine ∧ Nx (upd H4 D (.lst (acc ++ [y]))) else Nx H3) := by
  refine build w hD hsz (fun H v d => Dp K (but H D) v d) stands_dp (fun i => ds[i]?) hG ?_ ?_
  · intro i x H2 H3 acc k kn hi h2 e y hk _
    have hi' : i < ds.length := by omega
    exact hs i x ds[i] H2 H3 acc k hi (List.getElem?_eq_getElem hi') h2 e y fun v H6 e6 r => hk v H6 ds[i] e6 (List.getElem?_eq_getElem hi') r
  · intro H' acc e h p
    rw [← hl, selTo_get] at p
    exact hd H' acc e h (dpall_of p)
theorem buildL {K : PySem.W.Frag} (w : Walk J n G Y) (hD : H1 D = none) (ds : List PyData) (hl : ds.length = n) (hsz : n ≤ 100000) (hG : ∀ H', Same H1 H' → G H')
    (hs : ∀ i x d H2 H3 acc (k : VK), i < n → ds[i]? = some d → H2 D = some (.lst acc) → Same H1 H2 → Y i H2 x H3 → (∀ y H6, Same H2 H6 → LstT K D H6 y d → k y H6) → g x (wipe σ vs) H3 fun σ2 H4 => wipe σ2 vs = wipe σ vs ∧ te σ2 H4 k)
    (hd : ∀ H' acc, Same H1 H' → H' D = some (.lst acc) → Paired (LstT K D H') acc ds → Qd H') :
    ∃ W : Nat → Nat → Hp → Prop, (∃ m, W 0 m (upd H1 D (.lst []))) ∧ ∀ i m H, W i m H →
      (J.stop i H ∧ Qd H) ∨ (J.go i H ∧ ∃ Nx : Hp → Prop, (∀ H', Nx H' → ∃ m', m' < m ∧ W (i + 1) m' H') ∧ ∀ x H', J.yld i H x H' → g x (wipe σ vs) H' fun σ2 H2 => wipe σ2 vs = wipe σ vs ∧ tYes σ2 H2 fun b H3 =>
        if b = true then te σ2 H3 fun y H4 => ∃ acc, H4 D = some (.lst acc) ∧ acc.length < sizeLine ∧ Nx (upd H4 D (.lst (acc ++ [y]))) else Nx H3) := by
  refine build w hD hsz (LstT K D) stands_lt (fun i => ds[i]?) hG ?_ ?_
  · intro i x H2 H3 acc k kn hi h2 e y hk _
    have hi' : i < ds.length := by omega
    exact hs i x ds[i] H2 H3 acc k hi (List.getElem?_eq_getElem hi') h2 e y fun v H6 e6 r => hk v H6 ds[i] e6 (List.getElem?_eq_getElem hi') r
  · intro H' acc e h p
    rw [← hl, selTo_get] at p
    exact hd H' acc e h p
end
theorem seqT {K : PySem.W.Frag} {te0 te : TE} {g : TG} {vs : List Nat} {σ : L2.St} {H H1 : Hp} {Q : VK} {a : Addr} {xs : List V} (hte : ∀ k : VK, k (.ref a) H1 → te0 σ H k) (s : SqL K H1 a xs ∨ SqT K H1 a xs) (ds : List PyData) (hl : ds.length = xs.length) (hsz : xs.length ≤ 100000)
    (hs : ∀ (D : Addr) (i : Nat) (x : V) (d : PyData) (H2 : Hp) (acc : List V) (k : VK), H1 D = none → xs[i]? = some x → ds[i]? = some d → H2 D = some (.lst acc) → Same H1 H2 → (∀ y H6, Same H2 H6 → Dt K H6 y d → k y H6) → g x (wipe σ vs) H2 fun σ2 H4 => wipe σ2 vs = wipe σ vs ∧ te σ2 H4 k)
    (hd : ∀ (D : Addr) (H' : Hp) (acc : List V), H1 D = none → Same H1 H' → H' D = some (.lst acc) → DtAll K H' acc ds → Q (.ref D) H') : tLc (iSeq K te0) g tYes te vs σ H Q := by
  refine hte _ ⟨a, xs, rfl, ?_⟩
  rcases s with s | s
  · refine .inl ⟨s, fun D hD => buildT walk_list hD ds hl hsz (fun H' e => e.seq s) ?_ (fun H' acc e h p => hd D H' acc hD e h p)⟩
    rintro i x d H2 H3 acc k hi hdi h2 e ⟨rfl, hx⟩ hk
    exact hs D i x d _ acc k hD hx hdi h2 e hk
  · refine .inr ⟨s, fun D hD => buildT walk_tup hD ds hl hsz (fun H' e => Same.seqT e s) ?_ (fun H' acc e h p => hd D H' acc hD e h p)⟩
    rintro i x d H2 H3 acc k hi hdi h2 e ⟨rfl, hx⟩ hk
    exact hs D i x d _ acc k hD hx hdi h2 e hk
theorem seqB {K : PySem.W.Frag} {te0 te : TE} {g : TG} {vs : List Nat} {σ : L2.St} {H H1 : Hp} {Q : VK} {a : Addr} {xs : List V} (hte : ∀ k : VK, k (.ref a) H1 → te0 σ H k) (s : SqL K H1 a xs ∨ SqT K H1 a xs) (ds : List PyData) (hl : ds.length = xs.length) (hsz : xs.length ≤ 100000)
    (hs : ∀ (D : Addr) (i : Nat) (x : V) (d : PyData) (H2 : Hp) (acc : List V) (k : VK), H1 D = none → xs[i]? = some x → ds[i]? = some d → H2 D = some (.lst acc) → Same H1 H2 → (∀ y H6, Same H2 H6 → Dp K (but H6 D) y d → k y H6) → g x (wipe σ vs) H2 fun σ2 H4 => wipe σ2 vs = wipe σ vs ∧ te σ2 H4 k)
    (hd : ∀ (D : Addr) (H' : Hp) (acc : List V), H1 D = none → Same H1 H' → H' D = some (.lst acc) → DpAll K (but H' D) acc ds → Q (.ref D) H') : tLc (iSeq K te0) g tYes te vs σ H Q := by
  refine hte _ ⟨a, xs, rfl, ?_⟩
  rcases s with s | s
  · refine .inl ⟨s, fun D hD => buildB walk_list hD ds hl hsz (fun H' e => e.seq s) ?_ (fun H' acc e h p => hd D H' acc hD e h p)⟩
    rintro i x d H2 H3 acc k hi hdi h2 e ⟨rfl, hx⟩ hk
    exact hs D i x d _ acc k hD hx hdi h2 e hk
  · refine .inr ⟨s, fun D hD => buildB walk_tup hD ds hl hsz (fun H' e => Same.seqT e s) ?_ (fun H' acc e h p => hd D H' acc hD e h p)⟩
    rintro i x d H2 H3 acc k hi hdi h2 e ⟨rfl, hx⟩ hk
    exact hs D i x d _ acc k hD hx hdi h2 e hk
theorem seqL {K : PySem.W.Frag} {te0 te : TE} {g : TG} {vs : List Nat} {σ : L2.St} {H H1 : Hp} {Q : VK} {a : Addr} {xs : List V} (hte : ∀ k : VK, k (.ref a) H1 → te0 σ H k) (s : SqL K H1 a xs ∨ SqT K H1 a xs) (ds : List PyData) (hl : ds.length = xs.length) (hsz : xs.length ≤ 100000)
    (hs : ∀ (D : Addr) (i : Nat) (x : V) (d : PyData) (H2 : Hp) (acc : List V) (k : VK), H1 D = none → xs[i]? = some x → ds[i]? = some d → H2 D = some (.lst acc) → Same H1 H2 → (∀ y H6, Same H2 H6 → LstT K D H6 y d → k y H6) → g x (wipe σ vs) H2 fun σ2 H4 => wipe σ2 vs = wipe σ vs ∧ te σ2 H4 k)
    (hd : ∀ (D : Addr) (H' : Hp) (acc : List V), H1 D = none → Same H1 H' → H' D = some (.lst acc) → Paired (LstT K D H') acc ds → Q (.ref D) H') : tLc (iSeq K te0) g tYes te vs σ H Q := by
  refine hte _ ⟨a, xs, rfl, ?_⟩
  rcases s with s | s
  · refine .inl ⟨s, fun D hD => buildL walk_list hD ds hl hsz (fun H' e => e.seq s) ?_ (fun H' acc e h p => hd D H' acc hD e h p)⟩
    rintro i x d H2 H3 acc k hi hdi h2 e ⟨rfl, hx⟩ hk
    exact hs D i x d _ acc k hD hx hdi h2 e hk
  · refine .inr ⟨s, fun D hD => buildL walk_tup hD ds hl hsz (fun H' e => Same.seqT e s) ?_ (fun H' acc e h p => hd D H' acc hD e h p)⟩
    rintro i x d H2 H3 acc k hi hdi h2 e ⟨rfl, hx⟩ hk
    exact hs D i x d _ acc k hD hx hdi h2 e hk
/-- with a test -/
theorem seqS {K : PySem.W.Frag} {te0 te : TE} {tt : TT} {g : TG} {vs : List Nat} {σ : L2.St} {H H1 : Hp} {Q : VK} {a : Addr} {xs : List V} (hte : ∀ k : VK, k (.ref a) H1 → te0 σ H k) (s : SqL K H1 a xs ∨ SqT K H1 a xs) (sel : Nat → Option PyData) (hsz : xs.length ≤ 100000)
    (hs : ∀ (D : Addr) (i : Nat) (x : V) (H2 : Hp) (acc : List V) (k : VK) (kn : Hp → Prop), H1 D = none → xs[i]? = some x → H2 D = some (.lst acc) → Same H1 H2 → (∀ y H6 d, Same H2 H6 → sel i = some d → Dt K H6 y d → k y H6) → (∀ H5, Same H2 H5 → sel i = none → kn H5) →
      g x (wipe σ vs) H2 fun σ2 H4 => wipe σ2 vs = wipe σ vs ∧ tt σ2 H4 fun b H5 => if b = true then te σ2 H5 k else kn H5)
    (hd : ∀ (D : Addr) (H' : Hp) (acc : List V), H1 D = none → Same H1 H' → H' D = some (.lst acc) → DtAll K H' acc (selTo sel xs.length) → Q (.ref D) H') : tLc (iSeq K te0) g tt te vs σ H Q := by
  refine hte _ ⟨a, xs, rfl, ?_⟩
  rcases s with s | s
  · refine .inl ⟨s, fun D hD => build walk_list hD hsz (fun H v d => Dt K H v d) stands_dt sel (fun H' e => e.seq s) ?_ (fun H' acc e h p => hd D H' acc hD e h (dpall_of p))⟩
    rintro i x H2 H3 acc k kn hi h2 e ⟨rfl, hx⟩ hk hn
    exact hs D i x _ acc k kn hD hx h2 e hk hn
  · refine .inr ⟨s, fun D hD => build walk_tup hD hsz (fun H v d => Dt K H v d) stands_dt sel (fun H' e => Same.seqT e s) ?_ (fun H' acc e h p => hd D H' acc hD e h (dpall_of p))⟩
    rintro i x H2 H3 acc k kn hi h2 e ⟨rfl, hx⟩ hk hn
    exact hs D i x _ acc k kn hD hx h2 e hk hn
/-- the items that keep p, by f -/
def selIf {α : Type} (p : α → Bool) (f : α → PyData) (l : List α) : Nat → Option PyData := fun i => l[i]?.bind fun a => if p a = true then some (f a) else none
theorem selIf_yes {α : Type} {p : α → Bool} {f : α → PyData} {l : List α} {i : Nat} {a : α} (h : l[i]? = some a) (c : p a = true) : selIf p f l i = some (f a) := by
  unfold selIf
  rw [h]
  exact if_pos c
theorem selIf_no {α : Type} {p : α → Bool} {f : α → PyData} {l : List α} {i : Nat} {a : α} (h : l[i]? = some a) (c : p a = false) : selIf p f l i = none := by
  unfold selIf
  rw [h]
  exact if_neg (by rw [c]; decide)
theorem selTo_filter {α : Type} (p : α → Bool) (f : α → PyData) (l : List α) : selTo (selIf p f l) l.length = (l.filter p).map f := by
  have h : ∀ n, n ≤ l.length → selTo (selIf p f l) n = ((l.take n).filter p).map f := by
    intro n
    induction n with
    | zero => intro _; rw [List.take_zero]; rfl
    | succ n ih =>
      intro hn
      have e : l[n]? = some l[n] := List.getElem?_eq_getElem (by omega)
      rw [selTo_succ, ih (by omega), List.take_add_one, e, List.filter_append, List.map_append]
      congr 1
      show _ = (List.filter p [l[n]]).map f
      by_cases c : p l[n] = true
      · rw [selIf_yes e c, List.filter_cons_of_pos c]
        rfl
      · rw [selIf_no e (Bool.eq_false_iff.mpr c), List.filter_cons_of_neg c]
        rfl
  rw [h l.length (Nat.le_refl _), List.take_length]
theorem lst_dp {K : PySem.W.Frag} {H : Hp} {D : Addr} {acc : List V} {ds : List PyData} (h : H D = some (.lst acc)) (a : DpAll K (but H D) acc ds) : Dp K H (.ref D) (.list ds) := .lst (SqL.of h) (DpAll.mono same_of_but a)
theorem lst_dt {K : PySem.W.Frag} {H : Hp} {D : Addr} {acc : List V} {ds : List PyData} (h : H D = some (.lst acc)) (a : DtAll K H acc ds) : Dp K H (.ref D) (.list ds) := .lst (SqL.of h) (DtAll.dp a)
/-- a list of tuples alone, in a heap without E's list -/
theorem lst_dt_but {K : PySem.W.Frag} {H : Hp} {D E : Addr} {acc ys : List V} {ds : List PyData} (h : H D = some (.lst acc)) (a : DtAll K H acc ds) (hE : H E = some (.lst ys)) (ne : D ≠ E) : Dp K (but H E) (.ref D) (.list ds) :=
  .lst (SqL.of (by rw [but_ne ne]; exact h)) (DpAll.mono (tups_but hE) a)
end Gc

set_option Elab.async false
set_option linter.all false
set_option maxRecDepth 100000
set_option maxHeartbeats 4000000
namespace Gc
open PySem PySem.Spec PyProof.Rows L2 RZ

/-! ### an order of the doves -/
def rgI (n : Nat) : List Int := (List.range n).map fun i => ((i : Nat) : Int)
theorem rgI_len (n : Nat) : (rgI n).length = n := by unfold rgI; rw [List.length_map, List.length_range]
theorem rgI_get {n i : Nat} (h : i < n) : (rgI n)[i]? = some (i : Int) := by
  unfold rgI
  rw [List.getElem?_map, List.getElem?_range h]
  rfl
theorem rgI_mem {n : Nat} {x : Int} : x ∈ rgI n ↔ 0 ≤ x ∧ x < (n : Int) := by
  unfold rgI
  rw [List.mem_map]
  constructor
  · rintro ⟨i, hi, rfl⟩
    have := List.mem_range.mp hi
    omega
  · rintro ⟨h0, h1⟩
    exact ⟨x.toNat, List.mem_range.mpr (by omega), by omega⟩
theorem rgI_nodup (n : Nat) : (rgI n).Nodup := by
  unfold rgI
  refine List.Pairwise.map _ (fun a b h => ?_) List.nodup_range
  intro e
  exact h (by omega)
theorem rgV_ints (n : Nat) : rgV 0 (n : Int) = (rgI n).map V.int := by
  unfold rgV rgI
  rw [List.map_map]
  have e : ((n : Int) - 0).toNat = n := by omega
  rw [e]
  apply List.map_congr_left
  intro a _
  show V.int (0 + (a : Int)) = V.int (a : Int)
  rw [Int.zero_add]
def toI : V → Int
  | .int i => i
  | _ => 0
theorem perm_ints {ys : List V} {l : List Int} (h : ys.Perm (l.map V.int)) : ∃ o : List Int, o.Perm l ∧ ys = o.map V.int := by
  refine ⟨ys.map toI, ?_, ?_⟩
  · have := h.map toI
    rw [List.map_map] at this
    have e : l.map (toI ∘ V.int) = l := by
      have : (toI ∘ V.int) = id := rfl
      rw [this, List.map_id]
    rw [e] at this
    exact this
  · rw [List.map_map]
    have : ∀ y ∈ ys, (V.int ∘ toI) y = y := fun y hy => by
      obtain ⟨i, _, e⟩ := List.mem_map.mp (h.mem_iff.mp hy)
      rw [← e]
      rfl
    have e := List.map_congr_left this
    rw [e, List.map_id']
theorem idxI_get : ∀ {l : List Int} {a : Int}, a ∈ l → l[(idxI l a).toNat]? = some a
  | x :: r, a, h => by
    unfold idxI
    by_cases e : x = a
    · rw [if_pos e, ← e]
      rfl
    · rw [if_neg e]
      have m := (List.mem_cons.mp h).resolve_left fun z => e z.symm
      have q := idxI_get m
      have b := idxI_lt m
      have t : (idxI r a + 1).toNat = (idxI r a).toNat + 1 := by omega
      rw [t]
      exact q
theorem idxI_first : ∀ {l : List Int} {a z : Int} {m : Nat}, m < (idxI l a).toNat → l[m]? = some z → z ≠ a
  | [], _, _, _, h, _ => by unfold idxI at h; omega
  | x :: r, a, z, m, h, hz => by
    unfold idxI at h
    by_cases e : x = a
    · rw [if_pos e] at h
      omega
    · rw [if_neg e] at h
      cases m with
      | zero =>
        have : x = z := by simpa using hz
        rw [← this]
        exact e
      | succ m =>
        exact idxI_first (l := r) (m := m) (by omega) (by simpa using hz)
structure OrderOk (n : Nat) (order : List Int) : Prop where
  len : order.length = n
  nd : order.Nodup
  mem : ∀ x, x ∈ order ↔ 0 ≤ x ∧ x < (n : Int)
theorem OrderOk.of {n : Nat} {order : List Int} (h : order.Perm (rgI n)) : OrderOk n order :=
  ⟨by rw [h.length_eq, rgI_len], h.nodup_iff.mpr (rgI_nodup n), fun x => by rw [h.mem_iff]; exact rgI_mem⟩
/-- the order that undoes it -/
def invI (order : List Int) : List Int := (rgI order.length).map (idxI order)
section
variable {n : Nat} {order : List Int} {S : List (List Gr)}
theorem OrderOk.inv (o : OrderOk n order) : OrderOk n (invI order) := by
  have inj : ∀ x y, x ∈ order → y ∈ order → idxI order x = idxI order y → x = y := fun x y hx hy e => by
    have a := idxI_get hx
    have b := idxI_get hy
    rw [e, b] at a
    exact (Option.some.inj a).symm
  refine ⟨by unfold invI; rw [List.length_map, rgI_len, o.len], ?_, fun x => ?_⟩
  · unfold invI
    rw [List.Nodup, List.pairwise_map]
    refine List.Pairwise.imp_of_mem (R := fun a b => a ≠ b) ?_ (rgI_nodup order.length)
    intro a b ha hb ne e
    rw [o.len] at ha hb
    exact ne (inj a b ((o.mem a).mpr (rgI_mem.mp ha)) ((o.mem b).mpr (rgI_mem.mp hb)) e)
  · unfold invI
    rw [List.mem_map]
    constructor
    · rintro ⟨y, hy, rfl⟩
      rw [o.len] at hy
      have := idxI_lt ((o.mem y).mpr (rgI_mem.mp hy))
      rw [o.len] at this
      exact this
    · rintro ⟨h0, h1⟩
      have hl : x.toNat < order.length := by rw [o.len]; omega
      have hg : order[x.toNat]? = some order[x.toNat] := List.getElem?_eq_getElem hl
      refine ⟨order[x.toNat], ?_, ?_⟩
      · rw [o.len]
        exact rgI_mem.mpr ((o.mem _).mp (List.mem_of_getElem? hg))
      · rw [idxI_at o.nd hg]
        omega
theorem called_len : (calledM S order).length = order.length := by unfold calledM; rw [List.length_map]
theorem called_get {i : Nat} {x : Int} {h : List Gr} (hi : order[i]? = some x) (hx : S[x.toNat]? = some h) : (calledM S order)[i]? = some (renumM (idxI order) h) := by
  unfold calledM
  rw [List.getElem?_map, hi]
  show some (renumM (idxI order) (S.getD x.toNat [])) = _
  rw [List.getD_eq_getElem?_getD, hx]
  rfl
theorem called_back (o : OrderOk S.length order) (hp : ∀ h ∈ S, ∀ g ∈ h, 0 ≤ g.1 ∧ g.1 < (S.length : Int)) : calledM (calledM S order) (invI order) = S := by
  have oi := o.inv
  apply List.ext_getElem?
  intro i
  by_cases hi : i < S.length
  · have hS : S[i]? = some S[i] := List.getElem?_eq_getElem hi
    have im : (i : Int) ∈ order := (o.mem _).mpr ⟨by omega, by omega⟩
    have g1 : (invI order)[i]? = some (idxI order (i : Int)) := by
      unfold invI
      rw [List.getElem?_map, rgI_get (by rw [o.len]; exact hi)]
      rfl
    have lt := idxI_lt im
    have g2 : (calledM S order)[(idxI order (i : Int)).toNat]? = some (renumM (idxI order) S[i]) := called_get (idxI_get im) (by rw [show ((i : Nat) : Int).toNat = i by omega]; exact hS)
    rw [called_get g1 g2, hS]
    congr 1
    unfold renumM
    rw [List.map_map]
    have : ∀ g ∈ S[i], ((fun g : Gr => (idxI (invI order) g.1, g.2)) ∘ fun g : Gr => (idxI order g.1, g.2)) g = g := fun g hg => by
      have b := hp S[i] (List.getElem_mem hi) g hg
      show ((idxI (invI order) (idxI order g.1), g.2) : Gr) = g
      have g3 : (invI order)[g.1.toNat]? = some (idxI order g.1) := by
        unfold invI
        rw [List.getElem?_map, rgI_get (by rw [o.len]; omega)]
        show some (idxI order ((g.1.toNat : Nat) : Int)) = _
        rw [Int.toNat_of_nonneg b.1]
      rw [idxI_at oi.nd g3, Int.toNat_of_nonneg b.1]
    rw [List.map_congr_left this, List.map_id']
  · rw [List.getElem?_eq_none (by rw [called_len, oi.len]; omega), List.getElem?_eq_none (by omega)]
theorem called_mem {h : List Gr} (o : OrderOk S.length order) (hh : h ∈ calledM S order) : ∃ k ∈ S, h = renumM (idxI order) k := by
  unfold calledM at hh
  obtain ⟨x, hx, rfl⟩ := List.mem_map.mp hh
  have b := (o.mem x).mp hx
  have hl : x.toNat < S.length := by omega
  refine ⟨S[x.toNat], List.getElem_mem hl, ?_⟩
  rw [List.getD_eq_getElem?_getD, List.getElem?_eq_getElem hl]
  rfl
theorem called_plain (o : OrderOk S.length order) (p : Plain (S.length : Int) S) : Plain (S.length : Int) (calledM S order) := fun h hh g hg => by
  obtain ⟨k, hk, rfl⟩ := called_mem o hh
  unfold renumM at hg
  obtain ⟨e, he, rfl⟩ := List.mem_map.mp hg
  have q := p k hk e he
  have b := idxI_lt ((o.mem e.1).mpr ⟨q.1, q.2.1⟩)
  rw [o.len] at b
  exact ⟨b.1, b.2, q.2.2⟩
theorem called_short {m : Nat} (o : OrderOk S.length order) (s : Short m S) : Short m (calledM S order) := ⟨by rw [called_len, o.len]; exact s.1, fun h hh => by
  obtain ⟨k, hk, rfl⟩ := called_mem o hh
  unfold renumM
  rw [List.length_map]
  exact s.2 k hk⟩
theorem total_le {m : Nat} : ∀ {S : List (List Gr)}, (∀ h ∈ S, h.length ≤ m) → total S ≤ S.length * m
  | [], _ => Nat.zero_le _
  | h :: r, a => by
    have q := total_le (S := r) fun x hx => a x (List.mem_cons_of_mem _ hx)
    have b := a h List.mem_cons_self
    show h.length + total r ≤ (r.length + 1) * m
    rw [Nat.add_mul, Nat.one_mul]
    omega
end
/-! ### one beside another -/
section
variable {S R : List (List Gr)}
theorem beside_len : (besideM S R).length = S.length + R.length := by unfold besideM; rw [List.length_append, List.length_map]
theorem total_app : ∀ {S R : List (List Gr)}, total (S ++ R) = total S + total R
  | [], R => by rw [List.nil_append]; show _ = 0 + total R; rw [Nat.zero_add]
  | h :: r, R => by
    rw [List.cons_append]
    show h.length + total (r ++ R) = h.length + total r + total R
    rw [total_app (S := r), Nat.add_assoc]
theorem total_renum (f : Int → Int) : ∀ {R : List (List Gr)}, total (R.map (renumM f)) = total R
  | [] => rfl
  | h :: r => by
    rw [List.map_cons]
    show (renumM f h).length + total (r.map (renumM f)) = h.length + total r
    rw [total_renum f (R := r)]
    unfold renumM
    rw [List.length_map]
theorem beside_total : total (besideM S R) = total S + total R := by unfold besideM; rw [total_app, total_renum]
theorem beside_ok (a : OkS S) (b : OkS R) : OkS (besideM S R) := by
  intro i h hi g hg
  rw [beside_len]
  unfold besideM at hi
  by_cases e : i < S.length
  · rw [List.getElem?_append_left e] at hi
    have q := a i h hi g hg
    exact ⟨q.1, by omega, q.2.2⟩
  · rw [List.getElem?_append_right (by omega), List.getElem?_map] at hi
    cases hk : R[i - S.length]? with
    | none => rw [hk] at hi; cases hi
    | some k =>
      rw [hk] at hi
      have hi : renumM (fun a => (S.length : Int) + a) k = h := Option.some.inj hi
      rw [← hi] at hg
      unfold renumM at hg
      obtain ⟨e', he, rfl⟩ := List.mem_map.mp hg
      have q := b (i - S.length) k hk e' he
      exact ⟨show 0 ≤ (S.length : Int) + e'.1 by omega, show (S.length : Int) + e'.1 < ((S.length + R.length : Nat) : Int) by omega, show (S.length : Int) + e'.1 ≠ (i : Int) by omega, q.2.2.2⟩
end
/-! ### readings -/
theorem flat_ints (l : List Int) : (l.map V.int).all flatV = true := by
  rw [List.all_map]
  exact List.all_eq_true.mpr fun x _ => rfl
def teIdx (K : PySem.W.Frag) (o i : Nat) : TE := tBM K "list" (rIndex K) (tVar o) (tCons (tVar i) tNil)
theorem read_idx {K : PySem.W.Frag} {σ : L2.St} {H : Hp} {Q : VK} {tp : Addr} {order : List Int} {o i : Nat} {a : Int} (ho : σ[o]? = some (some (.ref tp))) (hi : σ[i]? = some (some (.int a))) (ht : H tp = some (.lst (order.map V.int))) (hm : a ∈ order) (q : Q (.int (idxI order a)) H) : teIdx K o i σ H Q := by
  have lt := idxI_lt hm
  refine ⟨_, ho, .inl ⟨rfl, _, SqL.of ht⟩, _, hi, tp, order.map V.int, .int a, (idxI order a).toNat, .int a, rfl, rfl, SqL.of ht, rfl, flat_ints _, ?_, ?_, fun m z hm' hz => ?_, ?_⟩
  · rw [List.getElem?_map, idxI_get hm]
    rfl
  · show (a == a) = true
    exact beq_self_eq_true a
  · rw [List.getElem?_map] at hz
    cases e : order[m]? with
    | none => rw [e] at hz; cases hz
    | some z' =>
      rw [e] at hz
      cases hz
      show (z' == a) = false
      exact beq_eq_false_iff_ne.mpr (idxI_first hm' e)
  · rw [Int.toNat_of_nonneg lt.1]
    exact q
section
variable {K : PySem.W.Frag} {H : Hp} {v : V} {g : Gr}
/-- a grudge that stands -/
theorem gr_t (h : Dt K H v (dG g)) : ∃ a, v = .ref a ∧ SqU K H a [.int g.1, .str g.2] := by
  obtain ⟨a, xs, rfl, s, t⟩ := Dt.inv h
  cases t with
  | cons h1 t1 =>
    cases t1 with
    | cons h2 t2 =>
      cases t2 with
      | nil =>
        cases h1
        cases h2
        exact ⟨a, rfl, s⟩
theorem gr_mk {p : Addr} {i : Int} {x : Str} : Dt K (upd H p (.tup [.int i, .str x])) (.ref p) (dG (i, x)) := Dt.mk upd_same (.cons (.int _) (.cons (.str _) .nil))
theorem dt_got {vs : List V} {ds : List PyData} {i : Nat} {d : PyData} (h : DtAll K H vs ds) (e : ds[i]? = some d) : ∃ v, vs[i]? = some v ∧ Dt K H v d := DpAll.got h e
theorem dt_get {vs : List V} {ds : List PyData} {i : Nat} {v : V} (h : DtAll K H vs ds) (e : vs[i]? = some v) : ∃ d, ds[i]? = some d ∧ Dt K H v d := DpAll.get h e
/-- an item of a list of f's -/
theorem map_get {α β : Type} {f : α → β} {xs : List α} {i : Nat} {b : β} (h : (xs.map f)[i]? = some b) : ∃ a, xs[i]? = some a ∧ b = f a := by
  rw [List.getElem?_map] at h
  cases e : xs[i]? with
  | none => rw [e] at h; cases h
  | some a => rw [e] at h; exact ⟨a, rfl, (Option.some.inj h).symm⟩
/-- where one list's items are the other's, item by item -/
theorem map_at {α β : Type} {f : α → β} {xs : List α} {i : Nat} {a : α} (h : xs[i]? = some a) : (xs.map f)[i]? = some (f a) := by
  rw [List.getElem?_map, h]
  rfl
end
/-- a heap as a list -/
def dL (h : List Gr) : PyData := .list (h.map dG)
/-! ### a step into a reading -/
section
variable {σ : L2.St} {H : Hp} {i : Nat} {v : V} {Q : VK} {k : L2.St → Hp → Prop} {t u : TS} {D : Ends} {te : TE} {g : TG} {ta tr : TA} {r : List V → Hp → VK → Prop} {c : TT}
theorem to_name (h : k (σ.set i (some v)) H) : gName i v σ H k := h
/-- the slots, written out -/
theorem to_slots {p : L2.St → Hp → Prop} (σ' : L2.St) (e : σ = σ') (h : p σ' H) : p σ H := e ▸ h
theorem to_setS {j : Nat} (σ' : L2.St) (e : σ = σ') (h : te σ' H fun x H1 => gName j x σ' H1 (u D)) : tSeq (tAsg te (gName j)) u D σ H := e ▸ h
theorem to_nameS (σ' : L2.St) (e : σ.set i (some v) = σ') (h : k σ' H) : gName i v σ H k := by
  show k (σ.set i (some v)) H
  rw [e]
  exact h
theorem to_nx {f : L2.St → Hp → Prop} {r : VK} {b d : L2.St → Hp → Prop} (h : f σ H) : Ends.nx { nx := f, rt := r, bk := b, ct := d } σ H := h
/-- what stands behind a stored name -/
theorem to_next {f : L2.St → Hp → Prop} {r : VK} {b d : L2.St → Hp → Prop} (h : f (σ.set i (some v)) H) : gName i v σ H (Ends.nx { nx := f, rt := r, bk := b, ct := d }) := h
theorem to_seq (h : t { D with nx := u D } σ H) : tSeq t u D σ H := h
theorem to_asg (h : te σ H fun x H1 => g x σ H1 D.nx) : tAsg te g D σ H := h
theorem to_set (h : te σ H fun x H1 => gName i x σ H1 (u D)) : tSeq (tAsg te (gName i)) u D σ H := h
theorem to_cb (h : ta σ H fun vs H1 => r vs H1 Q) : tCB r ta σ H Q := h
theorem to_cons {q : List V → Hp → Prop} (h : te σ H fun x H1 => tr σ H1 fun xs H2 => q (x :: xs) H2) : tCons te tr σ H q := h
theorem to_nopart {k : Option Int → Hp → Prop} (h : k none H) : tNoPart σ H k := h
theorem to_ret (h : te σ H D.rt) : tRet te D σ H := h
theorem to_call {sp : Sp} {dvs : List V} {E : XK} (h : ta σ H fun vs H1 => sp (vs ++ dvs) H1 Q E) : tCall sp dvs E ta σ H Q := h
theorem to_if (h : c σ H fun b H1 => if b = true then t D σ H1 else u D σ H1) : tIfS c t u D σ H := h
end
/-! ### data of no great size -/
structure Fine (d : PyData) (w k : Nat) : Prop where
  tame : tame d = true
  weight : d.weight ≤ w
  depth : d.depth ≤ k
structure FineAll (ds : List PyData) (w k : Nat) : Prop where
  tame : tameAll ds = true
  weight : PyData.weightAll ds ≤ w
  depth : PyData.depthAll ds ≤ k
section
variable {d : PyData} {ds : List PyData} {a b w k : Nat}
theorem Fine.mono (f : Fine d a k) (h : a ≤ w) (h2 : k ≤ b) : Fine d w b := ⟨f.tame, Nat.le_trans f.weight h, Nat.le_trans f.depth h2⟩
theorem FineAll.nil : FineAll [] 0 k := ⟨by rw [tameAll], by rw [PyData.weightAll]; exact Nat.le_refl _, by rw [PyData.depthAll]; exact Nat.zero_le _⟩
theorem FineAll.cons (f : Fine d a k) (g : FineAll ds b k) : FineAll (d :: ds) (a + 1 + b) k := by
  refine ⟨by rw [tameAll, f.tame, g.tame]; rfl, ?_, ?_⟩
  · rw [PyData.weightAll]
    have := f.weight
    have := g.weight
    omega
  · rw [PyData.depthAll]
    exact Nat.max_le.mpr ⟨f.depth, g.depth⟩
theorem FineAll.list (f : FineAll ds w k) : Fine (.list ds) w (k + 1) := ⟨by rw [Gc.tame]; exact f.tame, by rw [PyData.weight]; exact f.weight, by rw [PyData.depth]; exact Nat.succ_le_succ f.depth⟩
theorem FineAll.tuple (f : FineAll ds w k) : Fine (.tuple ds) w (k + 1) := ⟨by rw [Gc.tame]; exact f.tame, by rw [PyData.weight]; exact f.weight, by rw [PyData.depth]; exact Nat.succ_le_succ f.depth⟩
theorem FineAll.of : ∀ {ds : List PyData}, (∀ d ∈ ds, Fine d w k) → FineAll ds (ds.length * (w + 1)) k
  | [], _ => by rw [List.length_nil, Nat.zero_mul]; exact .nil
  | d :: r, h => by
    have q := FineAll.cons (h d List.mem_cons_self) (FineAll.of (ds := r) fun x hx => h x (List.mem_cons_of_mem _ hx))
    rw [List.length_cons, Nat.add_mul, Nat.one_mul, Nat.add_comm]
    exact q
theorem fine_int {i : Int} (h1 : -100 ≤ i) (h2 : i ≤ 1000) : Fine (.int i) 11 0 := ⟨by rw [tame, decide_eq_true h1, decide_eq_true h2]; rfl, weight_int h1 h2, by rw [PyData.depth]; exact Nat.le_refl _⟩
theorem fine_bool (b : Bool) : Fine (.bool b) 1 0 := ⟨by rw [tame], by rw [PyData.weight]; decide, by rw [PyData.depth]; exact Nat.le_refl _⟩
theorem fine_none : Fine .none 4 0 := ⟨by rw [tame], by rw [PyData.weight]; decide, by rw [PyData.depth]; exact Nat.le_refl _⟩
theorem fine_ints {l : List Int} (h : ∀ x ∈ l, -100 ≤ x ∧ x ≤ 1000) : FineAll (l.map PyData.int) (l.length * 12) 0 := by
  have q := FineAll.of (w := 11) (k := 0) (ds := l.map PyData.int) fun d hd => by
    obtain ⟨x, hx, rfl⟩ := List.mem_map.mp hd
    exact fine_int (h x hx).1 (h x hx).2
  rw [List.length_map] at q
  exact q
theorem fine_S {n : Int} {S : List (List Gr)} (hn : n ≤ 1000) (p : Plain n S) : Fine (dS S) (20 * total S + S.length) 3 := by
  obtain ⟨a, b, c⟩ := dS_ok hn p
  exact ⟨a, b, c⟩
theorem RoomOk.fine {n m : Int} {S : List (List Gr)} (r : RoomOk n m S) (hn : n ≤ 1000) (hw : 20 * m + n ≤ (w : Int)) : Fine (dS S) w 3 := by
  have a := r.many
  have b := r.sum
  exact (fine_S (show (S.length : Int) ≤ 1000 by omega) r.ok.plain).mono (by omega) (Nat.le_refl _)
theorem Fine.repr {K : PySem.W.Frag} {H : Hp} {a : Addr} {Q : VK} (f : Fine d w k) (hv : Dp K H (.ref a) d) (hw : w ≤ mega := by decide) (hk : k ≤ 60 := by decide) (q : Q (.str d.shown) H) : rRepr K [V.ref a] H Q :=
  repr_ok hv f.tame (Nat.le_trans f.weight hw) (Nat.le_trans f.depth hk) q
end
theorem tupledAll_ints : ∀ l : List Int, (l.map PyData.int).map tupled = l.map PyData.int
  | [] => rfl
  | x :: r => by rw [List.map_cons, List.map_cons, tupledAll_ints r, tupled]
theorem tupled_ints (l : List Int) : tupled (.list (l.map PyData.int)) = .tuple (l.map PyData.int) := by rw [tupled, tupledAll_map, tupledAll_ints]
theorem tupled_intsT (l : List Int) : tupled (.tuple (l.map PyData.int)) = .tuple (l.map PyData.int) := by rw [tupled, tupledAll_map, tupledAll_ints]
theorem dp_lints {K : PySem.W.Frag} {H : Hp} {p : Addr} {l : List Int} (h : H p = some (.lst (l.map V.int))) : Dp K H (.ref p) (.list (l.map PyData.int)) := .lst (SqL.of h) (dp_ints l)
theorem dt_tints {K : PySem.W.Frag} {H : Hp} {p : Addr} {l : List Int} (h : H p = some (.tup (l.map V.int))) : Dt K H (.ref p) (.tuple (l.map PyData.int)) := Dt.mk h (dp_ints l)
theorem dpall_ints {K : PySem.W.Frag} {H : Hp} : ∀ {l : List Int} {xs : List V}, DpAll K H xs (l.map PyData.int) → xs = l.map V.int
  | [], _, .nil => rfl
  | x :: r, _, .cons h t => by
    cases h
    rw [dpall_ints t]
    rfl
theorem DpAll.head {K : PySem.W.Frag} {H : Hp} {v : V} {d : PyData} {vs : List V} {ds : List PyData} (a : DpAll K H (v :: vs) (d :: ds)) : Dp K H v d := by
  cases a
  assumption
mutual
theorem listed_same : ∀ d : PyData, tame (listed d) = tame d ∧ (listed d).weight = d.weight ∧ (listed d).depth = d.depth
  | .none => by rw [listed]; exact ⟨rfl, rfl, rfl⟩
  | .bool b => by rw [listed]; exact ⟨rfl, rfl, rfl⟩
  | .int i => by rw [listed]; exact ⟨rfl, rfl, rfl⟩
  | .str x => by rw [listed]; exact ⟨rfl, rfl, rfl⟩
  | .dict kvs => by rw [listed]; exact ⟨rfl, rfl, rfl⟩
  | .list xs => by
    obtain ⟨a, b, c⟩ := listedAll_same xs
    rw [listed, tame, tame, PyData.weight, PyData.weight, PyData.depth, PyData.depth, a, b, c]
    exact ⟨rfl, rfl, rfl⟩
  | .tuple xs => by
    obtain ⟨a, b, c⟩ := listedAll_same xs
    rw [listed, tame, tame, PyData.weight, PyData.weight, PyData.depth, PyData.depth, a, b, c]
    exact ⟨rfl, rfl, rfl⟩
theorem listedAll_same : ∀ ds : List PyData, tameAll (listedAll ds) = tameAll ds ∧ PyData.weightAll (listedAll ds) = PyData.weightAll ds ∧ PyData.depthAll (listedAll ds) = PyData.depthAll ds
  | [] => by rw [listedAll]; exact ⟨rfl, rfl, rfl⟩
  | d :: ds => by
    obtain ⟨a, b, c⟩ := listed_same d
    obtain ⟨a', b', c'⟩ := listedAll_same ds
    rw [listedAll, tameAll, tameAll, PyData.weightAll, PyData.weightAll, PyData.depthAll, PyData.depthAll, a, b, c, a', b', c']
    exact ⟨rfl, rfl, rfl⟩
end
theorem Fine.listed {d : PyData} {w k : Nat} (f : Fine d w k) : Fine (listed d) w k := by
  obtain ⟨a, b, c⟩ := listed_same d
  exact ⟨by rw [a]; exact f.tame, by rw [b]; exact f.weight, by rw [c]; exact f.depth⟩
theorem Fine.eqv {d : PyData} {w k : Nat} (f : Fine d w k) : PyData.eqv d d = true := SeqAt.eqv_refl d (tame_show f.tame).2.2.2
theorem fine_str {x : Str} (h : x ∈ menu) : Fine (.str x) 6 0 := by
  obtain ⟨a, b, _⟩ := menu_tame h
  exact ⟨a, by rw [PyData.weight]; exact b, by rw [PyData.depth]; exact Nat.le_refl _⟩
theorem fine_G {n : Int} {g : Gr} (hn : n ≤ 1000) (a : 0 ≤ g.1 ∧ g.1 < n ∧ g.2 ∈ menu) : Fine (dG g) 19 1 := by
  obtain ⟨x, y, z⟩ := dG_ok hn a
  exact ⟨x, y, Nat.le_of_eq z⟩
/-- what was made stands while the box turns -/
theorem new_on {b : Addr} {H0 H1 H2 H3 : Hp} (hb : BoxAt H0 b) (e : Same H1 H2) (s : Step b H2 H3) : Same (newOf H0 H1) H3 := fun a o q => by
  obtain ⟨q1, q2⟩ := newOf_some q
  exact s.old a o (Ne.symm (hb.ne q1)) (e a o q2)
/-! ### range, from 0 on -/
theorem for_rg {ta : TA} {g : TG} {tb : TS} {E : Ends} {σ : L2.St} {H H1 : Hp} {n : Nat} (hta : ∀ k : List V → Hp → Prop, k [.int (n : Int)] H1 → ta σ H k) (hn : n ≤ 100000) (Pv : Nat → L2.St → Hp → Prop) (h0 : Pv 0 σ H1)
    (hs : ∀ i σ' H', i < n → Pv i σ' H' → g (.int (i : Int)) σ' H' fun σ2 H2 => tb { E with nx := Pv (i + 1), ct := Pv (i + 1), bk := E.nx } σ2 H2) (hd : ∀ σ' H', Pv n σ' H' → E.nx σ' H') : tFor (iRng1 ta) g tb E σ H := by
  refine hta _ ⟨(n : Int), rfl, by omega, by omega, ?_⟩
  have e : ((n : Nat) : Int).toNat = n := by omega
  rw [e]
  refine for_range (lo := 0) (n := n) Pv h0 (fun i σ' H' hi p => ?_) hd
  rw [Int.zero_add]
  exact hs i σ' H' hi p
theorem lc_rgT {K : PySem.W.Frag} {ta : TA} {g : TG} {te : TE} {vs : List Nat} {σ : L2.St} {H H1 : Hp} {Q : VK} {n : Nat} (hta : ∀ k : List V → Hp → Prop, k [.int (n : Int)] H1 → ta σ H k) (ds : List PyData) (hl : ds.length = n) (hn : n ≤ 100000)
    (hs : ∀ (D : Addr) (i : Nat) (d : PyData) (H2 : Hp) (acc : List V) (k : VK), H1 D = none → i < n → ds[i]? = some d → H2 D = some (.lst acc) → Same H1 H2 → (∀ y H6, Same H2 H6 → Dt K H6 y d → k y H6) → g (.int (i : Int)) (wipe σ vs) H2 fun σ2 H4 => wipe σ2 vs = wipe σ vs ∧ te σ2 H4 k)
    (hd : ∀ (D : Addr) (H' : Hp) (acc : List V), H1 D = none → Same H1 H' → H' D = some (.lst acc) → DtAll K H' acc ds → Q (.ref D) H') : tLc (iRng1 ta) g tYes te vs σ H Q := by
  refine hta _ ⟨(n : Int), rfl, by omega, by omega, fun D hD => ?_⟩
  have e : ((n : Nat) : Int).toNat = n := by omega
  rw [e]
  refine buildT (walk_range (lo := 0) (n := n)) hD ds hl hn (fun _ _ => trivial) ?_ (fun H' acc e1 h a => hd D H' acc hD e1 h a)
  rintro i x d H2 H3 acc k hi hdi h2 e2 ⟨rfl, rfl⟩ hk
  have z : (0 : Int) + ((i : Nat) : Int) = (i : Int) := Int.zero_add _
  show g (.int ((0 : Int) + ((i : Nat) : Int))) _ _ _
  rw [z]
  exact hs D i d _ acc k hD hi hdi h2 e2 hk
end Gc

set_option Elab.async false
set_option linter.all false
set_option maxRecDepth 100000
set_option maxHeartbeats 4000000
namespace Gc
open PySem PySem.Spec PyProof.Rows L2 RZ
def top (i : Nat) : Stmt := PySem.Challenge.pw_grudgecote_k02_what_lies_where.main.body.getD i (.Pass ⟨0, 0, 0, 0⟩)

/-! ### the law's common helpers -/
abbrev sBox : Stmt := top 11
abbrev sTake : Stmt := top 12
section
variable {P : Program} {w : World} {K : PySem.W.Frag} {mg : Str → Option Value} {base : Heap}
/-- a draw below m -/
def spTake : Sp := fun vs H Q _ => ∃ (b : Addr) (m : Int), vs = [.ref b, .int m] ∧ BoxAt H b ∧ 0 < m ∧ m < 1073741824 ∧ ∀ (r : Int) (H' : Hp), 0 ≤ r → r < m → Step b H H' → Q (.int r) H'
theorem scTake : FnScope ["_law_box_here", "_law_many", "_law_found", "_law_blend"] ["_law_box_here", "_law_many"] (defScope sTake) := ⟨rfl, rfl, rfl, by decide +kernel, rfl, by decide +kernel, by decide +kernel⟩
theorem stepBox {b : Addr} {H : Hp} (x y z : Int) : Step b H (upd H b (.lst [.int x, .int y, .int z])) := ⟨⟨x, y, z, upd_same⟩, fun a o n e => by rw [upd_ne n]; exact e⟩
theorem ok_take {f : Addr} {fd : FuncData} (F : Fun K "_law_take" "_law_take" sTake f fd) : FnOk P w K mg base CX0 1 f fd ["_law_box_here", "_law_many"] spTake := by
  refine F.ok scTake (fun vs H Q E h => ?_) (fun cdv A outer s H vs Q E hr h => ?_)
  · obtain ⟨b, m, rfl, _⟩ := h
    rfl
  obtain ⟨b, m, rfl, ⟨x, y, z, hb⟩, m0, m1, q⟩ := h
  refine ⟨_, pss_cons (ps_if (pt_cmpR op_gt (pe_ix ix_list (pv 0) pe_int (fun _ _ => rfl)) pe_int (nomark _))
      (pss_cons (ps_set (i := 2) scTake.nd rfl (Or.inl rfl) (pe_op op_mod (pe_ix ix_list (pv 0) pe_int (fun _ _ => rfl)) (pv 1)))
        (pss_cons (ps_asg (pe_op op_fdiv (pe_ix ix_list (pv 0) pe_int (fun _ _ => rfl)) (pv 1)) (pg_sub (pv 0) pe_int set_list))
          (pss_one (ps_ret (pv 2))))) pss_nil)
    (pss_cons (ps_asg (pe_op op_add (pe_ix ix_list (pv 0) pe_int (fun _ _ => rfl)) pe_int) (pg_sub (pv 0) pe_int set_list))
    (pss_cons (ps_set (i := 3) scTake.nd rfl (Or.inl rfl) (pe_op op_mod (pe_op op_add (pe_ix ix_list (pv 0) pe_int (fun _ _ => rfl)) (pe_op op_mul pe_int (pe_ix ix_list (pv 0) pe_int (fun _ _ => rfl)))) pe_int))
    (pss_cons (ps_set (i := 3) scTake.nd rfl (Or.inl rfl) (pe_op op_mod (pe_op op_add (pe_op op_add (pe_op op_mul (pv 3) (pv 3)) (pe_op op_mul pe_int (pe_ix ix_list (pv 0) pe_int (fun _ _ => rfl)))) pe_int) pe_int))
    (pss_cons (ps_set (i := 3) scTake.nd rfl (Or.inl rfl) (pe_op op_mod (pe_op op_add (pe_op op_mul (pv 3) (pe_op op_add (pe_op op_fdiv (pv 3) pe_int) pe_int)) (pe_ix ix_list (pv 0) pe_int (fun _ _ => rfl))) pe_int))
    (pss_one (ps_ret (pe_op op_mod (pe_op op_fdiv (pv 3) pe_int) (pv 1)))))))), ?_⟩
  refine ⟨_, rfl, b, _, _, _, rfl, rfl, SqL.of hb, rfl, _, _, rfl, rfl, _, rfl, ?_⟩
  refine ite2 (fun c => ?_) (fun c => ?_)
  · refine ⟨_, rfl, b, _, _, _, rfl, rfl, SqL.of hb, rfl, _, rfl, _, _, rfl, rfl, m0, ?_⟩
    refine ⟨_, rfl, b, _, _, _, rfl, rfl, SqL.of hb, rfl, _, rfl, _, _, rfl, rfl, ⟨m0, m1⟩, ?_⟩
    refine ⟨_, rfl, b, _, _, _, rfl, rfl, hb, rfl, ?_⟩
    exact ⟨_, rfl, q _ _ (Int.emod_nonneg _ (by omega)) (Int.emod_lt_of_pos _ m0) (stepBox _ _ _)⟩
  · refine ⟨_, rfl, b, _, _, _, rfl, rfl, SqL.of hb, rfl, _, _, rfl, rfl, ?_⟩
    refine ⟨_, rfl, b, _, _, _, rfl, rfl, hb, rfl, ?_⟩
    have hb2 : (upd H b (.lst [V.int x, V.int y, V.int (z + 1)])) b = some (.lst [V.int x, V.int y, V.int (z + 1)]) := upd_same
    refine ⟨_, rfl, b, _, _, _, rfl, rfl, SqL.of hb2, rfl, _, rfl, b, _, _, _, rfl, rfl, SqL.of hb2, rfl, _, _, rfl, rfl, .inl ⟨by decide, by decide⟩, _, _, rfl, rfl, _, _, rfl, rfl, (by show (0 : Int) < 2305843009213693951; decide), ?_⟩
    generalize e1 : (y + 1442695040888963407 * (z + 1)) % 2305843009213693951 = b1
    have a1 : 0 ≤ b1 := by rw [← e1]; exact Int.emod_nonneg _ (by decide)
    have a2 : b1 < 2305843009213693951 := by rw [← e1]; exact Int.emod_lt_of_pos _ (by decide)
    refine ⟨_, rfl, _, rfl, _, _, rfl, rfl, .inl ⟨by omega, by omega⟩, _, rfl, b, _, _, _, rfl, rfl, SqL.of hb2, rfl, _, _, rfl, rfl, .inl ⟨by decide, by decide⟩, _, _, rfl, rfl, _, _, rfl, rfl, _, _, rfl, rfl, (by show (0 : Int) < 2305843009213693921; decide), ?_⟩
    generalize e2 : (b1 * b1 + 39373 * (z + 1) + 7) % 2305843009213693921 = b2
    have a3 : 0 ≤ b2 := by rw [← e2]; exact Int.emod_nonneg _ (by decide)
    have a4 : b2 < 2305843009213693921 := by rw [← e2]; exact Int.emod_lt_of_pos _ (by decide)
    refine ⟨_, rfl, _, rfl, _, _, rfl, rfl, ⟨by decide, by decide⟩, _, _, rfl, rfl, _, _, rfl, rfl, .inl ⟨by omega, by omega⟩, _, rfl, b, _, _, _, rfl, rfl, SqL.of hb2, rfl, _, _, rfl, rfl, _, _, rfl, rfl, (by show (0 : Int) < 2305843009213693907; decide), ?_⟩
    refine ⟨_, rfl, _, _, rfl, rfl, ⟨by decide, by decide⟩, _, rfl, _, _, rfl, rfl, m0, ?_⟩
    exact q _ _ (Int.emod_nonneg _ (by omega)) (Int.emod_lt_of_pos _ m0) (stepBox _ _ _)
end

section
variable {P : Program} {w : World} {K : PySem.W.Frag} {mg : Str → Option Value} {base : Heap}
/-- a new box -/
def spBox (K : PySem.W.Frag) : Sp := fun vs H Q _ => ∃ (c : Addr) (ms : List Int) (k : Nat), vs = [.ref c, .int (k : Int)] ∧ SqL K H c (ms.map V.int) ∧ k < ms.length ∧ k < 64 ∧ ∀ (p : Addr) (x y z : Int), H p = none → Q (.ref p) (upd H p (.lst [.int x, .int y, .int z]))
theorem scBox : FnScope ["_law_cells_here", "_law_k", "_law_cell"] ["_law_cells_here", "_law_k"] (defScope sBox) := ⟨rfl, rfl, rfl, by decide +kernel, rfl, by decide +kernel, by decide +kernel⟩
theorem ok_box {f : Addr} {fd : FuncData} (F : Fun K "_law_box" "_law_box" sBox f fd) (ma : mg "abs" = none) (mi : mg "int" = none) : FnOk P w K mg base CX0 1 f fd ["_law_cells_here", "_law_k"] (spBox K) := by
  refine F.ok scBox (fun vs H Q E h => ?_) (fun cdv A outer s H vs Q E hr h => ?_)
  · obtain ⟨c, ms, k, rfl, _⟩ := h
    rfl
  obtain ⟨c, ms, k, rfl, hS, hk, hk2, q⟩ := h
  refine ⟨_, pss_cons (ps_set (i := 2) scBox.nd rfl (Or.inl rfl) (pe_ix ix_list (pv 0) (pv 1) (fun _ _ => rfl)))
    (pss_one (ps_ret (pe_lst (pa_cons (pe_op op_mul (pe_callB call_abs (by rfl) ma (by decide +kernel) (pa_cons (pv 2) pa_nil)) (pe_callTy call_int1 (by rfl) mi (by decide +kernel) (pa_cons (pe_cmpR op_ge (pe_callB call_abs (by rfl) ma (by decide +kernel) (pa_cons (pv 2) pa_nil)) (pe_op op_pow pe_int pe_int) (nomark _)) pa_nil)))
      (pa_cons (pe_op op_add (pe_op op_add (pe_op op_mod (pv 2) pe_int) (pe_op op_mul pe_int (pv 1))) pe_int) (pa_cons pe_int pa_nil)))))), ?_⟩
  have hv : atI (ms.map V.int) (k : Int) = some (.int ms[k]) := atI_nat (by rw [List.getElem?_map, List.getElem?_eq_getElem hk]; rfl)
  refine ⟨_, rfl, _, rfl, c, _, _, _, rfl, rfl, hS, hv, ?_⟩
  generalize ms[k] = n
  refine ⟨_, rfl, _, rfl, _, rfl, _, rfl, _, _, rfl, rfl, ⟨by decide, by decide, by decide⟩, _, _, rfl, rfl, .inr ⟨_, rfl, ?_⟩⟩
  generalize e : (if decide ((10 : Int) ^ (18 : Int).toNat ≤ if n < 0 then -n else n) = true then (1 : Int) else 0) = u
  have hu : u = 1 ∨ u = 0 := by
    rw [← e]
    exact ite01 _
  refine ⟨_, _, rfl, rfl, .inr (by rcases hu with hu | hu <;> rw [hu] <;> exact ⟨by decide, by decide⟩), ?_⟩
  refine ⟨_, rfl, _, _, rfl, rfl, (by show (0 : Int) < 2305843009213693951; decide), _, rfl, _, _, rfl, rfl, .inl ⟨by decide, by decide⟩, _, _, rfl, rfl, _, _, rfl, rfl, (by show 3 ≤ sizeLine; decide), fun p hp => ?_⟩
  exact q p _ _ 0 hp
end
abbrev sWord : Stmt := top 16
section
variable {P : Program} {w : World} {K : PySem.W.Frag} {mg : Str → Option Value} {base : Heap}
def spWord : Sp := fun vs H Q _ => ∃ (b : Addr), vs = [.ref b] ∧ BoxAt H b ∧ ∀ (x : Str) (H' : Hp), x ∈ menu → Step b H H' → Q (.str x) H'
theorem scWord : FnScope ["_law_box_here"] ["_law_box_here"] (defScope sWord) := ⟨rfl, rfl, rfl, by decide +kernel, rfl, by decide +kernel, by decide +kernel⟩
theorem step_new {b p : Addr} {H : Hp} {o : HO} (h : BoxAt H b) (hp : H p = none) : Step b H (upd H p o) := .same h (same_new hp o)
theorem ok_word {f ft : Addr} {fd fdt : FuncData} (F : Fun K "_law_word" "_law_word" sWord f fd) (GT : FnOk P w K mg base CX0 1 ft fdt ["_law_box_here", "_law_many"] spTake) (bT : Binds K fdt ["_law_box_here", "_law_many"] [])
    (kT : PySem.W.keepIn K (.ref ft) = true) (mT : mg "_law_take" = some (.ref ft)) : FnOk P w K mg base CX0 2 f fd ["_law_box_here"] spWord := by
  refine F.ok scWord (fun vs H Q E h => ?_) (fun cdv A outer s H vs Q E hr h => ?_)
  · obtain ⟨b, rfl, _⟩ := h
    rfl
  obtain ⟨b, rfl, hb, q⟩ := h
  refine ⟨_, pss_one (ps_ret (pe_ix ix_list (pe_lst (pa_cons pe_str (pa_cons pe_str (pa_cons pe_str (pa_cons pe_str (pa_cons pe_str (pa_cons pe_str (pa_cons pe_str (pa_cons pe_str pa_nil))))))))) (pe_call GT hr rfl mT kT bT .nil pass0 (pa_cons (pv 0) (pa_cons pe_int pa_nil))) (fun _ _ => rfl))), ?_⟩
  refine ⟨(by show 8 ≤ sizeLine; decide), fun p hp => ?_⟩
  have s1 : Step b H (upd H p (.lst (menu.map V.str))) := step_new hb hp
  refine ⟨_, rfl, b, 8, rfl, s1.box, by decide, by decide, fun r H2 r0 r1 s2 => ?_⟩
  have h2 : H2 p = some (.lst (menu.map V.str)) := s2.old p _ (Ne.symm (hb.ne hp)) upd_same
  obtain ⟨x, hx, _, hm⟩ := atI_int (xs := menu) r0 r1
  exact ⟨p, _, _, _, rfl, rfl, SqL.of h2, at_map r0 hx, q _ _ hm (s1.trans s2)⟩
end

abbrev sSame : Stmt := top 14
abbrev nSame : List Str := ["_law_found", "_law_due", "_law_it", "_law_two"]
abbrev pSame : List Str := ["_law_found", "_law_due"]
section
variable {P : Program} {w : World} {K : PySem.W.Frag} {mg : Str → Option Value} {base : Heap}
/-- one and the same datum, nested less than n deep: True -/
def spSame (K : PySem.W.Frag) (n : Nat) : Sp := fun vs H Q _ => ∃ (v u : V) (d : PyData), vs = [v, u] ∧ Dp K H v d ∧ Dp K H u d ∧ d.depth < n ∧ d.weight ≤ mega ∧ ∀ H', Same H H' → Q (.bl true) H'
theorem scSame : FnScope nSame pSame (defScope sSame) := ⟨rfl, rfl, rfl, by decide +kernel, rfl, by decide +kernel, by decide +kernel⟩
theorem same_two {H : Hp} {v u : V} {d : PyData} (hv : Dp K H v d) (hu : Dp K H u d) (c : (isList d || isTuple d) = true) :
    ∃ (a b : Addr) (xs ys : List V) (ds : List PyData), v = .ref a ∧ u = .ref b ∧ ((SqL K H a xs ∧ SqL K H b ys) ∨ (SqT K H a xs ∧ SqT K H b ys)) ∧ DpAll K H xs ds ∧ DpAll K H ys ds ∧ d.depth = PyData.depthAll ds + 1 ∧ d.weight = PyData.weightAll ds := by
  cases d with
  | list ds =>
    obtain ⟨a, xs, e, s, t⟩ := Dp.lst_inv hv
    obtain ⟨b, ys, e2, s2, t2⟩ := Dp.lst_inv hu
    exact ⟨a, b, xs, ys, ds, e, e2, .inl ⟨s, s2⟩, t, t2, by rw [PyData.depth], by rw [PyData.weight]⟩
  | tuple ds =>
    obtain ⟨a, xs, e, s, t⟩ := Dp.tup_inv hv
    obtain ⟨b, ys, e2, s2, t2⟩ := Dp.tup_inv hu
    exact ⟨a, b, xs, ys, ds, e, e2, .inr ⟨s, s2⟩, t, t2, by rw [PyData.depth], by rw [PyData.weight]⟩
  | _ => exact absurd c (by simp [isList, isTuple])
theorem same_step {n : Nat} {f : Addr} {fd : FuncData} (F : Fun K "_law_same" "_law_same" sSame f fd) (bF : Binds K fd pSame []) (mF : mg "_law_same" = some (.ref f)) (T : Nb mg)
    (G : FnOk P w K mg base CX0 n f fd pSame (spSame K n)) : FnOk P w K mg base CX0 (n + 1) f fd pSame (spSame K (n + 1)) := by
  refine F.ok scSame (fun vs H Q E h => ?_) (fun cdv A outer s H vs Q E hr h => ?_)
  · obtain ⟨v, u, d, rfl, _⟩ := h
    rfl
  obtain ⟨v, u, d, rfl, hv, hu, hd, hw, q⟩ := h
  have nd := scSame.nd
  refine ⟨_, pss_cons (ps_if (pt_val (pe_callB call_isiT (by rfl) T.isi (by decide +kernel) (pa_cons (pv 1) (pa_cons (pe_tup (pa_cons (pe_bltn (v := .ty "list") (by rfl) T.list (by decide +kernel) rfl) (pa_cons (pe_bltn (v := .ty "tuple") (by rfl) T.tuple (by decide +kernel) rfl) pa_nil))) pa_nil))))
      (pss_cons (ps_if (PW.pt (pw_or (pt_cmpR op_ne (pe_callB call_isi (by rfl) T.isi (by decide +kernel) (pa_cons (pv 0) (pa_cons (pe_bltn (v := .ty "list") (by rfl) T.list (by decide +kernel) rfl) pa_nil))) (pe_callB call_isi (by rfl) T.isi (by decide +kernel) (pa_cons (pv 1) (pa_cons (pe_bltn (v := .ty "list") (by rfl) T.list (by decide +kernel) rfl) pa_nil))) (nomark _)) (pw_or1 (pt_cmpR op_ne (pe_callB call_isi (by rfl) T.isi (by decide +kernel) (pa_cons (pv 0) (pa_cons (pe_bltn (v := .ty "tuple") (by rfl) T.tuple (by decide +kernel) rfl) pa_nil))) (pe_callB call_isi (by rfl) T.isi (by decide +kernel) (pa_cons (pv 1) (pa_cons (pe_bltn (v := .ty "tuple") (by rfl) T.tuple (by decide +kernel) rfl) pa_nil))) (nomark _))))) (pss_one (ps_ret pe_bl)) pss_nil)
      (pss_cons (ps_if (pt_cmpR op_ne (pe_callB call_len_seq (by rfl) T.len PySem.boot_len (pa_cons (pv 0) pa_nil)) (pe_callB call_len_seq (by rfl) T.len PySem.boot_len (pa_cons (pv 1) pa_nil)) (nomark _)) (pss_one (ps_ret pe_bl)) pss_nil)
      (pss_one (ps_ret (pe_callB (cr_all rfl) (by rfl) T.all (by decide +kernel) (pa_cons (pe_lc (own := [("_law_it", 2), ("_law_two", 3)]) (g := gTup K 2 (gCons (gName 2) (gCons (gName 3) gNil))) (tt := tYes) rfl nd (pi_zipA (by rfl) T.zip (pa_cons (pv 0) (pa_cons (pv 1) pa_nil)))
        (blkOk_by (own := [("_law_it", 2), ("_law_two", 3)]) (N := nSame) (sc := defScope sSame) (by decide +kernel)) (fun _ _ _ _ _ => pg_tup rfl (pgs_cons (pg_name (i := 2) nd rfl (Or.inl rfl)) (pgs_cons (pg_name (i := 3) nd rfl (Or.inl rfl)) pgs_nil))) (fun _ _ _ _ _ => pts_nil)
        (fun _ _ _ _ _ => pe_call G hr rfl mF F.kp bF .nil pass0 (pa_cons (pv 2) (pa_cons (pv 3) pa_nil)))) pa_nil)))))) pss_nil)
    (pss_cons (ps_if (pt_cmpR op_isN (pv 1) pe_non (nomark _)) (pss_one (ps_ret (pe_cmpR op_isN (pv 0) pe_non (nomark _)))) pss_nil)
    (pss_cons (ps_if (pt_val (pe_callB call_isi (by rfl) T.isi (by decide +kernel) (pa_cons (pv 1) (pa_cons (pe_bltn (v := .ty "str") (by rfl) T.str (by decide +kernel) rfl) pa_nil)))) (pss_one (ps_ret (pe_and (pe_callB call_isi (by rfl) T.isi (by decide +kernel) (pa_cons (pv 0) (pa_cons (pe_bltn (v := .ty "str") (by rfl) T.str (by decide +kernel) rfl) pa_nil))) (pe_one (pe_cmpR op_eq (pv 0) (pv 1) (nomark _)))))) pss_nil)
    (pss_cons (ps_if (pt_val (pe_callB call_isi (by rfl) T.isi (by decide +kernel) (pa_cons (pv 1) (pa_cons (pe_bltn (v := .ty "bool") (by rfl) T.bool (by decide +kernel) rfl) pa_nil)))) (pss_one (ps_ret (pe_and (pe_callB call_isi (by rfl) T.isi (by decide +kernel) (pa_cons (pv 0) (pa_cons (pe_bltn (v := .ty "bool") (by rfl) T.bool (by decide +kernel) rfl) pa_nil))) (pe_one (pe_cmpR op_eq (pv 0) (pv 1) (nomark _)))))) pss_nil)
    (pss_one (ps_ret (pe_and (pe_callB call_isi (by rfl) T.isi (by decide +kernel) (pa_cons (pv 0) (pa_cons (pe_bltn (v := .ty "int") (by rfl) T.int (by decide +kernel) rfl) pa_nil))) (pe_and (pe_not (pe_callB call_isi (by rfl) T.isi (by decide +kernel) (pa_cons (pv 0) (pa_cons (pe_bltn (v := .ty "bool") (by rfl) T.bool (by decide +kernel) rfl) pa_nil)))) (pe_one (pe_cmpR op_eq (pv 0) (pv 1) (nomark _)))))))))), ?_⟩
  refine ⟨_, rfl, (by show 2 ≤ sizeLine; decide), fun t ht => ?_⟩
  have e1 : Same H (upd H t (.tup [.ty "list", .ty "tuple"])) := same_new ht _
  have hv1 := Dp.mono e1 hv
  have hu1 := Dp.mono e1 hu
  refine ⟨_, _, _, _, _, _, rfl, upd_same, clsLT, Dp.ty hu1, kitLT hu1, _, rfl, ?_⟩
  refine ite2 (fun c => ?_) (fun c => ?_)
  · obtain ⟨a, b, xs, ys, ds, rfl, rfl, sq, dx, dy, hdep, hwei⟩ := same_two hv hu c
    refine ⟨_, rfl, _, _, _, _, _, rfl, .ty _, Dp.ty hv1, kit_ty (kit_list hv1), ?_⟩
    refine ⟨_, rfl, _, _, _, _, _, rfl, .ty _, Dp.ty hu1, kit_ty (kit_list hu1), ?_⟩
    refine ⟨by rfl, _, rfl, iteNS rfl ?_⟩
    refine ⟨_, rfl, _, _, _, _, _, rfl, .ty _, Dp.ty hv1, kit_ty (kit_tuple hv1), ?_⟩
    refine ⟨_, rfl, _, _, _, _, _, rfl, .ty _, Dp.ty hu1, kit_ty (kit_tuple hu1), ?_⟩
    refine ⟨by rfl, _, rfl, iteNS rfl ?_⟩
    have lx := DpAll.len dx
    have ly := DpAll.len dy
    have sx : SqL K (upd H t (.tup [.ty "list", .ty "tuple"])) a xs ∨ SqT K (upd H t (.tup [.ty "list", .ty "tuple"])) a xs := sq.imp (fun z => e1.seq z.1) (fun z => Same.seqT e1 z.1)
    have sy : SqL K (upd H t (.tup [.ty "list", .ty "tuple"])) b ys ∨ SqT K (upd H t (.tup [.ty "list", .ty "tuple"])) b ys := sq.imp (fun z => e1.seq z.2) (fun z => Same.seqT e1 z.2)
    refine ⟨_, rfl, a, _, rfl, sx, _, rfl, b, _, rfl, sy, by rfl, _, rfl, iteNS (by rw [lx, ly]) ?_⟩
    have len : ds.length ≤ mega := Nat.le_trans length_weight (by omega)
    have fin : ∀ (H2 : Hp) (D : Addr), Same H H2 → H2 D = some (.lst ((List.replicate ds.length true).map V.bl)) → rAll K [.ref D] H2 Q := fun H2 D e2 h2 => ⟨D, _, rfl, SqL.of h2, by
      have z : (List.replicate ds.length true).all id = true := by simp
      rw [z]
      exact q H2 e2⟩
    have sq1 : (SqL K (upd H t (.tup [.ty "list", .ty "tuple"])) a xs ∧ SqL K (upd H t (.tup [.ty "list", .ty "tuple"])) b ys) ∨ (SqT K (upd H t (.tup [.ty "list", .ty "tuple"])) a xs ∧ SqT K (upd H t (.tup [.ty "list", .ty "tuple"])) b ys) :=
      sq.imp (fun z => ⟨e1.seq z.1, e1.seq z.2⟩) (fun z => ⟨Same.seqT e1 z.1, Same.seqT e1 z.2⟩)
    refine ⟨_, rfl, _, rfl, a, b, xs, ys, rfl, ?_⟩
    rcases sq1 with z | z
    · refine .inl ⟨z.1, z.2, fun D hD => ?_⟩
      refine lc_it (walk_zip (by omega)) (fun i H' => H' D = some (.lst ((List.replicate i true).map V.bl)) ∧ Same (upd H t (.tup [.ty "list", .ty "tuple"])) H') ⟨upd_same, same_put hD (Same.refl _)⟩ (fun i H' _ p => ⟨p.2.seq z.1, p.2.seq z.2⟩) ?_ (fun H' p => fin H' D (e1.trans p.2) p.1)
      rintro i x H1 H' hi ⟨pD, pS⟩ ⟨TT, x1, x2, rfl, hT, rfl, g1, g2⟩
      have nTD : D ≠ TT := ne_of_none pD hT
      have e2 : Same H (upd H1 TT (.tup [x1, x2])) := (e1.trans pS).trans (same_new hT _)
      obtain ⟨d1, gd, hd1⟩ := DpAll.get dx g1
      obtain ⟨d2, gd2, hd2⟩ := DpAll.get dy g2
      rw [gd] at gd2
      cases gd2
      have hm := List.mem_of_getElem? gd
      have hdm := depth_mem hm
      have hwm := weight_mem hm
      refine ⟨TT, _, rfl, SqT.of upd_same, rfl, x1, _, rfl, x2, _, rfl, rfl, rfl, ?_⟩
      refine ⟨_, rfl, _, rfl, x1, x2, d1, rfl, Dp.mono e2 hd1, Dp.mono e2 hd2, by omega, by omega, fun H3 e3 => ?_⟩
      have hD3 : H3 D = some (.lst ((List.replicate i true).map V.bl)) := e3 _ _ (by rw [upd_ne nTD]; exact pD)
      refine ⟨_, hD3, by rw [List.length_map, List.length_replicate]; exact mega_line (by omega), ?_, same_put hD ((pS.trans (same_new hT _)).trans e3)⟩
      rw [upd_same]
      simp [List.replicate_succ']
    · refine .inr ⟨z.1, z.2, fun D hD => ?_⟩
      refine lc_it (walk_zipT lx.symm ly.symm) (fun i H' => H' D = some (.lst ((List.replicate i true).map V.bl)) ∧ Same (upd H t (.tup [.ty "list", .ty "tuple"])) H') ⟨upd_same, same_put hD (Same.refl _)⟩ (fun i H' _ p => ⟨Same.seqT p.2 z.1, Same.seqT p.2 z.2⟩) ?_ (fun H' p => fin H' D (e1.trans p.2) p.1)
      rintro i x H1 H' hi ⟨pD, pS⟩ ⟨TT, x1, x2, rfl, hT, rfl, g1, g2⟩
      have nTD : D ≠ TT := ne_of_none pD hT
      have e2 : Same H (upd H1 TT (.tup [x1, x2])) := (e1.trans pS).trans (same_new hT _)
      obtain ⟨d1, gd, hd1⟩ := DpAll.get dx g1
      obtain ⟨d2, gd2, hd2⟩ := DpAll.get dy g2
      rw [gd] at gd2
      cases gd2
      have hm := List.mem_of_getElem? gd
      have hdm := depth_mem hm
      have hwm := weight_mem hm
      refine ⟨TT, _, rfl, SqT.of upd_same, rfl, x1, _, rfl, x2, _, rfl, rfl, rfl, ?_⟩
      refine ⟨_, rfl, _, rfl, x1, x2, d1, rfl, Dp.mono e2 hd1, Dp.mono e2 hd2, by omega, by omega, fun H3 e3 => ?_⟩
      have hD3 : H3 D = some (.lst ((List.replicate i true).map V.bl)) := e3 _ _ (by rw [upd_ne nTD]; exact pD)
      refine ⟨_, hD3, by rw [List.length_map, List.length_replicate]; exact mega_line (by omega), ?_, same_put hD ((pS.trans (same_new hT _)).trans e3)⟩
      rw [upd_same]
      simp [List.replicate_succ']
  · cases hu with
    | non =>
      cases hv
      exact ⟨_, rfl, rfl, _, rfl, iteT ⟨_, rfl, rfl, q _ e1⟩⟩
    | str z =>
      cases hv
      refine ⟨_, rfl, rfl, _, rfl, iteF ?_⟩
      refine ⟨_, rfl, _, _, _, _, _, rfl, .ty _, Dp.ty hu1, kit_ty (kit_str hu1), ?_⟩
      refine ⟨_, rfl, iteT ?_⟩
      refine ⟨_, rfl, _, _, _, _, _, rfl, .ty _, Dp.ty hv1, kit_ty (kit_str hv1), ?_⟩
      refine ⟨_, rfl, iteT ⟨_, rfl, _, rfl, rfl, ?_⟩⟩
      rw [decide_eq_true (rfl : V.str z = V.str z)]
      exact q _ e1
    | bl z =>
      cases hv
      refine ⟨_, rfl, rfl, _, rfl, iteF ?_⟩
      refine ⟨_, rfl, _, _, _, _, _, rfl, .ty _, Dp.ty hu1, kit_ty (kit_str hu1), ?_⟩
      refine ⟨_, rfl, iteF ?_⟩
      refine ⟨_, rfl, _, _, _, _, _, rfl, .ty _, Dp.ty hu1, kit_ty (kit_bool hu1), ?_⟩
      refine ⟨_, rfl, iteT ?_⟩
      refine ⟨_, rfl, _, _, _, _, _, rfl, .ty _, Dp.ty hv1, kit_ty (kit_bool hv1), ?_⟩
      refine ⟨_, rfl, iteT ⟨_, rfl, _, rfl, rfl, ?_⟩⟩
      rw [decide_eq_true (rfl : V.bl z = V.bl z)]
      exact q _ e1
    | int z =>
      cases hv
      refine ⟨_, rfl, rfl, _, rfl, iteF ?_⟩
      refine ⟨_, rfl, _, _, _, _, _, rfl, .ty _, Dp.ty hu1, kit_ty (kit_str hu1), ?_⟩
      refine ⟨_, rfl, iteF ?_⟩
      refine ⟨_, rfl, _, _, _, _, _, rfl, .ty _, Dp.ty hu1, kit_ty (kit_bool hu1), ?_⟩
      refine ⟨_, rfl, iteF ?_⟩
      refine ⟨_, rfl, _, _, _, _, _, rfl, .ty _, Dp.ty hv1, kit_ty (kit_int hv1), ?_⟩
      refine ⟨_, rfl, iteT ?_⟩
      refine ⟨_, rfl, _, _, _, _, _, rfl, .ty _, Dp.ty hv1, kit_ty (kit_bool hv1), ?_⟩
      refine ⟨_, rfl, _, rfl, iteT ⟨_, rfl, _, rfl, rfl, ?_⟩⟩
      rw [decide_eq_true (rfl : V.int z = V.int z)]
      exact q _ e1
    | lst s t => exact absurd rfl c
    | tup s t => exact absurd rfl c
theorem ok_same {f : Addr} {fd : FuncData} (F : Fun K "_law_same" "_law_same" sSame f fd) (bF : Binds K fd pSame []) (mF : mg "_law_same" = some (.ref f)) (T : Nb mg) : ∀ n, FnOk P w K mg base CX0 n f fd pSame (spSame K n)
  | 0 => by
    have no : ∀ vs H Q E, ¬ spSame K 0 vs H Q E := fun vs H Q E h => by
      obtain ⟨v, u, d, _, _, _, hd, _⟩ := h
      exact absurd hd (Nat.not_lt_zero _)
    exact ⟨fun vs H Q E h => absurd h (no vs H Q E), fun A outer s H args us vs Q E _ _ _ _ h => absurd h (no vs H Q E)⟩
  | n + 1 => same_step F bF mF T (ok_same F bF mF T n)
end

abbrev sListed : Stmt := top 15
abbrev nListed : List Str := ["_law_matter", "_law_part"]
abbrev pListed : List Str := ["_law_matter"]
section
variable {P : Program} {w : World} {K : PySem.W.Frag} {mg : Str → Option Value} {base : Heap}
/-- lists in the place of all tuples, all new -/
def spListed (K : PySem.W.Frag) (n : Nat) : Sp := fun vs H Q _ => ∃ (v : V) (d : PyData), vs = [v] ∧ Dp K H v d ∧ d.depth < n ∧ d.weight ≤ mega ∧ ∀ (H' : Hp) (u : V), Same H H' → Dp K (newOf H H') u (listed d) → Q u H'
theorem scListed : FnScope nListed pListed (defScope sListed) := ⟨rfl, rfl, rfl, by decide +kernel, rfl, by decide +kernel, by decide +kernel⟩
theorem listed_seq {H : Hp} {v : V} {d : PyData} (hv : Dp K H v d) (c : (isList d || isTuple d) = true) :
    ∃ (a : Addr) (xs : List V) (ds : List PyData), v = .ref a ∧ (SqL K H a xs ∨ SqT K H a xs) ∧ DpAll K H xs ds ∧ d.depth = PyData.depthAll ds + 1 ∧ d.weight = PyData.weightAll ds ∧ listed d = .list (ds.map listed) := by
  cases d with
  | list ds =>
    obtain ⟨a, xs, e, s, t⟩ := Dp.lst_inv hv
    exact ⟨a, xs, ds, e, .inl s, t, by rw [PyData.depth], by rw [PyData.weight], by rw [listed, listedAll_map]⟩
  | tuple ds =>
    obtain ⟨a, xs, e, s, t⟩ := Dp.tup_inv hv
    exact ⟨a, xs, ds, e, .inr s, t, by rw [PyData.depth], by rw [PyData.weight], by rw [listed, listedAll_map]⟩
  | _ => exact absurd c (by simp [isList, isTuple])
theorem listed_flat {H G : Hp} {v : V} {d : PyData} (hv : Dp K H v d) (c : ¬ (isList d || isTuple d) = true) : Dp K G v (listed d) := by
  cases hv with
  | non => rw [listed]; exact .non
  | bl b => rw [listed]; exact .bl b
  | int i => rw [listed]; exact .int i
  | str x => rw [listed]; exact .str x
  | lst s t => exact absurd rfl c
  | tup s t => exact absurd rfl c
theorem listed_step {n : Nat} {f : Addr} {fd : FuncData} (F : Fun K "_law_listed" "_law_listed" sListed f fd) (bF : Binds K fd pListed []) (mF : mg "_law_listed" = some (.ref f)) (T : Nb mg)
    (G : FnOk P w K mg base CX0 n f fd pListed (spListed K n)) : FnOk P w K mg base CX0 (n + 1) f fd pListed (spListed K (n + 1)) := by
  refine F.ok scListed (fun vs H Q E h => ?_) (fun cdv A outer s H vs Q E hr h => ?_)
  · obtain ⟨v, d, rfl, _⟩ := h
    rfl
  obtain ⟨v, d, rfl, hv, hd, hw, q⟩ := h
  have nd := scListed.nd
  refine ⟨_, pss_one (ps_ret (pe_ifExp (pt_val (pe_callB call_isiT (by rfl) T.isi (by decide +kernel) (pa_cons (pv 0) (pa_cons (pe_tup (pa_cons (pe_bltn (v := .ty "list") (by rfl) T.list (by decide +kernel) rfl) (pa_cons (pe_bltn (v := .ty "tuple") (by rfl) T.tuple (by decide +kernel) rfl) pa_nil))) pa_nil)))) (pe_lc (own := [("_law_part", 1)]) (g := gName 1) (tt := tYes) rfl nd (pi_seq (pv 0)) (blkOk_by (own := [("_law_part", 1)]) (N := nListed) (sc := defScope sListed) (by decide +kernel)) (fun _ _ _ _ _ => pg_name (i := 1) nd rfl (Or.inl rfl)) (fun _ _ _ _ _ => pts_nil)
    (fun _ _ _ _ _ => pe_call G hr rfl mF F.kp bF .nil pass0 (pa_cons (pv 1) pa_nil))) (pv 0))), ?_⟩
  refine ⟨_, rfl, (by show 2 ≤ sizeLine; decide), fun t ht => ?_⟩
  have e1 : Same H (upd H t (.tup [.ty "list", .ty "tuple"])) := same_new ht _
  have hv1 := Dp.mono e1 hv
  refine ⟨_, _, _, _, _, _, rfl, upd_same, clsLT, Dp.ty hv1, kitLT hv1, _, rfl, ?_⟩
  generalize hH1 : upd H t (.tup [.ty "list", .ty "tuple"]) = H1 at e1 hv1
  refine ite2 (fun c => ?_) (fun c => ?_)
  · obtain ⟨a, xs, ds, rfl, sq, dx, hdep, hwei, hli⟩ := listed_seq hv c
    have lx := DpAll.len dx
    have len : ds.length ≤ mega := Nat.le_trans length_weight (by omega)
    have fin : ∀ (H2 : Hp) (D : Addr) (acc : List V), H1 D = none → Same H1 H2 → H2 D = some (.lst acc) → DpAll K (newOf (upd H1 D (.lst [])) H2) acc (ds.map listed) → Q (.ref D) H2 := fun H2 D acc hD e2 h2 hA => by
      refine q H2 (.ref D) (e1.trans e2) ?_
      rw [hli]
      refine .lst (SqL.of (by rw [newOf_at (e1.free hD)]; exact h2)) (DpAll.mono (newOf_low (fun a q => ?_) fun _ _ _ z => z) hA)
      exact e1.free ((same_put hD (Same.refl _)).free q)
    refine ⟨_, rfl, a, xs, rfl, ?_⟩
    rcases sq with z | z
    · refine .inl ⟨e1.seq z, fun D hD => ?_⟩
      refine lc_it walk_list (fun i H' => ∃ acc, H' D = some (.lst acc) ∧ acc.length = i ∧ DpAll K (newOf (upd H1 D (.lst [])) H') acc ((ds.take i).map listed) ∧ Same H1 H') ⟨[], upd_same, rfl, .nil, same_put hD (Same.refl _)⟩ (fun i H' _ p => (e1.trans p.choose_spec.2.2.2).seq z) ?_
        (fun H' p => by
          obtain ⟨acc, p1, p2, p3, p4⟩ := p
          rw [lx, List.take_length] at p3
          exact fin H' D acc hD p4 p1 p3)
      rintro i x H2 H' hi ⟨acc, pD, pl, pA, pS⟩ ⟨rfl, hx⟩
      obtain ⟨d1, gd, hd1⟩ := DpAll.get dx hx
      have hm := List.mem_of_getElem? gd
      have hdm := depth_mem hm
      have hwm := weight_mem hm
      refine ⟨rfl, ?_⟩
      refine ⟨_, rfl, x, d1, rfl, Dp.mono (e1.trans pS) hd1, by omega, by omega, fun H3 u e3 nu => ?_⟩
      have hD3 : H3 D = some (.lst acc) := e3 _ _ pD
      have dom : ∀ a, H' a = none → (upd H1 D (.lst [])) a = none := fun a q => by
        rw [upd_ne (ne_of_none pD q).symm]
        exact pS.free q
      refine ⟨acc, hD3, by rw [pl]; exact mega_line (by omega), acc ++ [u], upd_same, by rw [List.length_append, pl]; rfl, ?_, same_put hD (pS.trans e3)⟩
      have keep : Same (newOf (upd H1 D (.lst [])) H3) (newOf (upd H1 D (.lst [])) (upd H3 D (.lst (acc ++ [u])))) := newOf_low (fun _ q => q) fun a o q1 q2 => by
        have ne : a ≠ D := fun z => by rw [z, upd_same] at q1; cases q1
        rw [upd_ne ne]
        exact q2
      have tk : (ds.take (i + 1)).map listed = (ds.take i).map listed ++ [listed d1] := by rw [List.take_add_one, gd, List.map_append]; rfl
      rw [tk]
      exact DpAll.mono keep (DpAll.snoc (DpAll.mono (newOf_low (fun _ q => q) fun a o _ q2 => e3 a o q2) pA) (Dp.mono (newOf_low dom fun _ _ _ q2 => q2) nu))
    · refine .inr ⟨Same.seqT e1 z, fun D hD => ?_⟩
      refine lc_it walk_tup (fun i H' => ∃ acc, H' D = some (.lst acc) ∧ acc.length = i ∧ DpAll K (newOf (upd H1 D (.lst [])) H') acc ((ds.take i).map listed) ∧ Same H1 H') ⟨[], upd_same, rfl, .nil, same_put hD (Same.refl _)⟩ (fun i H' _ p => Same.seqT (e1.trans p.choose_spec.2.2.2) z) ?_
        (fun H' p => by
          obtain ⟨acc, p1, p2, p3, p4⟩ := p
          rw [lx, List.take_length] at p3
          exact fin H' D acc hD p4 p1 p3)
      rintro i x H2 H' hi ⟨acc, pD, pl, pA, pS⟩ ⟨rfl, hx⟩
      obtain ⟨d1, gd, hd1⟩ := DpAll.get dx hx
      have hm := List.mem_of_getElem? gd
      have hdm := depth_mem hm
      have hwm := weight_mem hm
      refine ⟨rfl, ?_⟩
      refine ⟨_, rfl, x, d1, rfl, Dp.mono (e1.trans pS) hd1, by omega, by omega, fun H3 u e3 nu => ?_⟩
      have hD3 : H3 D = some (.lst acc) := e3 _ _ pD
      have dom : ∀ a, H' a = none → (upd H1 D (.lst [])) a = none := fun a q => by
        rw [upd_ne (ne_of_none pD q).symm]
        exact pS.free q
      refine ⟨acc, hD3, by rw [pl]; exact mega_line (by omega), acc ++ [u], upd_same, by rw [List.length_append, pl]; rfl, ?_, same_put hD (pS.trans e3)⟩
      have keep : Same (newOf (upd H1 D (.lst [])) H3) (newOf (upd H1 D (.lst [])) (upd H3 D (.lst (acc ++ [u])))) := newOf_low (fun _ q => q) fun a o q1 q2 => by
        have ne : a ≠ D := fun z => by rw [z, upd_same] at q1; cases q1
        rw [upd_ne ne]
        exact q2
      have tk : (ds.take (i + 1)).map listed = (ds.take i).map listed ++ [listed d1] := by rw [List.take_add_one, gd, List.map_append]; rfl
      rw [tk]
      exact DpAll.mono keep (DpAll.snoc (DpAll.mono (newOf_low (fun _ q => q) fun a o _ q2 => e3 a o q2) pA) (Dp.mono (newOf_low dom fun _ _ _ q2 => q2) nu))
  · exact ⟨_, rfl, q H1 v e1 (listed_flat hv c)⟩
theorem ok_listed {f : Addr} {fd : FuncData} (F : Fun K "_law_listed" "_law_listed" sListed f fd) (bF : Binds K fd pListed []) (mF : mg "_law_listed" = some (.ref f)) (T : Nb mg) : ∀ n, FnOk P w K mg base CX0 n f fd pListed (spListed K n)
  | 0 => by
    have no : ∀ vs H Q E, ¬ spListed K 0 vs H Q E := fun vs H Q E h => by
      obtain ⟨v, d, _, _, hd, _⟩ := h
      exact absurd hd (Nat.not_lt_zero _)
    exact ⟨fun vs H Q E h => absurd h (no vs H Q E), fun A outer s H args us vs Q E _ _ _ _ h => absurd h (no vs H Q E)⟩
  | n + 1 => listed_step F bF mF T (ok_listed F bF mF T n)
end

abbrev sCells : Stmt := top 13
abbrev nCells : List Str := ["_law_script", "_law_utmost", "_law_cells_here", "_law_k", "_law_cell"]
abbrev pCells : List Str := ["_law_script", "_law_utmost"]
section
variable {P : Program} {w : World} {K : PySem.W.Frag} {mg : Str → Option Value} {base : Heap}
def spCells (K : PySem.W.Frag) : Sp := fun vs H Q _ => ∃ (a : Addr) (ns : List Int) (u : Nat), vs = [.ref a, .int (u : Int)] ∧ SqL K H a (ns.map V.int) ∧ ns.length ≤ 63 ∧ 1 ≤ u ∧ u ≤ 3 ∧
  ∀ (H' : Hp) (p : Addr) (ms : List Int), Same H H' → H' p = some (.lst (ms.map V.int)) → 1 ≤ ms.length → ms.length ≤ 3 → Q (.ref p) H'
theorem scCells : FnScope nCells pCells (defScope sCells) := ⟨rfl, rfl, rfl, by decide +kernel, rfl, by decide +kernel, by decide +kernel⟩
theorem cut_front (ns : List Int) (u : Nat) : cutV (ns.map V.int) none (some (u : Int)) = (ns.take (min u ns.length)).map V.int := by
  unfold cutV
  rw [HT.sIx_none, HT.sIx_nat, List.length_map, List.drop_zero, Nat.sub_zero, List.map_take]
theorem cut_rest (ns : List Int) (u : Nat) : cutV (ns.map V.int) (some (u : Int)) (some (63 : Int)) = ((ns.drop (min u ns.length)).take (min 63 ns.length - min u ns.length)).map V.int := by
  unfold cutV
  have e : (some (63 : Int)) = some ((63 : Nat) : Int) := rfl
  rw [e, HT.sIx_nat, HT.sIx_nat, List.length_map, List.map_take, List.map_drop]
theorem ok_cells {f : Addr} {fd : FuncData} (F : Fun K "_law_cells" "_law_cells" sCells f fd) (T : Nb mg) : FnOk P w K mg base CX0 1 f fd pCells (spCells K) := by
  refine F.ok scCells (fun vs H Q E h => ?_) (fun cdv A outer s H vs Q E hr h => ?_)
  · obtain ⟨a, ns, u, rfl, _⟩ := h
    rfl
  obtain ⟨a, ns, u, rfl, hS, h63, u1, u3, q⟩ := h
  have nd := scCells.nd
  refine ⟨_, pss_cons (ps_set (i := 2) nd rfl (Or.inl rfl) (pe_orT (pe_callTy call_list_of (by rfl) T.list (by decide +kernel) (pa_cons (pe_slice sl_list (pv 0) po_none (po_some (pv 1))) pa_nil)) (pe_one (pe_lst (pa_cons pe_int pa_nil)))))
    (pss_cons (ps_for PassesOwn.never rfl (pi_enum (by rfl) T.enum (pa_cons (pe_slice sl_list (pv 0) (po_some (pv 1)) (po_some pe_int)) pa_nil)) (pg_tup rfl (pgs_cons (pg_name (i := 3) nd rfl (Or.inl rfl)) (pgs_cons (pg_name (i := 4) nd rfl (Or.inl rfl)) pgs_nil)))
      (pss_one (ps_asg (pe_op op_add (pe_ix ix_list (pv 2) (pe_op op_mod (pv 3) (pv 1)) (fun _ _ => rfl)) (pe_op op_mul (pv 4) (pe_op op_add (pv 3) pe_int))) (pg_sub (pv 2) (pe_op op_mod (pv 3) (pv 1)) set_list))))
    (pss_one (ps_ret (pv 2)))), ?_⟩
  -- from the first numbers on
  have go : ∀ (H1 : Hp) (l : Addr) (ms : List Int), Same H H1 → H l = none → H1 l = some (.lst (ms.map V.int)) → 1 ≤ ms.length → ms.length ≤ 3 → (u < ns.length → ms.length = u) →
      tSeq (tFor (iEnum K (tCons (tSl (rSlL K) (tVar 0) (tPart (tVar 1)) (tPart (tC (.int 63)))) tNil)) (gTup K 2 (gCons (gName 3) (gCons (gName 4) gNil)))
        (tAsg (tOp (rI0 fun i j => .int (i + j)) (tOp (rIxL K) (tVar 2) (tOp (rI (fun _ j => 0 < j) fun i j => .int (i % j)) (tVar 3) (tVar 1))) (tOp (rI CMul fun i j => .int (i * j)) (tVar 4) (tOp (rI0 fun i j => .int (i + j)) (tVar 3) (tC (.int 2)))))
          (gSub (tVar 2) (tOp (rI (fun _ j => 0 < j) fun i j => .int (i % j)) (tVar 3) (tVar 1)) rSetL))) (tRet (tVar 2)) { nx := fun _ H' => Q .non H', rt := Q } [some (.ref a), some (.int (u : Int)), some (.ref l), none, none] H1 := by
    intro H1 l ms e1 hl0 hl m1 m3 mu
    refine ⟨_, rfl, _, rfl, _, rfl, _, rfl, a, _, rfl, e1.seq hS, fun p hp => ?_⟩
    rw [cut_rest]
    generalize hrs : (ns.drop (min u ns.length)).take (min 63 ns.length - min u ns.length) = rs
    have hrl : rs.length ≤ 63 := by rw [← hrs, List.length_take]; omega
    have hru : 0 < rs.length → ms.length = u := fun h => mu (by rw [← hrs, List.length_take, List.length_drop] at h; omega)
    have nlp : l ≠ p := ne_of_none hl hp
    refine ⟨p, rs.map V.int, rfl, SqL.of upd_same, ?_⟩
    refine for_it walk_enum (fun i σ H' => ∃ (c d : Option V) (zs : List Int), σ = [some (.ref a), some (.int (u : Int)), some (.ref l), c, d] ∧ Same H H' ∧ H' p = some (.lst (rs.map V.int)) ∧ H' l = some (.lst (zs.map V.int)) ∧ zs.length = ms.length)
      ⟨none, none, ms, rfl, e1.trans (same_new hp _), upd_same, by rw [upd_ne nlp]; exact hl, rfl⟩ (fun i σ H' _ h => by obtain ⟨_, _, _, _, _, h, _⟩ := h; exact SqL.of h) ?_ ?_
    · rintro i x σ H2 H3 hi ⟨c, d, zs, rfl, e2, hp2, hl2, hz⟩ ⟨TT, x1, x2, rfl, hT, rfl, g1, g2⟩
      cases g1
      rw [List.length_map] at hi
      have g2 : (rs.map V.int)[i]? = some x2 := g2
      rw [List.getElem?_map] at g2
      obtain ⟨y, _, rfl⟩ : ∃ y, rs[i]? = some y ∧ x2 = V.int y := by
        cases e : rs[i]? with
        | none => rw [e] at g2; cases g2
        | some y => rw [e] at g2; exact ⟨y, rfl, (Option.some.inj g2).symm⟩
      have mlen := hru (by omega)
      have nTl : l ≠ TT := ne_of_none hl2 hT
      have nTp : p ≠ TT := ne_of_none hp2 hT
      have hl3 : (upd H2 TT (.tup [.int (i : Nat), .int y])) l = some (.lst (zs.map V.int)) := by rw [upd_ne nTl]; exact hl2
      have r0 : 0 ≤ (i : Int) % (u : Int) := Int.emod_nonneg _ (by omega)
      have r1 : (i : Int) % (u : Int) < (u : Int) := Int.emod_lt_of_pos _ (by omega)
      obtain ⟨z, hz1, _, _⟩ := atI_int (xs := zs) r0 (by omega)
      refine ⟨TT, _, rfl, SqT.of upd_same, rfl, _, _, rfl, _, _, rfl, rfl, ?_⟩
      refine ⟨_, rfl, _, rfl, _, rfl, _, _, rfl, rfl, (by show (0 : Int) < (u : Int); omega), l, _, _, _, rfl, rfl, SqL.of hl3, at_map r0 hz1, _, rfl, _, rfl, _, _, rfl, rfl, _, _, rfl, rfl, .inr ⟨by omega, by omega⟩, _, _, rfl, rfl, ?_⟩
      refine ⟨_, rfl, _, rfl, _, rfl, _, _, rfl, rfl, (by show (0 : Int) < (u : Int); omega), l, _, _, ((i : Int) % (u : Int)).toNat, rfl, rfl, hl3, ?_, ?_⟩
      · unfold ixN
        rw [if_pos r0, if_pos (by rw [List.length_map]; omega)]
      · refine ⟨_, _, zs.set ((i : Int) % (u : Int)).toNat (z + y * ((i : Int) + 2)), rfl, ?_, ?_, ?_, by rw [List.length_set]; exact hz⟩
        · exact same_put hl0 (e2.trans (same_new hT _))
        · have npl : p ≠ l := Ne.symm nlp
          rw [upd_ne npl, upd_ne nTp]
          exact hp2
        · rw [upd_same, List.map_set]
    · rintro σ H2 ⟨c, d, zs, rfl, e2, hp2, hl2, hz⟩
      exact ⟨_, rfl, q H2 l zs e2 hl2 (by omega) (by omega)⟩
  refine ⟨_, rfl, _, rfl, _, rfl, a, _, rfl, hS, fun p hp => ?_⟩
  rw [cut_front]
  refine ⟨p, _, rfl, .inl (SqL.of upd_same), fun l hl => ?_⟩
  have ep : Same H (upd H p (.lst ((ns.take (min u ns.length)).map V.int))) := same_new hp _
  have el := ep.trans (same_new hl (.lst ((ns.take (min u ns.length)).map V.int)))
  refine ⟨_, .inl ⟨_, SqL.of upd_same, rfl⟩, ?_⟩
  have tl : (ns.take (min u ns.length)).length = min u ns.length := by rw [List.length_take]; omega
  by_cases hn : ns.length = 0
  · have z : (ns.take (min u ns.length)) = [] := List.eq_nil_of_length_eq_zero (by omega)
    rw [z]
    refine iteF ⟨(by show 1 ≤ sizeLine; decide), fun m hm => ?_⟩
    rw [z] at el ep hl
    exact go _ m [0] (el.trans (same_new hm _)) (el.free hm) upd_same (by decide) (by decide) (fun h => by omega)
  · have z : (!((ns.take (min u ns.length)).map V.int).isEmpty) = true := by
      cases e : ns.take (min u ns.length) with
      | nil => rw [e] at tl; rw [List.length_nil] at tl; omega
      | cons x r => rfl
    rw [z]
    refine iteT ?_
    exact go _ l (ns.take (min u ns.length)) el (ep.free hl) upd_same (by omega) (by omega) (fun h => by omega)
end

abbrev sRoom : Stmt := top 17
abbrev nRoom : List Str := ["_law_box_here", "_law_birds", "_law_most", "_law_many", "_law_heaps", "_law_turn", "_law_bird", "_law_whom"]
abbrev pRoom : List Str := ["_law_box_here", "_law_birds", "_law_most"]
section
variable {P : Program} {w : World} {K : PySem.W.Frag} {mg : Str → Option Value} {base : Heap}
def spRoom (K : PySem.W.Frag) : Sp := fun vs H Q _ => ∃ (b : Addr) (n m : Int), vs = [.ref b, .int n, .int m] ∧ BoxAt H b ∧ 1 ≤ n ∧ n ≤ 100 ∧ 0 ≤ m ∧ m ≤ 1000 ∧
  ∀ (H' : Hp) (v : V) (S : List (List Gr)), RoomOk n m S → Step b H H' → Dt K H' v (dS S) → Q v H'
theorem scRoom : FnScope nRoom pRoom (defScope sRoom) := ⟨rfl, rfl, rfl, by decide +kernel, rfl, by decide +kernel, by decide +kernel⟩
theorem ok_room {f ft fw : Addr} {fd fdt fdw : FuncData} (F : Fun K "_law_room" "_law_room" sRoom f fd) (T : Nb mg) (GT : FnOk P w K mg base CX0 1 ft fdt ["_law_box_here", "_law_many"] spTake) (bT : Binds K fdt ["_law_box_here", "_law_many"] [])
    (kT : PySem.W.keepIn K (.ref ft) = true) (mT : mg "_law_take" = some (.ref ft)) (GW : FnOk P w K mg base CX0 2 fw fdw ["_law_box_here"] spWord) (bW : Binds K fdw ["_law_box_here"] []) (kW : PySem.W.keepIn K (.ref fw) = true) (mW : mg "_law_word" = some (.ref fw)) :
    FnOk P w K mg base CX0 3 f fd pRoom (spRoom K) := by
  refine F.ok scRoom (fun vs H Q E h => ?_) (fun cdv A outer s H vs Q E hr h => ?_)
  · obtain ⟨b, n, m, rfl, _⟩ := h
    rfl
  obtain ⟨b, n, m, rfl, hb, n1, n2, m1, m2, q⟩ := h
  have nd := scRoom.nd
  have hr1 : Room 1 _ := hr.mono (by decide)
  refine ⟨_, pss_cons (ps_set (i := 3) nd rfl (Or.inl rfl) (pe_op op_add pe_int (pe_call GT hr1 rfl mT kT bT .nil pass0 (pa_cons (pv 0) (pa_cons (pv 1) pa_nil)))))
    (pss_cons (ps_setLc (i := 4) (own := [("_law_bird", 6)]) (g := gName 6) (tt := tYes) rfl nd rfl rfl (sw_true rfl rfl rfl (by decide +kernel)) (pi_range1 rfl T.range (pa_cons (pv 3) pa_nil)) (blkOk_by (own := [("_law_bird", 6)]) (N := nRoom) (sc := defScope sRoom) (by decide +kernel)) (fun _ _ _ _ _ => pg_name (i := 6) nd rfl (Or.inl rfl)) (fun _ _ _ _ _ => pts_nil) (fun _ _ _ _ _ => pe_tup pa_nil))
    (pss_cons (ps_for PassesOwn.never rfl (pi_range1 rfl T.range (pa_cons (pe_ifExp (pt_cmpR op_gt (pv 3) pe_int (nomark _)) (pe_call GT hr1 rfl mT kT bT .nil pass0 (pa_cons (pv 0) (pa_cons (pe_op op_add (pv 2) pe_int) pa_nil))) pe_int) pa_nil)) (pg_name (i := 5) nd rfl (Or.inl rfl))
      (pss_cons (ps_set (i := 6) nd rfl (Or.inl rfl) (pe_call GT hr1 rfl mT kT bT .nil pass0 (pa_cons (pv 0) (pa_cons (pv 3) pa_nil))))
      (pss_cons (ps_set (i := 7) nd rfl (Or.inl rfl) (pe_op op_mod (pe_op op_add (pe_op op_add (pv 6) pe_int) (pe_call GT hr1 rfl mT kT bT .nil pass0 (pa_cons (pv 0) (pa_cons (pe_op op_sub (pv 3) pe_int) pa_nil)))) (pv 3)))
      (pss_one (ps_asg (pe_op op_catA (pe_ix ix_list (pv 4) (pv 6) (fun _ _ => rfl)) (pe_tup (pa_cons (pe_tup (pa_cons (pv 7) (pa_cons (pe_call GW (hr.mono (by decide)) rfl mW kW bW .nil pass0 (pa_cons (pv 0) pa_nil)) pa_nil))) pa_nil))) (pg_sub (pv 4) (pv 6) set_list))))))
    (pss_one (ps_ret (pe_callTy call_tuple_of (by rfl) T.tuple (by decide +kernel) (pa_cons (pv 4) pa_nil)))))), ?_⟩
  -- how many
  refine ⟨_, rfl, _, rfl, b, n, rfl, hb, by omega, by omega, fun r H1 r0 r1 s1 => ⟨_, _, rfl, rfl, ?_⟩⟩
  obtain ⟨k, rfl⟩ : ∃ k : Nat, r = (k : Int) := ⟨r.toNat, by omega⟩
  have hk : (1 + (k : Int)).toNat = 1 + k := by omega
  -- the bare heaps
  refine ⟨_, rfl, _, rfl, by omega, by omega, fun D hD => ?_⟩
  refine lc_range (lo := 0) (n := (1 + (k : Int)).toNat) (fun i H' => ∃ acc, H' D = some (.lst acc) ∧ DtAll K H' acc (List.replicate i (dH [])) ∧ acc.length = i ∧ Same H1 H') ⟨[], upd_same, .nil, rfl, same_put hD (Same.refl _)⟩ ?_ ?_
  · rintro i H2 hi ⟨acc, p1, p2, p3, p4⟩
    refine ⟨rfl, (by show 0 ≤ sizeLine; decide), fun p hp => ?_⟩
    have nD : D ≠ p := ne_of_none p1 hp
    have t1 : Tups H2 (upd H2 p (.tup [])) := Tups.of (same_new hp _)
    have hD2 : (upd H2 p (.tup [])) D = some (.lst acc) := by rw [upd_ne nD]; exact p1
    refine ⟨acc, hD2, by rw [p3]; exact small1000 (by omega), acc ++ [.ref p], upd_same, ?_, by rw [List.length_append, p3]; rfl, same_put hD (p4.trans (same_new hp _))⟩
    rw [List.replicate_succ']
    exact DtAll.on (DpAll.snoc (DtAll.on p2 t1) (Dt.mk (ds := []) upd_same .nil)) (Tups.put hD2)
  rintro H2 ⟨xs0, p1, p2, p3, p4⟩
  rw [hk] at p2 p3
  have s2 : Step b H H2 := s1.trans (.same s1.box p4)
  have hD0 : H D = none := by
    cases e : H D with
    | none => rfl
    | some o =>
      have nb : D ≠ b := fun z => by
        obtain ⟨x, y, z', e2⟩ := s1.box
        rw [z, e2] at hD
        cases hD
      rw [s1.old D o nb e] at hD
      cases hD
  have hDb : D ≠ b := fun z => by
    obtain ⟨x, y, z', e2⟩ := hb
    rw [z, e2] at hD0
    cases hD0
  have put : ∀ {H4 : Hp} {ys : List V}, Step b H H4 → Step b H (upd H4 D (.lst ys)) := fun {H4 ys} z => ⟨by
      obtain ⟨x, y, z', e2⟩ := z.box
      exact ⟨x, y, z', by rw [upd_ne (Ne.symm hDb)]; exact e2⟩, fun a o n e => by rw [upd_ne (ne_of_none e hD0)]; exact z.old a o n e⟩
  have ret : ∀ (H3 : Hp) (xs : List V) (S : List (List Gr)) (c5 c6 c7 : Option V), H3 D = some (.lst xs) → DtAll K H3 xs (S.map dH) → RoomOk n m S → Step b H H3 →
      (tRet (tCB (fun xs H Q => ∃ p ys, xs = [.ref p] ∧ ((SqL K H p ys ∧ ∀ l, H l = none → Q (.ref l) (upd H l (.tup ys))) ∨ (SqT K H p ys ∧ Q (.ref p) H))) (tCons (tVar 4) tNil))) { nx := fun _ H' => Q .non H', rt := Q } [some (.ref b), some (.int n), some (.int m), some (.int (1 + (k : Int))), some (.ref D), c5, c6, c7] H3 := by
    intro H3 xs S c5 c6 c7 h3 hA ok st
    refine ⟨_, rfl, D, xs, rfl, .inl ⟨SqL.of h3, fun l hl => ?_⟩⟩
    exact q _ _ S ok (st.trans (step_new st.box hl)) (Dt.mk upd_same (DtAll.on hA (Tups.of (same_new hl _))))
  have e0 : List.replicate (1 + k) (dH []) = (List.replicate (1 + k) ([] : List Gr)).map dH := by rw [List.map_replicate]
  rw [e0] at p2
  by_cases h1 : 1 < 1 + (k : Int)
  · refine ⟨_, rfl, _, _, rfl, rfl, _, rfl, ?_⟩
    rw [decide_eq_true h1]
    refine iteT ⟨_, rfl, _, rfl, _, _, rfl, rfl, b, _, rfl, s2.box, by omega, by omega, fun j H3 j0 j1 s3 => ?_⟩
    have s03 : Step b H H3 := s2.trans s3
    refine ⟨j, rfl, by omega, by omega, ?_⟩
    refine for_range (lo := 0) (n := j.toNat) (fun i σ H' => ∃ (c5 c6 c7 : Option V) (xs : List V) (S : List (List Gr)), σ = [some (.ref b), some (.int n), some (.int m), some (.int (1 + (k : Int))), some (.ref D), c5, c6, c7] ∧
      H' D = some (.lst xs) ∧ DtAll K H' xs (S.map dH) ∧ S.length = 1 + k ∧ total S = i ∧ OkS S ∧ Step b H H') ?_ ?_ ?_
    · exact ⟨none, none, none, xs0, List.replicate (1 + k) [], rfl, s3.old _ _ hDb p1, DtAll.on p2 (s3.tups s2.box), List.length_replicate, total_rep _, OkS.rep _, s03⟩
    · rintro i σ H4 hi ⟨c5, c6, c7, xs, S, rfl, hx, hA, hl, ht, ok, s4⟩
      refine ⟨_, rfl, _, rfl, b, _, rfl, s4.box, by omega, by omega, fun r2 H5 a0 a1 s5 => ?_⟩
      refine ⟨_, rfl, _, _, rfl, rfl, _, rfl, _, rfl, _, _, rfl, rfl, b, _, rfl, s5.box, by omega, by omega, fun r3 H6 b0 b1 s6 => ?_⟩
      refine ⟨_, _, rfl, rfl, _, rfl, _, _, rfl, rfl, (by show (0 : Int) < 1 + (k : Int); omega), ?_⟩
      have rn := round_ne a0 a1 b0 b1
      dsimp only
      generalize (r2 + 1 + r3) % (1 + (k : Int)) = wh at rn
      have s46 : Step b H4 H6 := s5.trans s6
      have s06 : Step b H H6 := s4.trans s46
      have hx6 : H6 D = some (.lst xs) := s46.old _ _ hDb hx
      have hA6 := DtAll.on hA (s46.tups s4.box)
      have lx := DpAll.len hA
      rw [List.length_map] at lx
      obtain ⟨v0, g1, g2, _⟩ := atI_int (xs := xs) a0 (by omega)
      obtain ⟨d0, g3, g4⟩ := DpAll.get hA6 g1
      rw [List.getElem?_map] at g3
      obtain ⟨h, g5, rfl⟩ : ∃ h, S[r2.toNat]? = some h ∧ d0 = dH h := by
        cases e : S[r2.toNat]? with
        | none => rw [e] at g3; cases g3
        | some h => rw [e] at g3; exact ⟨h, rfl, (Option.some.inj g3).symm⟩
      obtain ⟨a6, gs, rfl, sq6, hg6⟩ := Dt.inv g4
      have lg := DpAll.len hg6
      rw [List.length_map] at lg
      have lh := mem_total g5
      have er : ((r2.toNat : Nat) : Int) = r2 := by omega
      refine ⟨_, rfl, _, rfl, D, _, _, _, rfl, rfl, SqL.of hx6, g2, _, rfl, _, rfl, b, rfl, s06.box, fun x H7 hxm s7 => ⟨(by show 2 ≤ sizeLine; decide), fun p1 hp1 => ⟨(by show 1 ≤ sizeLine; decide), fun p2 hp2 => ?_⟩⟩⟩
      -- behind the new grudge
      have n7 : Same H7 (upd (upd H7 p1 (.tup [.int wh, .str x])) p2 (.tup [.ref p1])) := (same_new hp1 _).trans (same_new hp2 _)
      generalize hH8 : upd (upd H7 p1 (.tup [.int wh, .str x])) p2 (.tup [.ref p1]) = H8 at n7
      have s67 : Step b H6 H8 := s7.trans (.same s7.box n7)
      have s08 : Step b H H8 := s06.trans s67
      have t68 : Tups H6 H8 := s67.tups s06.box
      have hx8 : H8 D = some (.lst xs) := s67.old _ _ hDb hx6
      have hp1' : H8 p1 = some (.tup [.int wh, .str x]) := by rw [← hH8, upd_ne (ne_of_none upd_same hp2)]; exact upd_same
      have hp2' : H8 p2 = some (.tup [.ref p1]) := by rw [← hH8]; exact upd_same
      have dnew : DtAll K H8 [.ref p1] [dG (wh, x)] := .cons (Dt.mk hp1' (.cons (.int wh) (.cons (.str x) .nil))) .nil
      have hA8 := DtAll.on hA6 t68
      have fin : ∀ (H9 : Hp) (v9 : V), Same H8 H9 → Dt K H9 v9 (dH (h ++ [(wh, x)])) → ∃ (c5 c6 c7 : Option V) (xs' : List V) (S' : List (List Gr)),
          [some (.ref b), some (.int n), some (.int m), some (.int (1 + (k : Int))), some (.ref D), some (.int (0 + (i : Int))), some (.int r2), some (.int wh)] = [some (.ref b), some (.int n), some (.int m), some (.int (1 + (k : Int))), some (.ref D), c5, c6, c7] ∧
          (upd H9 D (.lst (xs.set r2.toNat v9))) D = some (.lst xs') ∧ DtAll K (upd H9 D (.lst (xs.set r2.toNat v9))) xs' (S'.map dH) ∧ S'.length = 1 + k ∧ total S' = i + 1 ∧ OkS S' ∧ Step b H (upd H9 D (.lst (xs.set r2.toNat v9))) := by
        intro H9 v9 e89 d9
        refine ⟨_, _, _, xs.set r2.toNat v9, S.set r2.toNat (h ++ [(wh, x)]), rfl, upd_same, ?_, by rw [List.length_set]; exact hl, by rw [total_set _ g5, ht], OkS.put ok g5 ⟨rn.1, by rw [hl]; show wh < ((1 + k : Nat) : Int); omega, by rw [er]; exact rn.2.2, hxm⟩, put (s08.trans (.same s08.box e89))⟩
        rw [List.map_set]
        exact DtAll.on (DpAll.set _ (DtAll.on hA8 (Tups.of e89)) d9) (Tups.put (e89 _ _ hx8))
      have ix : ixN xs.length r2 = some r2.toNat := by
        unfold ixN
        rw [if_pos a0, if_pos (by omega)]
      have dg6 : DtAll K H8 gs (h.map dG) := DtAll.on hg6 t68
      have sq8 : SqT K H8 a6 gs := SqU.t (SqU.on sq6 t68)
      have dall : DtAll K H8 (gs ++ [.ref p1]) ((h ++ [(wh, x)]).map dG) := by rw [List.map_append]; exact DpAll.app dg6 dnew
      refine ⟨a6, p2, gs, _, rfl, rfl, sq8, SqT.of hp2', ?_, ?_, ?_, ?_⟩
      · rw [List.length_singleton]; exact Nat.le_of_lt (small1000 (by omega))
      · intro e
        subst e
        refine ⟨_, rfl, _, rfl, D, xs, r2, r2.toNat, rfl, rfl, hx8, ix, ?_⟩
        exact fin H8 (.ref p2) (Same.refl _) (Dt.mk hp2' dall)
      · intro _ e
        cases e
      · intro _ _ p hp
        have hx9 : (upd H8 p (.tup (gs ++ [.ref p1]))) D = some (.lst xs) := (same_new hp _) _ _ hx8
        refine ⟨_, rfl, _, rfl, D, xs, r2, r2.toNat, rfl, rfl, hx9, ix, ?_⟩
        exact fin _ (.ref p) (same_new hp _) (Dt.mk upd_same (DtAll.on dall (Tups.of (same_new hp _))))
    · rintro σ H4 ⟨c5, c6, c7, xs, S, rfl, hx, hA, hl, ht, ok, s4⟩
      exact ret H4 xs S c5 c6 c7 hx hA ⟨by omega, by omega, by omega, ok⟩ s4
  · refine ⟨_, rfl, _, _, rfl, rfl, _, rfl, ?_⟩
    rw [decide_eq_false h1]
    refine iteF ⟨0, rfl, by omega, by omega, ?_⟩
    refine for_range (lo := 0) (n := (0 : Int).toNat) (fun i σ H' => σ = [some (.ref b), some (.int n), some (.int m), some (.int (1 + (k : Int))), some (.ref D), none, none, none] ∧ H' = H2) ⟨rfl, rfl⟩ (fun i σ H' hi _ => absurd hi (Nat.not_lt_zero _)) ?_
    rintro σ H3 ⟨rfl, rfl⟩
    exact ret _ xs0 (List.replicate (1 + k) []) none none none p1 p2 ⟨by rw [List.length_replicate]; omega, by rw [List.length_replicate]; omega, by rw [total_rep]; omega, OkS.rep _⟩ s2
end

/-! ### the program: heaps and standings told anew -/
abbrev sHeapOf : Stmt := top 5
abbrev nHeapOf : List Str := ["grudges", "about", "word"]
abbrev pHeapOf : List Str := ["grudges"]
section
variable {P : Program} {w : World} {K : PySem.W.Frag} {mg : Str → Option Value} {base : Heap}
def spHeapOf (K : PySem.W.Frag) : Sp := fun vs H Q _ => ∃ (v : V) (d : PyData) (h : List Gr), vs = [v] ∧ Dp K H v d ∧ tupled d = dH h ∧ h.length ≤ 1000 ∧ ∀ (H' : Hp) (u : V), Same H H' → Dt K H' u (dH h) → Q u H'
theorem scHeapOf : FnScope nHeapOf pHeapOf (defScope sHeapOf) := ⟨rfl, rfl, rfl, by decide +kernel, rfl, by decide +kernel, by decide +kernel⟩
theorem ok_heapOf {f : Addr} {fd : FuncData} (F : Fun K "heap_of" "heap_of" sHeapOf f fd) (T : Nb mg) : FnOk P w K mg base CX0 1 f fd pHeapOf (spHeapOf K) := by
  refine F.ok scHeapOf (fun vs H Q E h => ?_) (fun cdv A outer s H vs Q E hr h => ?_)
  · obtain ⟨v, d, h, rfl, _⟩ := h
    rfl
  obtain ⟨v, d, h, rfl, hv, he, hl, q⟩ := h
  have nd := scHeapOf.nd
  refine ⟨_, pss_one (ps_ret (pe_callTy call_tuple_of (by rfl) T.tuple (by decide +kernel) (pa_cons (pe_lc (own := [("about", 1), ("word", 2)]) (g := gPair K 1 2) (tt := tYes) rfl nd (pi_seq (pv 0)) (blkOk_by (own := [("about", 1), ("word", 2)]) (N := nHeapOf) (sc := defScope sHeapOf) (by decide +kernel))
    (fun _ _ _ _ _ => pg_two (pg_tup rfl (pgs_cons (pg_name (i := 1) nd rfl (Or.inl rfl)) (pgs_cons (pg_name (i := 2) nd rfl (Or.inl rfl)) pgs_nil))) (pg_lst rfl (pgs_cons (pg_name (i := 1) nd rfl (Or.inl rfl)) (pgs_cons (pg_name (i := 2) nd rfl (Or.inl rfl)) pgs_nil))))
    (fun _ _ _ _ _ => pts_nil) (fun _ _ _ _ _ => pe_tup (pa_cons (pv 1) (pa_cons (pv 2) pa_nil)))) pa_nil))), ?_⟩
  obtain ⟨a, xs, rfl, sq, lx, hx⟩ := heap_inv hv he
  dsimp only [tRet, tCB, tCons]
  refine lc_seq (fun k q => ⟨_, rfl, q⟩) sq (fun D i H' => ∃ acc, H' D = some (.lst acc) ∧ DtAll K H' acc ((h.take i).map dG) ∧ acc.length = i ∧ Same H H') (fun D hD => ⟨[], upd_same, .nil, rfl, same_new hD _⟩) (fun D i H' _ p => p.choose_spec.2.2.2) ?_ ?_
  · rintro D i x H' hD hi ⟨acc, p1, p2, p3, p4⟩
    obtain ⟨g, b, hg, rfl, sg⟩ := hx i x hi
    have il : i < 1000 := by have := (List.getElem?_eq_some_iff.mp hi).1; omega
    refine gpair (sg.imp p4.seq (Same.seqT p4)) ⟨rfl, _, rfl, _, rfl, (by show 2 ≤ sizeLine; decide), fun p hp => ?_⟩
    have nD : D ≠ p := ne_of_none p1 hp
    have t1 : Tups H' (upd H' p (.tup [.int g.1, .str g.2])) := Tups.of (same_new hp _)
    have hD2 : (upd H' p (.tup [.int g.1, .str g.2])) D = some (.lst acc) := by rw [upd_ne nD]; exact p1
    refine ⟨acc, hD2, by rw [p3]; exact small1000 (by omega), acc ++ [.ref p], upd_same, ?_, by rw [List.length_append, p3]; rfl, same_put hD (p4.trans (same_new hp _))⟩
    have tk : (h.take (i + 1)).map dG = (h.take i).map dG ++ [dG g] := by rw [List.take_add_one, hg, List.map_append]; rfl
    rw [tk]
    exact DtAll.on (DtAll.snoc p2 t1 (Dt.mk upd_same (.cons (.int _) (.cons (.str _) .nil)))) (Tups.put hD2)
  · rintro D H' hD ⟨acc, p1, p2, p3, p4⟩
    rw [lx, List.take_length] at p2
    exact ⟨D, acc, rfl, .inl ⟨SqL.of p1, fun l hl' => q _ _ (p4.trans (same_new hl' _)) (Dt.mk upd_same (DtAll.on p2 (Tups.of (same_new hl' _))))⟩⟩
end
end Gc

set_option Elab.async false
set_option linter.all false
set_option maxRecDepth 100000
set_option maxHeartbeats 4000000
/-! Own exceptions straight under a built-in one, whose __init__ calls that one's and stores one field. -/
namespace Gc
open PySem PySem.Spec PyProof.Rows L2

/-- what the mro of a built-in exception says -/
structure TailB (bm : List Value) (Bn newId initId : String) : Prop where
  F : ExcBaseFacts Bn newId initId bm
  pass : ∀ self : Value, refuseLoop self "__setattr__" bm = pure ()
  obj : bm.contains (.type "object") = true
abbrev mroLE : List Value := [.type "LookupError", .type "Exception", .type "BaseException", .type "object"]
abbrev mroRE : List Value := [.type "RuntimeError", .type "Exception", .type "BaseException", .type "object"]
abbrev mroVE : List Value := [.type "ValueError", .type "Exception", .type "BaseException", .type "object"]
abbrev mroOE : List Value := [.type "OverflowError", .type "ArithmeticError", .type "Exception", .type "BaseException", .type "object"]
theorem tailLE : TailB mroLE "LookupError" "LookupError.__new__" "LookupError.__init__" := ⟨F.excBase_LookupError, fun self => F.store_LookupError.passes self, by decide +kernel⟩
theorem tailRE : TailB mroRE "RuntimeError" "RuntimeError.__new__" "RuntimeError.__init__" := ⟨F.excBase_RuntimeError, fun self => F.store_RuntimeError.passes self, by decide +kernel⟩
theorem tailVE : TailB mroVE "ValueError" "ValueError.__new__" "ValueError.__init__" := ⟨F.excBase_ValueError, fun self => F.store_ValueError.passes self, by decide +kernel⟩
theorem tailOE : TailB mroOE "OverflowError" "OverflowError.__new__" "OverflowError.__init__" := ⟨F.excBase_OverflowError, fun self => F.store_OverflowError.passes self, by decide +kernel⟩
/-- what the written part says of such a class -/
structure ExcK (K : PySem.W.Frag) (C : Addr) (bm : List Value) (newId : String) : Prop where
  cls : ∃ nm q N bs sn sub ab col dd k0 k1 k2 k3 k5, K.lookup C = some (excClassObj nm q C N bs bm true sn sub ab col dd k0 k1 k2 k3 k5 newId)
  sa : PySem.W.findIn K (.ref C) "__setattr__" = some (some (.builtin "object.__setattr__"))
  exC : PySem.W.subIn K (.ref C) (.type "BaseException") = some true
  tyC : PySem.W.typeIn K (.ref C) = some (.type "type")
  kC : PySem.W.keepIn K (.ref C) = true
section
open PySem.HandSPX Builtin Builtin.ObjectAttr
variable {prog : Program} {w : World} {A : Around} {R : Result → Shared → Prop} {hp : Heap} {g : Array GenState} {d : Drawn} {t : Nat} {os : OsState}
/-- the first field of an exception -/
theorem osa_first {K : PySem.W.Frag} {nm : Str} {tk : Tok} {v : Value} {e C : Addr} {fv : Array Value} {cd : ClassData} {bm : List Value} {Bn newId initId : String} (B : TailB bm Bn newId initId) (kin : K.In hp) (he : hp.get? e = some { cls := .ref C, data := .fields fv })
    (hcd : PySem.W.clsIn K C = some cd) (hm : cd.mro = .ref C :: bm) (hd : cd.hasDict = true) (hno : PySem.W.findIn K (.ref C) nm = some none)
    (hq : ∀ h' tk' dx, (∀ b o, b ≠ e → hp.get? b = some o → h'.get? b = some o) → hp.objs.size ≤ dx → dx ≠ e → h'.get? e = some { cls := .ref C, dict := some dx, data := .fields fv } → h'.Ns1 dx (fun y => if y = nm then some v else none) → R (.ok (.ret .none)) ⟨h', g, d, tk', os⟩) :
    codeAny (model prog w) A (.call (.builtin "object.__setattr__") ⟨[.ref e, .str nm tk, v], []⟩) R ⟨hp, g, d, t, os⟩ := by
  have inst : PySem.W.InstAt hp e { cls := .ref C, data := .fields fv } C none := ⟨he, rfl, rfl, trivial⟩
  have ne : cd.mro.isEmpty = false := by rw [hm]; rfl
  have hob : cd.mro.contains (.type "object") = true := by rw [hm, List.contains_cons, B.obj, Bool.or_true]
  have fresh : e ≠ hp.objs.size := Nat.ne_of_lt (Heap.lt_size he)
  have isO : PySem.W.Looks (model prog w) hp (isInstance (.ref e) (.type "object")) true := inst.type.andThen (PySem.W.looks_mroIn kin (by unfold PySem.W.mroIn; rw [hcd, Option.bind_some, if_neg (by rw [ne]; decide), hob]))
  have SO := F.store_object
  refine codeAny_call_builtin SO.slot.plain SO.entry (@PySem.W.check_slot (model prog w) _ _ ⟨hp, g, d, t, os⟩ "object.__setattr__" "object" "__setattr__" (.ref e) [.str nm tk, v] [] _ SO.kind SO.split isO (SO.args (.ref e) (.str nm tk) v) ?_)
  have lm : PySem.W.Looks (model prog w) hp (mroOf (.ref C)) cd.mro := (PySem.W.looks_clsIn kin hcd).andThen .now
  have lt : PySem.W.Looks (model prog w) hp (storeTaker? none) none := .now
  have lc : PySem.W.Looks (model prog w) hp (classData C) cd := PySem.W.looks_clsIn kin hcd
  rw [PySem.W.osa_eq, refuse_eq]
  refine wpAny_bind (wpAny_bind (inst.type.at (wpAny_bind (lm.at ?_))))
  rw [hm, refuseLoop_ref, B.pass]
  refine wpAny_pure (wpAny_bind (inst.type.at (wpAny_bind ((PySem.W.looks_findIn kin hno).at (wpAny_bind (lt.at ?_))))))
  show wpAny _ _ (storeInOwnDict (.ref e) (.ref C) (.str nm tk) nm v false) _ _ _
  obtain ⟨cn, cb, cm, cs, cq, ch, c1, c2, c3, c4, c5⟩ := cd
  have ch1 : ch = true := hd
  subst ch1
  (unfold storeInOwnDict ownDictForStores; repeat (first | with_reducible refine store_in_new ?_ ?_ | with_reducible refine wpAny_loadPart_at he ?_ | with_reducible refine lc.at ?_ | wp_step))
  · exact ⟨_, #[], _, (Heap.get?_update_ne _ _ _ _ fresh.symm).trans (Heap.get?_push_at rfl rfl), rfl, fun z hz => absurd hz (by simp), fun _ => rfl⟩
  · intro h' tk' hn' sb
    have he1 : (hp.push { cls := .type "dict", data := .dict #[] }).get? e = some { cls := .ref C, data := .fields fv } := Heap.get?_push_of_some _ he
    refine hq h' tk' hp.objs.size (fun b o hb ho => ?_) (Nat.le_refl _) fresh.symm ?_ hn'
    · exact (sb.2 b (Nat.ne_of_lt (Heap.lt_size ho))).trans ((Heap.get?_update_ne _ _ _ _ hb).trans (Heap.get?_push_of_some _ ho))
    · exact (sb.2 e fresh).trans (Heap.get?_update_self _ he1 rfl)
end
section
variable {X : Cx} {pins : List (Addr × Obj)} {σ : L2.St} {H : Hp} {s : Shared} {a C dx : Addr} {f : Str} {y : V} {u : Value} {A : Around} {bm : List Value} {Bn newId initId : String}
theorem ExcK.data (T : ExcK X.K C bm newId) : ∃ cd : ClassData, PySem.W.clsIn X.K C = some cd ∧ cd.mro = .ref C :: bm ∧ cd.hasDict = true := by
  obtain ⟨nm, q, N, bs, sn, sub, ab, col, dd, k0, k1, k2, k3, k5, hC⟩ := T.cls
  refine ⟨{ name := nm, bases := bs, mro := .ref C :: bm, ns := N, qualname := q, hasDict := true, slotNames := sn, subclasses := sub, abstract := ab, collection := col, hasDel := false }, ?_, rfl, rfl⟩
  unfold PySem.W.clsIn
  rw [hC] <;> rfl
/-- self.f = y -/
theorem est_first {Q : Unit → Shared → Prop} {E : Value → Shared → Prop} (T : ExcK X.K C bm newId) (B : TailB bm Bn newId initId) (I : Inv X pins σ H s) (e : H a = some (exo a C none)) (hno : PySem.W.findIn X.K (.ref C) f = some none) (ry : RelV y u)
    (h : ∀ dx s', H dx = none → dx ≠ a → Inv X pins σ (upd (upd H dx (exd dx [(f, y)])) a (exo a C (some dx))) s' → Q () s') : wpAny (model X.prog X.w) A (setAttr (.ref a) f u) Q E s := by
  obtain ⟨cd, hcl, hm, hd⟩ := T.data
  obtain ⟨t1, ho⟩ := exo_at I.hok e
  obtain ⟨hp, g, d, t, os⟩ := s
  refine PySem.W.set_plain I.kIn (ox := { cls := .ref C, dict := none, data := .fields #[.ref t1, .none, .none, .none, .bool false, .none] }) (od := none) ⟨ho, rfl, rfl, trivial⟩ T.sa ?_
  refine osa_first B I.kIn ho hcl hm hd hno (fun h' tk' dx k dn dne hx hn => ?_)
  have nD : H dx = none := I.hok.fresh dn
  have old : ∀ {b : Addr} {o : Obj}, hp.get? b = some o → b ≠ dx := fun {b o} q => Nat.ne_of_lt (Nat.lt_of_lt_of_le (Heap.lt_size q) dn)
  have na : ∀ {b : Addr}, H b = none → b ≠ a := fun {b} n z => by rw [z, e] at n; cases n
  have un : Un X.fs [] H (upd (upd H dx (exd dx [(f, y)])) a (exo a C (some dx))) hp h' := ⟨fun b o q n _ _ => k b o (na n) q, fun b o q n _ _ => ⟨o.slots, k b o (na n) q⟩, fun b o q n _ => by rw [upd_ne (na n), upd_ne (old q)]; exact n,
    fun b o q _ => by
      by_cases hb : b = a
      · exact ⟨_, by rw [hb]; exact hx⟩
      · exact ⟨o, k b o hb q⟩,
    fun b xs q => by rw [upd_ne (at_ne e q exo_tup), upd_ne (ne_of_none q nD)]; exact q, fun b o v q => by rw [upd_ne (at_ne e q exo_frz), upd_ne (ne_of_none q nD)]; exact q, fun b ps q => ⟨#[], by rw [upd_ne (at_ne e q exo_tbl), upd_ne (ne_of_none q nD), q]; simp⟩⟩
  refine h dx _ nD dne (I.un (t' := tk') un fun b o q => ?_)
  by_cases hb : b = a
  · subst hb
    rw [upd_same] at q
    cases q
    exact exo_ok hx
  · rw [upd_ne hb] at q
    by_cases hd : b = dx
    · subst hd
      rw [upd_same] at q
      cases q
      exact exd_ok hn (relO_put (fs := []) ry fun g => True.intro)
    · rw [upd_ne hd] at q
      refine (I.hok b o q).stay (fun c v hc z => k c v ?_ z) (fun c hc => ?_) (fun c xs hc => ?_)
      · rcases hc with hc | hc
        · rw [hc]; exact hb
        · exact at_ne e hc exo_own
      · rw [upd_ne (at_ne e hc exo_own), upd_ne (ne_of_none hc nD)]; exact hc
      · rw [upd_ne (at_ne e hc exo_tup), upd_ne (ne_of_none hc nD)]; exact hc
/-- B.__init__(self, ..) -/
theorem einit_ok {us : List Value} {Q : Value → Shared → Prop} {E : Value → Shared → Prop} (T : ExcK X.K C bm newId) (B : TailB bm Bn newId initId) (I : Inv X pins σ H s) (e : H a = some (exo a C none)) (hl : us.length ≤ sizeLine) (h : ∀ s', Inv X pins σ H s' → Q .none s') :
    wpAny (model X.prog X.w) A (call (.builtin initId) (.ref a :: us)) Q E s := by
  obtain ⟨nm, q, N, bs, sn, sub, ab, col, dd, k0, k1, k2, k3, k5, hC⟩ := T.cls
  obtain ⟨t1, ho⟩ := exo_at I.hok e
  obtain ⟨hp, g, d, t, os⟩ := s
  refine wpAny_call (PySem.HandSPX.init_base B.F (fun _ => rfl) (I.kIn _ _ hC) ho hl fun h' t2 k hx => ?_)
  have J := I.write (t' := t) (x := a) (e := a) (o := exo a C none) (by rw [e]; exact True.intro) (.inl rfl) k ⟨_, hx⟩ (exo_ok hx)
  have eu : upd H a (exo a C none) = H := funext fun b => by
    by_cases hb : b = a
    · rw [hb, upd_same, e]
    · rw [upd_ne hb]
  rw [eu] at J
  exact h _ J
end
end Gc

set_option Elab.async false
set_option linter.all false
set_option maxRecDepth 100000
set_option maxHeartbeats 4000000
namespace Gc
open PySem PySem.Spec PyProof.Rows L2

/-- B.__init__(self, ..): nothing of it is told -/
def tBi (K : PySem.W.Frag) (bm : List Value) (newId : String) (ta : TA) : TE := fun σ H Q => ta σ H fun vs H1 => ∃ (a C : Addr) (ws : List V), vs = .ref a :: ws ∧ ws.length ≤ 1000 ∧ ExcK K C bm newId ∧ H1 a = some (exo a C none) ∧ Q .non H1
/-- self.f = e, the first field -/
def tEst (K : PySem.W.Frag) (f : Str) (bm : List Value) (newId : String) (to te : TE) : TS := fun D σ H => te σ H fun y H1 => to σ H1 fun x H2 => ∃ a C : Addr, x = .ref a ∧ ExcK K C bm newId ∧ PySem.W.findIn K (.ref C) f = some none ∧ H2 a = some (exo a C none) ∧ ∀ dx, H2 dx = none → dx ≠ a → D.nx σ (upd (upd H2 dx (exd dx [(f, y)])) a (exo a C (some dx)))
/-- C(e) -/
def tMkE (C : Addr) (f : Str) (ta : TA) : L2.St → Hp → XK → Prop := fun σ H Q => ta σ H fun vs H1 => ∃ y, vs = [y] ∧ ∀ d, H1 d = none → Q (.ref C) (some d) (upd H1 d (.xd [(f, y)]))
/-- __init__ of such a class -/
def spEx (C : Addr) (f : Str) : Sp := fun vs H Q _ => ∃ (a : Addr) (y : V), vs = [.ref a, y] ∧ H a = some (exo a C none) ∧ ∀ d, H d = none → d ≠ a → Q .non (upd (upd H d (exd d [(f, y)])) a (exo a C (some d)))
section
variable {X : Cx} {o e : Expr} {es : List Expr} {to te : TE} {ta : TA} {f : Str} {p p' p1 p2 pos : Pos} {bm : List Value} {Bn newId initId : String}
theorem ps_est (B : TailB bm Bn newId initId) (ho : PE X o to) (he : PE X e te) (hs : swapsWith e (some (.Attribute o f p')) pos.line X.env = pure false := by rfl) : PS X (.Assign [.Attribute o f p'] e pos) (tEst X.K f bm newId to te) := by
  refine ⟨fun pins s σ H D I h => ?_⟩
  refine plainObj_wpAny_Assign_Attribute (thn (he.run pins s σ H _ I h) fun v s1 ⟨y, H1, I1, r1, q1⟩ => thn (ho.run pins s1 σ H1 _ I1 q1) fun u s2 ⟨x, H2, I2, r2, a, C, ex, T, hno, ea, q⟩ => ?_) hs
  cases ex
  cases (show u = Value.ref a from r2)
  exact est_first T B I2 ea hno r1 fun dx s' n ne J => ⟨σ, _, J, q dx n ne⟩
/-- C(e), C's __init__ such -/
theorem pmk_ex {CX : CXT} {x : Str} {C fI : Addr} {k : Nat} {fd : FuncData} {ps : List Str} (B : TailB bm Bn newId initId) (T : ExcK X.K C bm newId) (iC : PySem.W.findIn X.K (.ref C) "__init__" = some (some (.ref fI))) (tI : PySem.W.typeIn X.K (.ref fI) = some (.type "function"))
    (F1 : FnOk X.prog X.w X.K X.mg X.base CX k fI fd ps (spEx C f)) (hr : Room (k + 1) X.A) (hb : Binds X.K fd ps []) (hx : Passes CX X (fun _ _ _ => False)) (hg : Gl X x) (hm : X.mg x = some (.ref C)) (ha : PA X (e :: es) ta)
    (hdb : (x == ("__debug__" : Str)) = false := by decide) (he : starEach (e :: es) X.env = (false, eval e X.env) :: starEach es X.env := by rfl) (hpl : (backTo pos (starEach es X.env)).any (·.1) = false := by rfl) :
    PMk X (.Call (.Name x p) (e :: es) [] pos) (tMkE C f ta) := by
  intro pins s σ H Q I h
  obtain ⟨nm, q, N, bs, sn, sub, ab, col, dd, k0, k1, k2, k3, k5, hC⟩ := T.cls
  refine wpAny_Call_Name_kw (ld_glob I hg hm ?_ hdb)
  refine PySem.W.callWith_K (h₀ := X.base) I.ok.mod.kin T.kC (thn (ha.run pos pins s σ H _ I h) fun us s1 ⟨vs, H1, I1, r1, y, ev, q1⟩ => ⟨I1.kIn, ?_⟩) he hpl
  subst ev
  show wpAny _ _ (call (.ref C) us) _ _ _
  obtain ⟨hp, g, dr, tk, os⟩ := s1
  have hsz : hp.objs.size ≤ hp.objs.size + 1 := Nat.le_succ _
  have hn : H1 (hp.objs.size + 1) = none := I1.hok.fresh hsz
  have kk : ∀ b o, hp.get? b = some o → ((hp.push (PySem.W.kdv_tup us)).push (PySem.HandSPX.excO C hp.objs.size)).get? b = some o := fun b o e => Heap.get?_push_of_some _ (Heap.get?_push_of_some _ e)
  have hget : ((hp.push (PySem.W.kdv_tup us)).push (PySem.HandSPX.excO C hp.objs.size)).get? (hp.objs.size + 1) = some (PySem.HandSPX.excO C hp.objs.size) := by heap_get
  have I2 : Inv X pins σ (upd H1 (hp.objs.size + 1) (exo (hp.objs.size + 1) C none)) ⟨(hp.push (PySem.W.kdv_tup us)).push (PySem.HandSPX.excO C hp.objs.size), g, dr, tk, os⟩ :=
    I1.laid (t' := tk) (a := hp.objs.size + 1) (o := exo (hp.objs.size + 1) C none) (h' := (hp.push (PySem.W.kdv_tup us)).push (PySem.HandSPX.excO C hp.objs.size)) kk hsz (exo_ok hget)
  have r2 : Vals (V.ref (hp.objs.size + 1) :: [y]) (Value.ref (hp.objs.size + 1) :: us) := .cons rfl r1
  have hsp : spEx C f [V.ref (hp.objs.size + 1), y] (upd H1 (hp.objs.size + 1) (exo (hp.objs.size + 1) C none)) (fun v H2 => v = .non ∧ ∃ d, H2 (hp.objs.size + 1) = some (exo (hp.objs.size + 1) C (some d)) ∧ H2 d = some (exd d [(f, y)]) ∧ H1 d = none ∧ Q (.ref C) (some d) (upd (del H2 (hp.objs.size + 1)) d (.xd [(f, y)]))) (fun _ _ _ => False) := by
    refine ⟨_, y, rfl, upd_same, fun d hd dne => ⟨rfl, d, upd_same, by rw [upd_ne dne, upd_same], ?_, ?_⟩⟩
    · rw [upd_ne dne] at hd
      exact hd
    · rw [upd_ne dne] at hd
      have eq : upd (del (upd (upd (upd H1 (hp.objs.size + 1) (exo (hp.objs.size + 1) C none)) d (exd d [(f, y)])) (hp.objs.size + 1) (exo (hp.objs.size + 1) C (some d))) (hp.objs.size + 1)) d (.xd [(f, y)]) = upd H1 d (.xd [(f, y)]) := funext fun b => by
        by_cases hbd : b = d
        · rw [hbd, upd_same, upd_same]
        · rw [upd_ne hbd, upd_ne hbd]
          by_cases hba : b = hp.objs.size + 1
          · rw [hba, del_same, hn]
          · rw [del_ne hba, upd_ne hba, upd_ne hbd, upd_ne hba]
      rw [eq]
      exact q1 d hd
  have hl : (Value.ref (hp.objs.size + 1) :: us).length = ps.length := by
    have e := r2.length
    rw [F1.len _ _ _ _ hsp] at e
    exact e.symm
  have hus : us.length ≤ sizeLine := by
    have := Paired.length r1
    rw [← this]
    show 1 ≤ sizeLine
    decide
  have hbd := hb _ (Value.ref (hp.objs.size + 1) :: us) I2.kIn (by rw [List.append_nil]; exact hl)
  rw [List.append_nil] at hbd
  refine wpAny_call (PySem.HandSPX.call_own B.F (fun _ => rfl) (I1.kIn _ _ hC) (PySem.W.looks_findIn I1.kIn iC) (fun self => PySem.W.bind_fn I1.kIn self tI) hus
    (codeAny_mono (F1.run _ X.stack _ _ ⟨Value.ref (hp.objs.size + 1) :: us, []⟩ (Value.ref (hp.objs.size + 1) :: us) _ _ (fun _ _ _ => False) (hr.make C us []) (I2.env0.make C us []) hbd r2 hsp) fun r s' hq' => ?_))
  match r, hq' with
  | .error er, hq' => exact hx pins σ _ _ er s' I2 hq'
  | .ok .next, hq' => exact hq'.elim
  | .ok .brk, hq' => exact hq'.elim
  | .ok .cont, hq' => exact hq'.elim
  | .ok (.ret u), hq' =>
    obtain ⟨v, H2, os2, bare2, un2, hok2, rv, ev, d, ea, ed, hd1, q2⟩ := hq'
    subst ev
    obtain ⟨h2, g2, d2, t2, os'⟩ := s'
    exact ⟨rv, mk_end (raises_own T.exC T.tyC) I1 hsz kk un2 hok2 os2 bare2 ea ed hd1 q2⟩
end
end Gc

set_option Elab.async false
set_option linter.all false
set_option maxRecDepth 100000
set_option maxHeartbeats 4000000
namespace Gc
open PySem PySem.Spec PyProof.Rows L2
section
variable {X : Cx} {e : Expr} {es : List Expr} {ta : TA} {p1 p2 pos : Pos}
theorem typ_LE : typeOf (.type "LookupError") = pure (.type "type") := by kernel_rfl
theorem pe_binitLE {pl : Sem Bool} (hg : Gl X "LookupError") (hm : X.mg "LookupError" = none) (vV : PySem.W.findCls X.K (.type "LookupError") (.type "type") "__init__" = some (.val (.builtin "LookupError.__init__"))) (ha : PA X (e :: es) ta)
    (hc : eval (.Call (.Attribute (.Name "LookupError" p1) "__init__" p2) (e :: es) [] pos) X.env = (do
      let ov ← eval (.Name "LookupError" p1) X.env
      standAt p2.atName
      let (f, first) ← holding [ov] (getMethod ov "__init__" pl)
      callWith pos f first (backTo pos (starEach (e :: es) X.env)) (backToKw pos (keywordEach [] X.env))) := by rfl)
    (he : starEach (e :: es) X.env = (false, eval e X.env) :: starEach es X.env := by rfl) (hpl : (backTo pos (starEach es X.env)).any (·.1) = false := by rfl) :
    PE X (.Call (.Attribute (.Name "LookupError" p1) "__init__" p2) (e :: es) [] pos) (tBi X.K mroLE "LookupError.__new__" ta) := by
  refine ⟨fun pins s σ H Q I h => ?_⟩
  refine PySem.W.methodCall_KW (ld_blt I hg hm PyProof.Rows.Boot.«LookupError» ?_ (by decide) (by decide)) hc
  obtain ⟨m, fr⟩ := I.fr
  refine PySem.W.method_type fr I.ok.mod.kin typ_LE (by decide +kernel) vV (by decide +kernel) ?_
  show wpAny _ _ (callWith pos (Value.builtin "LookupError.__init__") [] (backTo pos (starEach (e :: es) X.env)) []) _ _ _
  refine PyProof.Rows.callWith_method1 (thn (ha.run pos pins _ σ H _ (I.tok _) h) fun us s1 ⟨vs, H1, I1, r1, a, C, ws, ev, hl, T, ea, q⟩ => ?_) he hpl
  subst ev
  cases r1 with
  | @cons _ u0 _ ur ra rw' =>
    cases (show u0 = Value.ref a from ra)
    have hlen : ur.length ≤ sizeLine := by
      rw [← Paired.length rw', sizeLine_eq]
      omega
    exact einit_ok T tailLE I1 ea hlen fun s' J => ⟨.non, H1, J, rfl, q⟩
end
end Gc

set_option Elab.async false
set_option linter.all false
set_option maxRecDepth 100000
set_option maxHeartbeats 4000000
/-! A caught exception that is kept in a name behind the suite. -/
namespace Gc
open PySem PySem.Spec PyProof.Rows L2

/-- at a: an exception of the class cls with its dict at d, at rest -/
def ExV (cls : Value) (d : Option Addr) (a : Addr) : HO := .ext fun h => ∃ (oe : Obj) (vs : Array Value), h.get? a = some oe ∧ Zc cls d oe ∧ oe.data = .fields vs
theorem exV_ok {P : Program} {w : World} {H : Hp} {h : Heap} {a : Addr} {cls : Value} {d : Option Addr} {oe : Obj} {vs : Array Value} (e : h.get? a = some oe) (z : Zc cls d oe) (hd : oe.data = .fields vs) : ObjOk P w H h a (ExV cls d a) :=
  ⟨⟨oe, vs, e, z, hd⟩, ⟨oe, e⟩, fun _ _ ⟨o, v, q, r⟩ k => ⟨o, v, k o q, r⟩⟩
theorem exV_at {P : Program} {w : World} {H : Hp} {h : Heap} {a : Addr} {cls : Value} {d : Option Addr} (hok : HOk P w H h) (e : H a = some (ExV cls d a)) : ∃ (oe : Obj) (vs : Array Value), h.get? a = some oe ∧ Zc cls d oe ∧ oe.data = .fields vs := by
  have x : ObjOk P w H h a (.ext fun h => ∃ (oe : Obj) (vs : Array Value), h.get? a = some oe ∧ Zc cls d oe ∧ oe.data = .fields vs) := hok a _ e
  exact x.1
section
variable {X : Cx} {pins : List (Addr × Obj)} {σ : L2.St} {H : Hp} {s : Shared}
/-- the suite's exception stays pinned behind it -/
theorem Inv.unsuiteK {a : Addr} {q : Addr × Obj} {pn' : List (Addr × Obj)} (I : Inv (X.suite a (q :: (X.pn ++ pins))) pn' σ H s) (ok : X.Ok) : Inv X (q :: pins) σ H s := by
  refine ⟨ok, I.os, I.bare, I.base, I.loc, I.cell, I.free, I.freeC, fun p hp => I.pin p (List.mem_append_left _ ?_), I.hok, I.len⟩
  rcases List.mem_append.mp hp with h | h
  · exact List.mem_cons_of_mem _ (List.mem_append_left _ h)
  · rcases List.mem_cons.mp h with e | h
    · exact e ▸ List.mem_cons_self
    · exact List.mem_cons_of_mem _ (List.mem_append_right _ h)
/-- a pinned exception, new since the entry, is tracked -/
theorem Inv.track {a : Addr} {oe : Obj} {vs : Array Value} {cls : Value} {d : Option Addr} (I : Inv X ((a, oe) :: pins) σ H s) (n0 : X.s_0.heap.get? a = none) (np : ∀ p ∈ X.pn ++ pins, p.1 ≠ a) (z : Zc cls d oe) (hd : oe.data = .fields vs) :
    Inv X pins σ (upd H a (ExV cls d a)) s := by
  obtain ⟨ha, hn, nL, nF, _⟩ := I.pin (a, oe) (List.mem_append_right _ List.mem_cons_self)
  have old : ∀ {b : Addr} {o : Obj}, X.s_0.heap.get? b = some o → b ≠ a := fun {b o} e q => by rw [q, n0] at e; cases e
  refine ⟨I.ok, I.os, I.bare, ⟨I.base.keep, I.base.slot, fun b o e n hx => by rw [upd_ne (old e)]; exact I.base.free b o e n hx, I.base.there, fun b xs e => ?_, fun b o u e => ?_, fun b ps e => ?_⟩, I.loc, I.cell, by rw [upd_ne (Ne.symm nL)]; exact I.free, fun x c e => ?_, fun p hp => ?_, fun b u e => ?_, I.len⟩
  · have q := I.base.tups b xs e
    rw [upd_ne (ne_of_none q hn)]; exact q
  · have q := I.base.frzs b o u e
    rw [upd_ne (ne_of_none q hn)]; exact q
  · obtain ⟨m, q⟩ := I.base.tbls b ps e
    exact ⟨m, by rw [upd_ne (ne_of_none q hn)]; exact q⟩
  · have nc : c ≠ a := fun q => by
      obtain ⟨v, o, ho, hc⟩ := I.cell x c e
      have ha' : s.heap.get? a = some oe := ha
      rw [q, ha'] at ho
      cases ho
      rw [hd] at hc
      cases hc
    rw [upd_ne nc]; exact I.freeC x c e
  · have hp' : p ∈ X.pn ++ (a, oe) :: pins := by
      rcases List.mem_append.mp hp with h | h
      · exact List.mem_append_left _ h
      · exact List.mem_append_right _ (List.mem_cons_of_mem _ h)
    obtain ⟨q1, q2, q3, q4, q5⟩ := I.pin p hp'
    exact ⟨q1, by rw [upd_ne (np p hp)]; exact q2, q3, q4, q5⟩
  · by_cases hb : b = a
    · subst hb
      rw [upd_same] at e
      cases e
      exact exV_ok ha z hd
    · rw [upd_ne hb] at e
      exact (I.hok b u e).stay (fun c v _ q => q) (fun c q => by rw [upd_ne (ne_of_none q hn)]; exact q) fun c xs q => by rw [upd_ne (ne_of_none q hn)]; exact q
end
/-- a tuple of classes tells by each of them -/
def ExmTup (cs : List Value) : Prop := ∀ (M : Model) (K : PySem.W.Frag) (cls : Value) (tp e : Addr) (b : Bool) (h : Heap), K.In h → PySem.W.Looks M h (typeOf (.ref e)) cls → h.get? tp = some { cls := .type "tuple", data := .seq cs.toArray } → PySem.W.exmAny K cls cs = some b → PySem.W.Looks M h (excMatches (.ref e) (.ref tp)) b
theorem exmTup2 (c1 c2 : Value) : ExmTup [c1, c2] := fun M K cls tp e b h k l t x => PySem.W.exm_tup2 k l t x
theorem exmTup3 (c1 c2 c3 : Value) : ExmTup [c1, c2, c3] := fun M K cls tp e b h k l t x => PySem.W.exm_tup3 k l t x
theorem exmTup4 (c1 c2 c3 c4 : Value) : ExmTup [c1, c2, c3, c4] := fun M K cls tp e b h k l t x => PySem.W.exm_tup4 k l t x
/-- names of classes, one behind the other -/
inductive NamesAll (X : Cx) : List Expr → List Value → Prop
  | nil : NamesAll X [] []
  | cons {x : Str} {np : Pos} {c : Value} {es : List Expr} {cs : List Value} (h : Names X x c) (t : NamesAll X es cs) : NamesAll X (.Name x np :: es) (c :: cs)
theorem NamesAll.mono {X Y : Cx} (h : ∀ x c, Names X x c → Names Y x c) : ∀ {es : List Expr} {cs : List Value}, NamesAll X es cs → NamesAll Y es cs
  | _, _, .nil => .nil
  | _, _, .cons q t => .cons (h _ _ q) (NamesAll.mono h t)
theorem NamesAll.len {X : Cx} : ∀ {es : List Expr} {cs : List Value}, NamesAll X es cs → es.length = cs.length
  | _, _, .nil => rfl
  | _, _, .cons _ t => congrArg (· + 1) (NamesAll.len t)
section
variable {X : Cx} {pins : List (Addr × Obj)} {σ : L2.St} {H : Hp} {s : Shared} {E : Value → Shared → Prop}
theorem names_one {x : Str} {np : Pos} {c : Value} {Q : Value → Shared → Prop} (I : Inv X pins σ H s) (h : Names X x c) (q : Q c s) : wpAny (model X.prog X.w) X.A (eval (.Name x np) X.env) Q E s := by
  obtain ⟨hg, hdbg, hm | ⟨hm, hv, hnn⟩⟩ := h
  · exact ld_glob I hg hm q hdbg
  · exact ld_blt I hg hm hv q hnn hdbg
theorem names_eval {pos : Pos} : ∀ {es : List Expr} {cs : List Value} {Q : List Value → Shared → Prop}, NamesAll X es cs → Inv X pins σ H s → Q cs s → wpAny (model X.prog X.w) X.A (spliced (backTo pos (starEach es X.env))) Q E s
  | _, _, _, .nil, _, q => Calls.spliced_nil q
  | _, _, _, .cons h t, I, q => Calls.spliced_cons (names_one I h (names_eval t I q))
end
/-- what stays of a flight -/
theorem flying_on {base h h' : Heap} {l : List Env} {e : Addr} {Z : Obj → Prop} (x : HandSPX.FlyingZ base l e Z h) (k : ∀ b o, h.get? b = some o → h'.get? b = some o) : HandSPX.FlyingZ base l e Z h' := by
  obtain ⟨f1, f2, f3, oe, vs, T, oT, ts, h1, h2, h3, h4, h5, h6, h7, h8, h9⟩ := x
  exact ⟨fun b o q => k b o (f1 b o q), f2, Heap.FunFrames.of_keeps (fun b o q _ => ⟨o, k b o q, rfl⟩) f3, oe, vs, T, oT, ts, k _ _ h1, h2, h3, h4, h5, h6, k _ _ h7, h8, h9⟩
/-- what the clause 'except (..) as n' wishes, the exception kept: slot i is n's -/
def wKeep (K : PySem.W.Frag) (cs : List Value) (i : Nat) (ts : Addr → Value → Option Addr → TS) (Wout : WX) (D : Ends) : WX := fun cls d σ H =>
  ∃ b, PySem.W.exmAny K cls cs = some b ∧ (b = true → ∀ a, H a = none → ts a cls d { nx := fun σ' H' => D.nx (σ'.set i none) (upd H' a (ExV cls d a)), rt := fun v H' => D.rt v (upd H' a (ExV cls d a)), bk := fun σ' H' => D.bk (σ'.set i none) (upd H' a (ExV cls d a)), ct := fun σ' H' => D.ct (σ'.set i none) (upd H' a (ExV cls d a)) } (σ.set i (some (.ref a))) H) ∧
    (b = false → Wout cls d σ H)
section
variable {X : Cx} {n : Str} {es : List Expr} {cs : List Value} {i : Nat} {body suite : List Stmt} {b₀ : Stmt} {tp pos pos' : Pos} {tb : WX → TS} {ts : Addr → Value → Option Addr → TS} {Wout : WX} {k : Nat}
theorem ps_try_keep (hs : X.stack = X.env :: X.outer) (hf : X.env.frame = some X.env.locals) (hN : X.N.Nodup) (hi : X.N[i]? = some n) (hln : X.env.kindOf n = some .local) (hc : NamesAll X es cs) (hE : ExmTup cs) (hz : cs.length ≤ sizeLine) (hex : X.ex = []) (tk : Takes X Wout)
    (hb : ∀ (W : WX) (pn : List (Addr × Obj)) (xe : Value → Shared → Prop), Takes (X.tr pn xe) W → PassesOwn (model X.prog X.w) X.A X.env xe → PSs (X.tr pn xe) body (tb W))
    (hsu : ∀ (a : Addr) (oe : Obj) (cls : Value) (d : Option Addr) (pn : List (Addr × Obj)), Zc cls d oe → (∃ vs, oe.data = .fields vs) → PSs (X.suite a ((a, oe) :: pn)) (b₀ :: suite) (ts a cls d)) :
    PS X (.Try body [.ExceptHandler (some (.Tuple es k tp)) (some n) (b₀ :: suite) pos'] [] [] pos) (fun D σ H => tb (wKeep X.K cs i ts Wout D) D σ H) := by
  refine ⟨fun pins s σ H D I h => ?_⟩
  have ok := I.ok
  have frames : X.A.frames = some (X.env :: X.outer) := by rw [ok.frames, hs]
  have loc : Loc X.env.scope n := .inl hln
  refine wpAny_Try_except (wpAny_mono ((hb (wKeep X.K cs i ts Wout D) (X.pn ++ pins) (fun e s₁ => wpAny (model X.prog X.w) X.A (noteFrame e X.env) (fun _ s₂ => wpAny (model X.prog X.w) X.A (setFlight e none) (fun _ s₃ =>
    wpAny (model X.prog X.w) X.A (handleBy e X.env [.ExceptHandler (some (.Tuple es k tp)) (some n) (b₀ :: suite) pos']) (SP X pins D) X.xe s₃) X.xe s₂) X.xe s₁) (fun u s' xx => ?_) PassesOwn.looking).run [] s σ H D (I.toTry _) h) (fun f s1 hsp => ?_) (fun e s1 he => he))
  · obtain ⟨a, B, sI, pins', σ', H', cls, d, rfl, J0, nb, up, sky, na, os, ag, b, hb1, hyes, hno⟩ := xx
    have J : Inv X pins σ' H' sI := J0.ofTry ok
    have sky1 : Sky B (X.env :: X.outer) a (Zc cls d) X.env.locals s'.heap := by rw [← hs]; exact sky
    (show wpAny (model X.prog X.w) X.A (noteFrame (.ref a) X.env) _ _ _; refine Sky.land Zc.steady frames hf sky1 fun h3 fl3 up3 => ?_)
    obtain ⟨oe3, vs3, he3, hz3, hd3⟩ := fl3.there
    have nfr : a ∉ frs (X.env :: X.outer) := fun hm => by
      obtain ⟨_, o', e', hnf⟩ := fl3.2.2.1.mem hm
      rw [he3] at e'; cases e'
      exact hnf _ hd3
    have nL : a ≠ X.env.locals := fun z => nfr (List.mem_filterMap.mpr ⟨X.env, List.mem_cons_self, by rw [hf, z]⟩)
    have nF : a ∉ X.fs := fun hm => by
      obtain ⟨e, he, q⟩ := List.mem_filterMap.mp hm
      exact nfr (List.mem_filterMap.mpr ⟨e, List.mem_cons_of_mem _ he, q⟩)
    have nB : B.get? a = none := fl3.2.1
    have nI : sI.heap.get? a = none := by
      cases e : sI.heap.get? a with
      | none => rfl
      | some o =>
        have z := nb a o e (by rw [hs]; exact nfr)
        rw [nB] at z; cases z
    have n0 : X.s_0.heap.get? a = none := by
      cases e : X.s_0.heap.get? a with
      | none => rfl
      | some o =>
        obtain ⟨o', z⟩ := J.base.there a o e (by rw [hex]; exact fun q => nomatch q)
        rw [nI] at z; cases z
    have np : ∀ p ∈ X.pn ++ pins, p.1 ≠ a := fun p hp q => by
      have z := (J.pin p hp).1
      rw [q, nI] at z; cases z
    have J3 : Inv X pins σ' H' { s' with heap := h3 } := J.landed nb fl3.1 (up.trans up3) os ag
    have S3 := J3.suite he3 hd3 na nL nF
    refine wpAny_handleBy_cons (codeAny_handlers_test ?_) (by intro q; cases q)
    refine wpAny_Tuple_spliced (names_eval (X := X.suite a ((a, oe3) :: (X.pn ++ pins))) (NamesAll.mono (X := X) (Y := X.suite a ((a, oe3) :: (X.pn ++ pins))) (fun _ _ q => q) hc) S3 ⟨hz, ?_⟩)
    have kp : ∀ b o, h3.get? b = some o → (h3.push { cls := .type "tuple", data := .seq cs.toArray }).get? b = some o := fun b o e => Heap.get?_push_of_some _ e
    have flp := flying_on fl3 kp
    have upp : h3.UpToSlots (h3.push { cls := .type "tuple", data := .seq cs.toArray }) := .of_keeps kp
    have LT : PySem.W.Looks (model X.prog X.w) (h3.push { cls := .type "tuple", data := .seq cs.toArray }) (typeOf (.ref a)) cls := fun A Q E s q1 q => wpAny_typeOf_ref (q1 _ _ (kp _ _ he3)) (by rw [hz3.1]; exact q)
    have LM := hE (model X.prog X.w) X.K cls h3.objs.size a b _ (S3.kIn.keeps kp) LT (Heap.get?_push_size _ rfl) hb1
    refine LM.here ?_
    cases b with
    | true =>
      refine codeAny_handlers_suite_as (HandSPX.lands_againZ flp fun h4 fl4 up4 => ?_)
      have J4 : Inv X pins σ' H' { s' with heap := h4 } := J.landed nb fl4.1 (((up.trans up3).trans upp).trans up4) os ag
      obtain ⟨oe4, vs4, he4, hz4, hd4⟩ := fl4.there
      refine store_ok (X := X.suite a ((a, oe4) :: (X.pn ++ pins))) (v := .ref a) (J4.suite he4 hd4 na nL nF) hN hi loc rfl (fun s5 S5 => ?_) (.inr hln)
      refine wpAny_mono ((hsu a oe4 cls d (X.pn ++ pins) hz4 ⟨_, hd4⟩).run [] s5 _ H' _ S5 (hyes rfl a na)) (fun f s6 hsp => ?_) (fun _ _ z => False.elim z)
      have fin : ∀ {σ6 : L2.St} {H6 : Hp} {Q : Shared → Prop}, Inv (X.suite a ((a, oe4) :: (X.pn ++ pins))) [] σ6 H6 s6 → (∀ s7, Inv X pins (σ6.set i none) (upd H6 a (ExV cls d a)) s7 → Q s7) →
          wpAny (model X.prog X.w) X.A (do bindName X.env n .none; unbindBehindTheSuite X.env n pos') (fun _ s7 => Q s7) X.xe s6 := fun {σ6 H6 Q} S6 hq => gone_ok (Inv.unsuiteK S6 ok) hN hi hln fun s7 I7 => hq s7 (Inv.track I7 n0 np hz4 hd4)
      match f, hsp with
      | .next, ⟨σ6, H6, S6, q6⟩ => exact fin S6 fun s7 J7 => ⟨_, _, J7, q6⟩
      | .brk, ⟨σ6, H6, S6, q6⟩ => exact fin S6 fun s7 J7 => ⟨_, _, J7, q6⟩
      | .cont, ⟨σ6, H6, S6, q6⟩ => exact fin S6 fun s7 J7 => ⟨_, _, J7, q6⟩
      | .ret u, ⟨v6, σ6, H6, S6, r6, q6⟩ => exact fin S6 fun s7 J7 => ⟨_, _, _, J7, r6, q6⟩
    | false =>
      (show wpAny _ X.A (handleBy (.ref a) X.env []) _ _ _; refine wpAny_handleBy_nil ?_)
      obtain ⟨k1, k2, k3, oe, vs, T, oT, ts', he, hz', hd, h1, hr⟩ := id flp
      unfold PySem.passOn
      refine wpAny_bind (wpAny_field he hd h1 ?_)
      rw [if_neg (show ¬ ((Value.ref T == Value.none) = true) from by simp)]
      have out : wpAny (model X.prog X.w) X.A (setFlight (.ref a) X.env.frame) (fun _ s4 => wpAny (model X.prog X.w) X.A (throw (.ref a) : Sem Flow) (SP X pins D) X.xe s4) X.xe { s' with heap := h3.push { cls := .type "tuple", data := .seq cs.toArray } } := by
        rw [hf]
        exact HandSPX.setFlight_upZ flp fun h4 hh4 up4 => wpAny_throw (tk _ _ ⟨a, B, sI, pins, σ', H', cls, d, rfl, J, nb, ((up.trans up3).trans upp).trans up4, .inr (.inr (by rw [hs]; exact hh4)), na, os, ag, hno rfl⟩)
      first
        | exact wpAny_bind (wpAny_pure (wpAny_bind out))
        | exact wpAny_bind out
  · match f, hsp with
    | .next, ⟨σ', H', J', q⟩ => exact wpAny_execs_nil ⟨σ', H', J'.ofTry ok, q⟩
    | .brk, ⟨σ', H', J', q⟩ => exact ⟨σ', H', J'.ofTry ok, q⟩
    | .cont, ⟨σ', H', J', q⟩ => exact ⟨σ', H', J'.ofTry ok, q⟩
    | .ret u, ⟨v, σ', H', J', r, q⟩ => exact ⟨v, σ', H', J'.ofTry ok, r, q⟩
end
end Gc

set_option Elab.async false
set_option linter.all false
set_option maxRecDepth 100000
set_option maxHeartbeats 4000000
namespace Gc
open PySem PySem.Spec PyProof.Rows L2

section
variable {X : Cx} {pins : List (Addr × Obj)} {σ : L2.St} {H : Hp} {s : Shared}
/-- the kept exception's object and its dict's -/
theorem exV_inst {a C d : Addr} {fs : List (Str × V)} (I : Inv X pins σ H s) (ea : H a = some (ExV (.ref C) (some d) a)) (ed : H d = some (.xd fs)) :
    ∃ (oe od : Obj) (mA : Str → Option Value), PySem.W.InstAt s.heap a oe C (some od) ∧ s.heap.get? d = some od ∧ (∀ f, PySem.W.lookIn f od = some (mA f)) ∧ ∀ f, RelO (fs.lookup f) (mA f) := by
  obtain ⟨oe, vs, ha, hz, hd⟩ := exV_at I.hok ea
  have hx : ObjOk X.prog X.w H s.heap d (.xd fs) := I.hok d _ ed
  obtain ⟨mA, hns, hr⟩ := hx
  obtain ⟨od, ho, hl⟩ := lookIn_ns hns
  exact ⟨oe, od, mA, ⟨ha, hz.1, by unfold PySem.W.notCls; rw [hd] <;> rfl, by rw [hz.2]; exact ho⟩, ho, fun f => hl f, hr⟩
end
/-- isinstance(x, c), x a kept exception -/
def rIsV (K : PySem.W.Frag) : List V → Hp → VK → Prop := fun xs H Q => ∃ (a C d : Addr) (fs : List (Str × V)) (c : V) (cv : Value) (b : Bool), xs = [.ref a, c] ∧ H a = some (ExV (.ref C) (some d) a) ∧ H d = some (.xd fs) ∧ ExcC K C ∧ ClsV c cv ∧ PySem.W.kitOne K (.ref C) cv = some b ∧ Q (.bl b) H
/-- isinstance(x, (c, ..)), x a kept exception -/
def rIsVT (K : PySem.W.Frag) : List V → Hp → VK → Prop := fun xs H Q => ∃ (a C d tp : Addr) (fs : List (Str × V)) (cs : List V) (us : List Value) (b : Bool), xs = [.ref a, .ref tp] ∧ H a = some (ExV (.ref C) (some d) a) ∧ H d = some (.xd fs) ∧ ExcC K C ∧ H tp = some (.tup cs) ∧ Paired ClsV cs us ∧ PySem.W.kitAny K (.ref C) us = some b ∧ Q (.bl b) H
/-- x.f, x a kept exception -/
def tFv (K : PySem.W.Frag) (f : Str) (te : TE) : TE := fun σ H Q => te σ H fun x H1 => ∃ (a C d : Addr) (fs : List (Str × V)) (v : V), x = .ref a ∧ H1 a = some (ExV (.ref C) (some d) a) ∧ H1 d = some (.xd fs) ∧ XfC K C ∧ PySem.W.findIn K (.ref C) f = some none ∧ fs.lookup f = some v ∧ Q v H1
section
variable {X : Cx}
theorem excC_cls {K : PySem.W.Frag} {C : Addr} (T : ExcC K C) : (PySem.W.clsIn K C).isSome = true := by
  obtain ⟨cd, hc, _⟩ := PySem.W.any_some T.hd
  rw [hc]
  rfl
theorem call_isV : CallR X (.builtin "isinstance") (rIsV X.K) := by
  intro pins s σ H xs us Q I r h
  obtain ⟨a, C, d, fs, c, cv, b, rfl, ea, ed, T, hc, e, q⟩ := h
  obtain ⟨u1, u2, rfl, r1, r2⟩ := vals2 r
  cases (show u1 = Value.ref a from r1)
  have e2 := hc.eq r2
  subst e2
  obtain ⟨oe, od, mA, J, _⟩ := exV_inst I ea ed
  exact PySem.W.kia_one (PySem.W.kitx_exc (excC_cls T) T.hg T.hk T.hs T.ha T.hn T.ht T.hm) I.kIn J e (fun z => nomatch z) fun tk => ⟨.bl b, H, I.tok tk, rfl, q⟩
theorem call_isVT : CallR X (.builtin "isinstance") (rIsVT X.K) := by
  intro pins s σ H xs us Q I r h
  obtain ⟨a, C, d, tp, fs, cs, ws, b, rfl, ea, ed, T, hT, hc, e, q⟩ := h
  obtain ⟨u1, u2, rfl, r1, r2⟩ := vals2 r
  cases (show u1 = Value.ref a from r1)
  cases (show u2 = Value.ref tp from r2)
  obtain ⟨oe, od, mA, J, _⟩ := exV_inst I ea ed
  obtain ⟨_, its, rv, o, h1, h2, n, h3⟩ := (show ObjOk X.prog X.w H s.heap tp (.tup cs) from I.hok tp _ hT)
  have e3 := ClsV.all hc rv
  subst e3
  obtain ⟨oc, oD, dt, sl⟩ := o
  have h2' : oc = _ := h2
  have h3' : dt = _ := h3
  subst h2' h3'
  exact PySem.W.kia_tup (PySem.W.kitx_exc (excC_cls T) T.hg T.hk T.hs T.ha T.hn T.ht T.hm) I.kIn J h1 e (fun z => nomatch z) fun tk => ⟨.bl b, H, I.tok tk, rfl, q⟩
theorem pe_fv {e : Expr} {te : TE} {pos : Pos} {n : Str} (he : PE X e te) (hb : attributeBase e n X.env (eval e X.env) = eval e X.env := by rfl) : PE X (.Attribute e n pos) (tFv X.K n te) := by
  refine ⟨fun pins s σ H Q I h => ?_⟩
  refine attr_of hb (thn (he.run pins s σ H _ I h) fun u s1 ⟨x, H1, I1, rx, a, C, d, fs, v, ex, ea, ed, T, hno, l, q⟩ => ?_)
  subst ex
  cases (show u = Value.ref a from rx)
  obtain ⟨oe, od, mA, J, _, hl, hr⟩ := exV_inst I1 ea ed
  obtain ⟨w, hw, rw'⟩ := RelO.some_of (v := v) (o := mA n) (by rw [← l]; exact hr n)
  exact HandSPX.exc_get I1.kIn J T.ga T.gg T.exC (PySem.W.findObj_own T.hdC hno rfl (by rw [hl, hw])) (handed_of rw') ⟨v, H1, I1.tok _, rw', q⟩
end
/-- what is asked of a class that a clause or isinstance names -/
structure ClsK (K : PySem.W.Frag) (D : Addr) : Prop where
  ex : PySem.W.subIn K (.ref D) (.type "BaseException") = some true
  hd : PySem.W.hasDictIn K D = true
  ty : PySem.W.typeIn K (.ref D) = some (.type "type")
section
variable {K : PySem.W.Frag} {C D : Addr} {b : Bool} {T : String}
theorem exm_own (h : ClsK K D) (e : PySem.W.subIn K (.ref C) (.ref D) = some b) : PySem.W.exmOne K (.ref C) (.ref D) = some b := PySem.W.exm_ref h.ex h.hd h.ty e
theorem exm_two {cls c : Value} {r : List Value} {d : Bool} (h : PySem.W.exmOne K cls c = some b) (t : PySem.W.exmAny K cls r = some d) : PySem.W.exmAny K cls (c :: r) = some (b || d) := by
  show (match PySem.W.exmOne K cls c, PySem.W.exmAny K cls r with | some b, some d => some (b || d) | _, _ => none) = _
  rw [h, t]
theorem exm_none {cls : Value} : PySem.W.exmAny K cls [] = some false := rfl
theorem kit_self {t : Value} : PySem.W.kitOne K t t = some true := if_pos (beq_self_eq_true t)
theorem kit_other (h : ClsK K D) (self : PySem.W.subIn K (.ref C) (.ref C) = some true) (e : PySem.W.subIn K (.ref C) (.ref D) = some false) : PySem.W.kitOne K (.ref C) (.ref D) = some false := by
  have ne : ¬ (Value.ref C == Value.ref D) = true := fun q => by
    have q' := beq_iff_eq.mp q
    rw [← q', self] at e
    cases e
  show (if (Value.ref C == Value.ref D) = true then some true else PySem.W.kitCls K (.ref C) (.ref D)) = _
  rw [if_neg ne]
  obtain ⟨cd, hc, _⟩ := PySem.W.any_some h.hd
  have e2 : ((PySem.W.clsIn K D).isSome && PySem.W.typeIn K (.ref D) == some (.type "type")) = true := by rw [hc, h.ty] <;> rfl
  show (if ((PySem.W.clsIn K D).isSome && PySem.W.typeIn K (.ref D) == some (.type "type")) = true then PySem.W.subIn K (.ref C) (.ref D) else none) = _
  rw [if_pos e2]
  exact e
theorem kit_bltn (hm : PySem.W.kitMeta T = true) (e : PySem.W.subIn K (.ref C) (.type T) = some b) : PySem.W.kitOne K (.ref C) (.type T) = some b := by
  show (if (Value.ref C == Value.type T) = true then some true else (if PySem.W.kitMeta T = true then PySem.W.subIn K (.ref C) (.type T) else none)) = _
  rw [if_neg (by simp), if_pos hm]
  exact e
end
end Gc

set_option Elab.async false
set_option linter.all false
set_option maxRecDepth 100000
set_option maxHeartbeats 4000000
namespace Gc
open PySem PySem.Spec PyProof.Rows L2 RZ

/-- what a text says of such a class -/
structure ExcT (P : Program) (w : World) (K : PySem.W.Frag) (mg : Str → Option Value) (base : Heap) (nm f : Str) (C : Addr) (bm : List Value) (newId : String) : Prop where
  T : ExcK K C bm newId
  no : PySem.W.findIn K (.ref C) f = some none
  m : mg nm = some (.ref C)
  new : ∃ (fI : Addr) (fdI : FuncData) (ps : List Str), PySem.W.findIn K (.ref C) "__init__" = some (some (.ref fI)) ∧ PySem.W.typeIn K (.ref fI) = some (.type "function") ∧ FnOk P w K mg base CX0 1 fI fdI ps (spEx C f) ∧ Binds K fdI ps []

abbrev sNoDoveI : Stmt := inClass (top 1) 0
abbrev nNoDoveI : List Str := ["self", "dove"]
abbrev pNoDoveI : List Str := ["self", "dove"]
abbrev sNeed : Stmt := top 6
abbrev nNeed : List Str := ["standing", "dove"]
abbrev pNeed : List Str := ["standing", "dove"]
section
variable {P : Program} {w : World} {K : PySem.W.Frag} {mg : Str → Option Value} {base : Heap}
theorem scNoDoveI : FnScope nNoDoveI pNoDoveI (defScope sNoDoveI) := ⟨rfl, rfl, rfl, by decide +kernel, rfl, by decide +kernel, by decide +kernel⟩
theorem ok_noDoveI {f C : Addr} {fd : FuncData} (F : Fun K "__init__" "NoDove.__init__" sNoDoveI f fd) (T : ExcK K C mroLE "LookupError.__new__") (no : PySem.W.findIn K (.ref C) "dove" = some none) (mB : mg "LookupError" = none)
    (vV : PySem.W.findCls K (.type "LookupError") (.type "type") "__init__" = some (.val (.builtin "LookupError.__init__"))) : FnOk P w K mg base CX0 1 f fd pNoDoveI (spEx C "dove") := by
  refine F.ok scNoDoveI (fun vs H Q E h => ?_) (fun cdv A outer s H vs Q E hr h => ?_)
  · obtain ⟨a, y, rfl, _⟩ := h
    rfl
  obtain ⟨a, y, rfl, ea, q⟩ := h
  refine ⟨_, pss_cons (ps_expr (pe_binitLE (by rfl) mB vV (pa_cons (pv 0) (pa_cons pe_str pa_nil)))) (pss_one (ps_est tailLE (pv 0) (pv 1))), ?_⟩
  refine ⟨_, rfl, a, C, _, rfl, (by show 1 ≤ 1000; decide), T, ea, ?_⟩
  exact ⟨_, rfl, _, rfl, a, C, rfl, T, no, ea, fun dx h1 h2 => q dx h1 h2⟩
/-- is the dove there? -/
def spNeed (K : PySem.W.Frag) (C : Addr) : Sp := fun vs H Q E => ∃ (a : Addr) (xs : List V) (i : Int), vs = [.ref a, .int i] ∧ (SqL K H a xs ∨ SqT K H a xs) ∧ ((0 ≤ i ∧ i < (xs.length : Int)) → Q .non H) ∧ (¬ (0 ≤ i ∧ i < (xs.length : Int)) → ∀ d, H d = none → E (.ref C) (some d) (upd H d (.xd [("dove", .int i)])))
theorem scNeed : FnScope nNeed pNeed (defScope sNeed) := ⟨rfl, rfl, rfl, by decide +kernel, rfl, by decide +kernel, by decide +kernel⟩
theorem ok_need {f C : Addr} {fd : FuncData} (F : Fun K "need_dove" "need_dove" sNeed f fd) (T : Nb mg) (D : ExcT P w K mg base "NoDove" "dove" C mroLE "LookupError.__new__") : FnOk P w K mg base (L2.CX P w) 3 f fd pNeed (spNeed K C) := by
  refine F.okX scNeed (fun vs H Q E h => ?_) (fun cdv A outer s H vs Q E hr h => ?_)
  · obtain ⟨a, xs, i, rfl, _⟩ := h
    rfl
  obtain ⟨a, xs, i, rfl, sq, q1, q2⟩ := h
  obtain ⟨fI, fdI, ps, iC, tI, FI, bI⟩ := D.new
  refine ⟨_, pss_one (ps_if (pt_not (pt_chain op_le op_lt pe_int (pv 1) (pe_callB call_len_seq (by rfl) T.len PySem.boot_len (pa_cons (pv 0) pa_nil)))) (pss_one (ps_raise rfl (takes_of rfl rfl rfl rfl) (pmk_ex (f := "dove") tailLE D.T iC tI FI hr bI pass0 rfl D.m (pa_cons (pv 1) pa_nil)))) pss_nil), ?_⟩
  refine ⟨_, rfl, _, _, rfl, rfl, _, rfl, ?_⟩
  by_cases h0 : 0 ≤ i
  · rw [decide_eq_true h0]
    refine iteT ⟨_, rfl, a, xs, rfl, sq, _, _, rfl, rfl, _, rfl, ?_⟩
    by_cases h1 : i < (xs.length : Int)
    · rw [decide_eq_true h1]
      exact iteF (q1 ⟨h0, h1⟩)
    · rw [decide_eq_false h1]
      exact iteT ⟨_, rfl, _, rfl, fun d hd => q2 (fun z => h1 z.2) d hd⟩
  · rw [decide_eq_false h0]
    exact iteF ⟨_, rfl, iteT ⟨_, rfl, _, rfl, fun d hd => q2 (fun z => h0 z.1) d hd⟩⟩
end

abbrev sUpper : Stmt := top 7
abbrev nUpper : List Str := ["standing", "dove", "heap"]
abbrev pUpper : List Str := ["standing", "dove"]
abbrev sHeld : Stmt := top 8
abbrev nHeld : List Str := ["standing", "dove", "about", "target", "word"]
abbrev pHeld : List Str := ["standing", "dove", "about"]
abbrev sCount : Stmt := top 9
abbrev nCount : List Str := ["standing", "heap"]
abbrev pCount : List Str := ["standing"]
/-- the uppermost grudge, or none -/
def upD (h : List Gr) : PyData := match h.getLast? with
  | some g => dG g
  | none => .none
/-- the words about one -/
def wordsD (h : List Gr) (j : Int) : PyData := .tuple ((h.filter fun g => g.1 == j).map fun g => .str g.2)
theorem atI_last {α : Type} {xs : List α} {x : α} (h : xs.getLast? = some x) : atI xs (-1) = some x := by
  have ne : xs ≠ [] := fun e => by rw [e] at h; cases h
  have l0 : 0 < xs.length := List.length_pos_iff.mpr ne
  unfold atI ixN
  rw [if_neg (by decide), if_pos (by omega)]
  show xs[(-1 + (xs.length : Int)).toNat]? = some x
  have e : (-1 + (xs.length : Int)).toNat = xs.length - 1 := by omega
  rw [e, ← h, List.getLast?_eq_getElem?]
section
variable {P : Program} {w : World} {K : PySem.W.Frag} {mg : Str → Option Value} {base : Heap}
def spUpper (K : PySem.W.Frag) (C : Addr) : Sp := fun vs H Q E => ∃ (v : V) (d : PyData) (S : List (List Gr)) (i : Int), vs = [v, .int i] ∧ Dp K H v d ∧ tupled d = dS S ∧ Short 1000 S ∧
  ((0 ≤ i ∧ i < (S.length : Int)) → ∀ h, S[i.toNat]? = some h → ∀ (H' : Hp) (u : V), Same H H' → Dt K H' u (upD h) → Q u H') ∧ (¬ (0 ≤ i ∧ i < (S.length : Int)) → ∀ d, H d = none → E (.ref C) (some d) (upd H d (.xd [("dove", .int i)])))
theorem scUpper : FnScope nUpper pUpper (defScope sUpper) := ⟨rfl, rfl, rfl, by decide +kernel, rfl, by decide +kernel, by decide +kernel⟩
theorem ok_upper {f fn fh C : Addr} {fd fdn fdh : FuncData} (F : Fun K "uppermost" "uppermost" sUpper f fd) (T : Nb mg) (GN : FnOk P w K mg base (L2.CX P w) 3 fn fdn pNeed (spNeed K C)) (bN : Binds K fdn pNeed []) (kN : PySem.W.keepIn K (.ref fn) = true) (mN : mg "need_dove" = some (.ref fn))
    (GH : FnOk P w K mg base CX0 1 fh fdh pHeapOf (spHeapOf K)) (bH : Binds K fdh pHeapOf []) (kH : PySem.W.keepIn K (.ref fh) = true) (mH : mg "heap_of" = some (.ref fh)) : FnOk P w K mg base (L2.CX P w) 4 f fd pUpper (spUpper K C) := by
  refine F.okX scUpper (fun vs H Q E h => ?_) (fun cdv A outer s H vs Q E hr h => ?_)
  · obtain ⟨v, d, S, i, rfl, _⟩ := h
    rfl
  obtain ⟨v, d, S, i, rfl, hv, he, hS, q1, q2⟩ := h
  have nd := scUpper.nd
  refine ⟨_, pss_cons (ps_expr (pe_callS GN hr rfl mN kN bN (fun σ => passAt (takes_of rfl rfl rfl rfl) σ) (pa_cons (pv 0) (pa_cons (pv 1) pa_nil))))
    (pss_cons (ps_set (i := 2) nd rfl (Or.inl rfl) (pe_call GH (hr.mono (by decide)) rfl mH kH bH .nil pass0 (pa_cons (pe_ix (r := fun x y H Q => rIxL K x y H Q ∨ rIxT K x y H Q) (ix_list.or ix_tup) (pv 0) (pv 1) (fun _ _ => rfl)) pa_nil)))
    (pss_cons (ps_if (pt_not (pt_truth (pv 2) (by intro _; rfl))) (pss_one (ps_ret pe_non)) pss_nil)
    (pss_one (ps_ret (pe_ix ix_tup (pv 2) (pe_un un_neg pe_int) (fun _ _ => rfl)))))), ?_⟩
  obtain ⟨a, xs, rfl, sq, lx, hx⟩ := stand_inv hv he
  refine ⟨_, rfl, _, rfl, a, xs, i, rfl, sq, fun hin => ?_, fun hout => q2 (by rw [← lx]; exact hout)⟩
  rw [lx] at hin
  obtain ⟨z, hz1, hz2, _⟩ := atI_int (xs := xs) hin.1 (by omega)
  obtain ⟨h, e, hg, hd, ht⟩ := hx _ z hz1
  refine ⟨_, rfl, _, rfl, ix_either sq hz2 ?_⟩
  refine ⟨z, e, h, rfl, hd, ht, hS.2 h (List.mem_of_getElem? hg), fun H1 u e1 du => ?_⟩
  obtain ⟨b, ys, rfl, sb, tb⟩ := Dt.inv du
  refine ⟨_, rfl, _, .inr (.inl ⟨ys, sb.t, rfl⟩), ?_⟩
  have ly : ys.length = h.length := by rw [DpAll.len tb, List.length_map]
  cases hl : h.getLast? with
  | none =>
    have e0 : h = [] := List.getLast?_eq_none_iff.mp hl
    have y0 : ys = [] := List.eq_nil_of_length_eq_zero (by rw [ly, e0]; rfl)
    subst y0
    refine iteT (q1 hin h hg H1 .non e1 ?_)
    unfold upD
    rw [hl]
    exact .non
  | some g =>
    have ne : ys ≠ [] := fun z => by
      have hn : h = [] := List.eq_nil_of_length_eq_zero (by rw [← ly, z]; rfl)
      rw [hn] at hl
      cases hl
    have e0 : ys.isEmpty = false := by
      cases ys with
      | nil => exact absurd rfl ne
      | cons _ _ => rfl
    rw [e0]
    refine iteF ?_
    have gl : (h.map dG).getLast? = some (dG g) := by rw [List.getLast?_map, hl]; rfl
    have hi : (h.map dG)[(h.map dG).length - 1]? = some (dG g) := by rw [← List.getLast?_eq_getElem?]; exact gl
    obtain ⟨y, hy, dy⟩ := dt_got tb hi
    have yl : ys.getLast? = some y := by
      rw [List.getLast?_eq_getElem?, ly, ← hy, List.length_map]
    refine ⟨_, rfl, _, rfl, b, ys, -1, y, rfl, rfl, sb.t, atI_last yl, q1 hin h hg H1 y e1 ?_⟩
    unfold upD
    rw [hl]
    exact dy
def spHeld (K : PySem.W.Frag) (C : Addr) : Sp := fun vs H Q E => ∃ (v : V) (d : PyData) (S : List (List Gr)) (i j : Int), vs = [v, .int i, .int j] ∧ Dp K H v d ∧ tupled d = dS S ∧ Short 1000 S ∧
  ((0 ≤ i ∧ i < (S.length : Int)) → (0 ≤ j ∧ j < (S.length : Int)) → ∀ h, S[i.toNat]? = some h → ∀ (H' : Hp) (u : V), Same H H' → Dt K H' u (wordsD h j) → Q u H') ∧
  (¬ (0 ≤ i ∧ i < (S.length : Int)) → ∀ d, H d = none → E (.ref C) (some d) (upd H d (.xd [("dove", .int i)]))) ∧ ((0 ≤ i ∧ i < (S.length : Int)) → ¬ (0 ≤ j ∧ j < (S.length : Int)) → ∀ d, H d = none → E (.ref C) (some d) (upd H d (.xd [("dove", .int j)])))
theorem scHeld : FnScope nHeld pHeld (defScope sHeld) := ⟨rfl, rfl, rfl, by decide +kernel, rfl, by decide +kernel, by decide +kernel⟩
theorem ok_held {f fn C : Addr} {fd fdn : FuncData} (F : Fun K "held" "held" sHeld f fd) (T : Nb mg) (GN : FnOk P w K mg base (L2.CX P w) 3 fn fdn pNeed (spNeed K C)) (bN : Binds K fdn pNeed []) (kN : PySem.W.keepIn K (.ref fn) = true) (mN : mg "need_dove" = some (.ref fn)) :
    FnOk P w K mg base (L2.CX P w) 4 f fd pHeld (spHeld K C) := by
  refine F.okX scHeld (fun vs H Q E h => ?_) (fun cdv A outer s H vs Q E hr h => ?_)
  · obtain ⟨v, d, S, i, j, rfl, _⟩ := h
    rfl
  obtain ⟨v, d, S, i, j, rfl, hv, he, hS, q1, q2, q3⟩ := h
  have nd := scHeld.nd
  refine ⟨_, pss_cons (ps_expr (pe_callS GN hr rfl mN kN bN (fun σ => passAt (takes_of rfl rfl rfl rfl) σ) (pa_cons (pv 0) (pa_cons (pv 1) pa_nil))))
    (pss_cons (ps_expr (pe_callS GN hr rfl mN kN bN (fun σ => passAt (takes_of rfl rfl rfl rfl) σ) (pa_cons (pv 0) (pa_cons (pv 2) pa_nil))))
    (pss_one (ps_ret (pe_callTy call_tuple_of (by rfl) T.tuple (by decide +kernel) (pa_cons (pe_lc (own := [("target", 3), ("word", 4)]) (g := gPair K 3 4) rfl nd (pi_seq (pe_ix (r := fun x y H Q => rIxL K x y H Q ∨ rIxT K x y H Q) (ix_list.or ix_tup) (pv 0) (pv 1) (fun _ _ => rfl))) (blkOk_by (own := [("target", 3), ("word", 4)]) (N := nHeld) (sc := defScope sHeld) (by decide +kernel))
      (fun _ _ _ _ _ => pg_two (pg_tup rfl (pgs_cons (pg_name (i := 3) nd rfl (Or.inl rfl)) (pgs_cons (pg_name (i := 4) nd rfl (Or.inl rfl)) pgs_nil))) (pg_lst rfl (pgs_cons (pg_name (i := 3) nd rfl (Or.inl rfl)) (pgs_cons (pg_name (i := 4) nd rfl (Or.inl rfl)) pgs_nil))))
      (fun _ _ _ _ _ => pts_one (pt_cmpR op_eq (pv 3) (pv 2) (nomark _))) (fun _ _ _ _ _ => pv 4)) pa_nil))))), ?_⟩
  obtain ⟨a, xs, rfl, sq, lx, hx⟩ := stand_inv hv he
  refine ⟨_, rfl, _, rfl, a, xs, i, rfl, sq, fun hin => ?_, fun hout => q2 (by rw [← lx]; exact hout)⟩
  rw [lx] at hin
  refine ⟨_, rfl, _, rfl, a, xs, j, rfl, sq, fun jin => ?_, fun jout => q3 hin (by rw [← lx]; exact jout)⟩
  rw [lx] at jin
  obtain ⟨z, hz1, hz2, _⟩ := atI_int (xs := xs) hin.1 (by omega)
  obtain ⟨h, e, hg, hd, ht⟩ := hx _ z hz1
  obtain ⟨b, ys, rfl, sb, ly, hy⟩ := heap_inv hd ht
  have hl := hS.2 h (List.mem_of_getElem? hg)
  dsimp only
  refine to_ret (to_cb (to_cons ?_))
  refine seqS (a := b) (xs := ys) (fun k q => ⟨_, rfl, _, rfl, ix_either sq hz2 q⟩) sb (selIf (fun g : Gr => g.1 == j) (fun g => .str g.2) h) (by omega) ?_ ?_
  · intro D m x H2 acc k kn hD hm h2 e2 hk hn
    obtain ⟨g, c, hgm, rfl, sc⟩ := hy m x hm
    refine gpair (sc.imp e2.seq (Same.seqT e2)) ⟨rfl, ?_⟩
    refine ⟨_, rfl, _, rfl, rfl, _, rfl, ?_⟩
    by_cases c : g.1 = j
    · rw [c, decide_eq_true rfl]
      exact iteT ⟨_, rfl, hk _ _ (.str g.2) (Same.refl _) (selIf_yes hgm (by rw [c]; exact beq_self_eq_true j)) (.str _)⟩
    · have c' : ¬ V.int g.1 = V.int j := fun q => c (V.int.inj q)
      rw [decide_eq_false c']
      exact iteF (hn _ (Same.refl _) (selIf_no hgm (beq_eq_false_iff_ne.mpr c)))
  · intro D H' acc hD e1 h1 a1
    rw [ly] at a1
    have a2 : DtAll K H' acc ((h.filter fun g => g.1 == j).map fun g => .str g.2) := by
      rw [← selTo_filter (fun g : Gr => g.1 == j) (fun g => .str g.2) h]
      exact a1
    refine ⟨D, acc, rfl, .inl ⟨SqL.of h1, fun l hl => q1 hin jin h hg _ _ (e1.trans (same_new hl _)) (Dt.mk upd_same (DtAll.on a2 (Tups.of (same_new hl _))))⟩⟩
def spCount (K : PySem.W.Frag) : Sp := fun vs H Q _ => ∃ (v : V) (d : PyData) (S : List (List Gr)), vs = [v] ∧ Dp K H v d ∧ tupled d = dS S ∧ Short 1000 S ∧ ∀ H', Same H H' → Q (.int (total S : Int)) H'
theorem scCount : FnScope nCount pCount (defScope sCount) := ⟨rfl, rfl, rfl, by decide +kernel, rfl, by decide +kernel, by decide +kernel⟩
theorem sum_total : ∀ S : List (List Gr), (S.map fun h => (h.length : Int)).sum = (total S : Int)
  | [] => rfl
  | h :: r => by
    rw [List.map_cons, List.sum_cons, sum_total r]
    show (h.length : Int) + (total r : Int) = ((h.length + total r : Nat) : Int)
    omega
theorem ok_count {f : Addr} {fd : FuncData} (F : Fun K "grudges_in" "grudges_in" sCount f fd) (T : Nb mg) : FnOk P w K mg base CX0 1 f fd pCount (spCount K) := by
  refine F.ok scCount (fun vs H Q E h => ?_) (fun cdv A outer s H vs Q E hr h => ?_)
  · obtain ⟨v, d, S, rfl, _⟩ := h
    rfl
  obtain ⟨v, d, S, rfl, hv, he, hS, q⟩ := h
  have nd := scCount.nd
  refine ⟨_, pss_one (ps_ret (pe_callB (cr_sum rfl) (by rfl) T.sum (by decide +kernel) (pa_cons (pe_lc (own := [("heap", 1)]) (g := gName 1) (tt := tYes) rfl nd (pi_seq (pv 0)) (blkOk_by (own := [("heap", 1)]) (N := nCount) (sc := defScope sCount) (by decide +kernel)) (fun _ _ _ _ _ => pg_name (i := 1) nd rfl (Or.inl rfl)) (fun _ _ _ _ _ => pts_nil)
    (fun _ _ _ _ _ => pe_callB (r := rLen K) call_lenK (by rfl) T.len PySem.boot_len (pa_cons (pv 1) pa_nil))) pa_nil))), ?_⟩
  obtain ⟨a, xs, rfl, sq, lx, hx⟩ := stand_inv hv he
  have hs1 := hS.1
  refine to_ret (to_cb (to_cons ?_))
  refine seqT (a := a) (xs := xs) (fun k q => ⟨_, rfl, q⟩) sq ((S.map fun h => (h.length : Int)).map PyData.int) (by rw [List.length_map, List.length_map, lx]) (by omega) ?_ ?_
  · intro D i x d H2 acc k hD hi hdi h2 e2 hk
    obtain ⟨h, e, hg, hd, ht⟩ := hx i x hi
    obtain ⟨b, ys, rfl, sb, ly, _⟩ := heap_inv hd ht
    obtain ⟨_, h3, rfl⟩ := map_get hdi
    obtain ⟨_, h4, rfl⟩ := map_get h3
    cases hg.symm.trans h4
    refine ⟨rfl, _, rfl, b, ys, rfl, sb.imp e2.seq (Same.seqT e2), ?_⟩
    rw [ly]
    exact hk _ _ (Same.refl _) (.int _)
  · intro D H' acc hD e1 h1 a1
    cases dpall_ints a1
    refine ⟨D, _, rfl, SqL.of h1, ?_⟩
    rw [sum_total]
    exact q H' e1
end

abbrev sLHeld : Stmt := top 18
abbrev nLHeld : List Str := ["_law_room_here", "_law_mine", "_law_its", "_law_whom", "_law_word_here"]
abbrev pLHeld : List Str := ["_law_room_here", "_law_mine", "_law_its"]
abbrev sRefused : Stmt := top 19
abbrev nRefused : List Str := ["_law_way", "_law_room_here", "_law_mine", "_law_its", "_law_caught", "_law_told", "error", "_law_fine"]
abbrev pRefused : List Str := ["_law_way", "_law_room_here", "_law_mine", "_law_its"]
/-- the classes of the clause, and what they say of one another -/
structure RefT (K : PySem.W.Frag) (mg : Str → Option Value) (C CB CS : Addr) : Prop where
  mC : mg "NoDove" = some (.ref C)
  mB : mg "Bare" = some (.ref CB)
  mS : mg "NoStanding" = some (.ref CS)
  mL : mg "LookupError" = none
  exm : PySem.W.exmAny K (.ref C) [.ref CB, .ref C, .ref CS] = some true
  k1 : PySem.W.kitOne K (.ref C) (.ref C) = some true
  k2 : PySem.W.kitOne K (.ref C) (.type "LookupError") = some true
  k3 : PySem.W.kitAny K (.ref C) [.ref CB, .ref CS] = some false
  xf : XfC K C
  xc : ExcC K C
  no : PySem.W.findIn K (.ref C) "dove" = some none
section
variable {P : Program} {w : World} {K : PySem.W.Frag} {mg : Str → Option Value} {base : Heap}
def spLHeld (K : PySem.W.Frag) : Sp := fun vs H Q _ => ∃ (v : V) (S : List (List Gr)) (i : Nat) (j : Int) (h : List Gr), vs = [v, .int (i : Int), .int j] ∧ Dt K H v (dS S) ∧ Short 1000 S ∧ S[i]? = some h ∧ ∀ (H' : Hp) (u : V), Same H H' → Dt K H' u (wordsD h j) → Q u H'
theorem scLHeld : FnScope nLHeld pLHeld (defScope sLHeld) := ⟨rfl, rfl, rfl, by decide +kernel, rfl, by decide +kernel, by decide +kernel⟩
theorem ok_lheld {f : Addr} {fd : FuncData} (F : Fun K "_law_held" "_law_held" sLHeld f fd) (T : Nb mg) : FnOk P w K mg base CX0 1 f fd pLHeld (spLHeld K) := by
  refine F.ok scLHeld (fun vs H Q E h => ?_) (fun cdv A outer s H vs Q E hr h => ?_)
  · obtain ⟨v, S, i, j, h, rfl, _⟩ := h
    rfl
  obtain ⟨v, S, i, j, h, rfl, hv, hS, hh, q⟩ := h
  have nd := scLHeld.nd
  refine ⟨_, pss_one (ps_ret (pe_callTy call_tuple_of (by rfl) T.tuple (by decide +kernel) (pa_cons (pe_lc (own := [("_law_whom", 3), ("_law_word_here", 4)]) (g := gTup K 2 (gCons (gName 3) (gCons (gName 4) gNil))) rfl nd (pi_seq (pe_ix ix_tup (pv 0) (pv 1) (fun _ _ => rfl))) (blkOk_by (own := [("_law_whom", 3), ("_law_word_here", 4)]) (N := nLHeld) (sc := defScope sLHeld) (by decide +kernel))
      (fun _ _ _ _ _ => pg_tup rfl (pgs_cons (pg_name (i := 3) nd rfl (Or.inl rfl)) (pgs_cons (pg_name (i := 4) nd rfl (Or.inl rfl)) pgs_nil)))
      (fun _ _ _ _ _ => pts_one (pt_cmpR op_eq (pv 3) (pv 2) (nomark _))) (fun _ _ _ _ _ => pv 4)) pa_nil))), ?_⟩
  obtain ⟨a, xs, rfl, sq, tA⟩ := Dt.inv hv
  obtain ⟨z, hz, dz⟩ := dt_got tA (map_at hh)
  obtain ⟨b, ys, rfl, sb, tB⟩ := Dt.inv dz
  have ly : ys.length = h.length := by rw [DpAll.len tB, List.length_map]
  have hl := hS.2 h (List.mem_of_getElem? hh)
  refine to_ret (to_cb (to_cons ?_))
  refine seqS (a := b) (xs := ys) (fun k q => ⟨_, rfl, _, rfl, a, xs, _, _, rfl, rfl, sq.t, atI_nat hz, q⟩) (.inr sb.t) (selIf (fun g : Gr => g.1 == j) (fun g => .str g.2) h) (by omega) ?_ ?_
  · intro D m x H2 acc k kn hD hm h2 e2 hk hn
    obtain ⟨d, hd, dx⟩ := dt_get tB hm
    obtain ⟨g, hgm, rfl⟩ := map_get hd
    obtain ⟨c, rfl, sc⟩ := gr_t dx
    refine ⟨c, _, rfl, Same.seqT e2 sc.t, rfl, .int g.1, _, rfl, .str g.2, _, rfl, rfl, rfl, ?_⟩
    refine ⟨_, rfl, _, rfl, rfl, _, rfl, ?_⟩
    by_cases c : g.1 = j
    · rw [c, decide_eq_true rfl]
      exact iteT ⟨_, rfl, hk _ _ (.str g.2) (Same.refl _) (selIf_yes hgm (by rw [c]; exact beq_self_eq_true j)) (.str _)⟩
    · have c' : ¬ V.int g.1 = V.int j := fun q => c (V.int.inj q)
      rw [decide_eq_false c']
      exact iteF (hn _ (Same.refl _) (selIf_no hgm (beq_eq_false_iff_ne.mpr c)))
  · intro D H' acc hD e1 h1 a1
    rw [ly] at a1
    have a2 : DtAll K H' acc ((h.filter fun g => g.1 == j).map fun g => .str g.2) := by
      rw [← selTo_filter (fun g : Gr => g.1 == j) (fun g => .str g.2) h]
      exact a1
    exact ⟨D, acc, rfl, .inl ⟨SqL.of h1, fun l hl => q _ _ (e1.trans (same_new hl _)) (Dt.mk upd_same (DtAll.on a2 (Tups.of (same_new hl _))))⟩⟩
def InR (i : Int) (n : Nat) : Prop := 0 ≤ i ∧ i < (n : Int)
/-- the dove of NoDove -/
def spRefused (K : PySem.W.Frag) : Sp := fun vs H Q _ => ∃ (way mine its x : Int) (v : V) (S : List (List Gr)), vs = [.int way, v, .int mine, .int its] ∧ Dt K H v (dS S) ∧ Short 1000 S ∧
  ((¬ InR mine S.length ∧ x = mine) ∨ (way ≠ 0 ∧ InR mine S.length ∧ ¬ InR its S.length ∧ x = its)) ∧ ∀ H', Same H H' → Q (.int x) H'
theorem scRefused : FnScope nRefused pRefused (defScope sRefused) := ⟨rfl, rfl, rfl, by decide +kernel, rfl, by decide +kernel, by decide +kernel⟩
theorem ok_refused {f fu fh C CB CS : Addr} {fd fdu fdh : FuncData} (F : Fun K "_law_refused" "_law_refused" sRefused f fd) (T : Nb mg) (R : RefT K mg C CB CS)
    (GU : FnOk P w K mg base (L2.CX P w) 4 fu fdu pUpper (spUpper K C)) (bU : Binds K fdu pUpper []) (kU : PySem.W.keepIn K (.ref fu) = true) (mU : mg "uppermost" = some (.ref fu))
    (GH : FnOk P w K mg base (L2.CX P w) 4 fh fdh pHeld (spHeld K C)) (bH : Binds K fdh pHeld []) (kH : PySem.W.keepIn K (.ref fh) = true) (mH : mg "held" = some (.ref fh)) : FnOk P w K mg base CX0 5 f fd pRefused (spRefused K) := by
  refine F.ok scRefused (fun vs H Q E h => ?_) (fun cdv A outer s H vs Q E hr h => ?_)
  · obtain ⟨way, mine, its, x, v, S, rfl, _⟩ := h
    rfl
  obtain ⟨way, mine, its, x, v, S, rfl, hv, hS, hx, q⟩ := h
  have nd := scRefused.nd
  refine ⟨_, pss_cons (ps_set (i := 4) nd rfl (Or.inl rfl) pe_non)
    (pss_cons (ps_try_keep (i := 6) (cs := [.ref CB, .ref C, .ref CS]) rfl rfl nd rfl rfl (.cons ⟨by rfl, by decide, .inl R.mB⟩ (.cons ⟨by rfl, by decide, .inl R.mC⟩ (.cons ⟨by rfl, by decide, .inl R.mS⟩ .nil))) (exmTup3 _ _ _) (by show 3 ≤ sizeLine; decide) rfl takes0
      (fun W pn xe tk _ => pss_one (ps_set (i := 5) nd rfl (Or.inl rfl) (pe_ifExp (pt_cmpR op_eq (pv 0) pe_int (nomark _)) (pe_callS GU hr rfl mU kU bU (fun σ => passAt tk σ) (pa_cons (pv 1) (pa_cons (pv 2) pa_nil))) (pe_callS GH hr rfl mH kH bH (fun σ => passAt tk σ) (pa_cons (pv 1) (pa_cons (pv 2) (pa_cons (pv 3) pa_nil)))))))
      (fun a oe cls d pn hz hf => pss_one (ps_set (i := 4) nd rfl (Or.inl rfl) (pv 6))))
    (pss_cons (ps_set (i := 7) nd rfl (Or.inl rfl) (pe_and (pe_callB call_isV (by rfl) T.isi (by decide +kernel) (pa_cons (pv 4) (pa_cons (pe_glob (v := .ref C) (by rfl) R.mC rfl) pa_nil))) (pe_and (pe_callB call_isV (by rfl) T.isi (by decide +kernel) (pa_cons (pv 4) (pa_cons (pe_bltn (v := .ty "LookupError") (by rfl) R.mL (by decide +kernel) rfl) pa_nil)))
      (pe_one (pe_not (pe_callB call_isVT (by rfl) T.isi (by decide +kernel) (pa_cons (pv 4) (pa_cons (pe_tup (pa_cons (pe_glob (v := .ref CB) (by rfl) R.mB rfl) (pa_cons (pe_glob (v := .ref CS) (by rfl) R.mS rfl) pa_nil))) pa_nil))))))))
    (pss_one (ps_ret (pe_ifExp (pt_val (pv 7)) (pe_fv (pv 4)) pe_non))))), ?_⟩
  have tS := tupled_dS S
  refine ⟨_, rfl, by rfl, _, rfl, ?_⟩
  by_cases hw : way = 0
  · rw [hw, decide_eq_true rfl]
    have hm : ¬ (0 ≤ mine ∧ mine < (S.length : Int)) ∧ x = mine := hx.elim id fun z => absurd hw z.1
    obtain ⟨hm, rfl⟩ := hm
    refine iteT ⟨_, rfl, _, rfl, v, dS S, S, x, rfl, hv.dp, tS, hS, fun z => absurd z hm, fun _ d hd => ?_⟩
    refine ⟨true, R.exm, fun _ a ha => ?_, fun z => Bool.noConfusion z⟩
    have nad : a ≠ d := fun z => by rw [z, upd_same] at ha; cases ha
    have e1 : Same H (upd (upd H d (.xd [("dove", .int x)])) a (ExV (.ref C) (some d) a)) := (same_new hd _).trans (same_new ha _)
    have ea : (upd (upd H d (.xd [("dove", .int x)])) a (ExV (.ref C) (some d) a)) a = some (ExV (.ref C) (some d) a) := upd_same
    have ed : (upd (upd H d (.xd [("dove", .int x)])) a (ExV (.ref C) (some d) a)) d = some (.xd [("dove", .int x)]) := by rw [upd_ne (Ne.symm nad)]; exact upd_same
    refine ⟨_, rfl, ?_⟩
    refine ⟨_, rfl, a, C, d, _, _, _, true, rfl, ea, ed, R.xc, .own C, R.k1, _, rfl, iteT ?_⟩
    refine ⟨_, rfl, a, C, d, _, _, _, true, rfl, ea, ed, R.xc, .ty _, R.k2, _, rfl, iteT ?_⟩
    refine ⟨_, rfl, (by show 2 ≤ sizeLine; decide), fun t ht => ?_⟩
    have e2 := same_new ht (.tup [.ref CB, .ref CS])
    refine ⟨a, C, d, t, _, _, _, false, rfl, e2 _ _ ea, e2 _ _ ed, R.xc, upd_same, .cons (.own _) (.cons (.own _) .nil), R.k3, _, rfl, ?_⟩
    refine ⟨_, rfl, _, rfl, iteT ?_⟩
    exact ⟨_, rfl, a, C, d, _, .int x, rfl, e2 _ _ ea, e2 _ _ ed, R.xf, R.no, rfl, q _ (e1.trans e2)⟩
  · have hw' : ¬ V.int way = V.int 0 := fun z => hw (V.int.inj z)
    rw [decide_eq_false hw']
    refine iteF ⟨_, rfl, _, rfl, _, rfl, v, dS S, S, mine, its, rfl, hv.dp, tS, hS, fun z1 z2 => ?_, fun z d hd => ?_, fun z1 z2 d hd => ?_⟩
    · rcases hx with hx | hx
      · exact absurd z1 hx.1
      · exact absurd z2 hx.2.2.1
    · have hm : x = mine := hx.elim (fun z => z.2) fun q => absurd q.2.1 z
      subst hm
      refine ⟨true, R.exm, fun _ a ha => ?_, fun z => Bool.noConfusion z⟩
      have nad : a ≠ d := fun z => by rw [z, upd_same] at ha; cases ha
      have e1 : Same H (upd (upd H d (.xd [("dove", .int x)])) a (ExV (.ref C) (some d) a)) := (same_new hd _).trans (same_new ha _)
      have ea : (upd (upd H d (.xd [("dove", .int x)])) a (ExV (.ref C) (some d) a)) a = some (ExV (.ref C) (some d) a) := upd_same
      have ed : (upd (upd H d (.xd [("dove", .int x)])) a (ExV (.ref C) (some d) a)) d = some (.xd [("dove", .int x)]) := by rw [upd_ne (Ne.symm nad)]; exact upd_same
      refine ⟨_, rfl, ?_⟩
      refine ⟨_, rfl, a, C, d, _, _, _, true, rfl, ea, ed, R.xc, .own C, R.k1, _, rfl, iteT ?_⟩
      refine ⟨_, rfl, a, C, d, _, _, _, true, rfl, ea, ed, R.xc, .ty _, R.k2, _, rfl, iteT ?_⟩
      refine ⟨_, rfl, (by show 2 ≤ sizeLine; decide), fun t ht => ?_⟩
      have e2 := same_new ht (.tup [.ref CB, .ref CS])
      refine ⟨a, C, d, t, _, _, _, false, rfl, e2 _ _ ea, e2 _ _ ed, R.xc, upd_same, .cons (.own _) (.cons (.own _) .nil), R.k3, _, rfl, ?_⟩
      refine ⟨_, rfl, _, rfl, iteT ?_⟩
      exact ⟨_, rfl, a, C, d, _, .int x, rfl, e2 _ _ ea, e2 _ _ ed, R.xf, R.no, rfl, q _ (e1.trans e2)⟩
    · have hm : x = its := hx.elim (fun q => absurd z1 q.1) fun q => q.2.2.2
      subst hm
      refine ⟨true, R.exm, fun _ a ha => ?_, fun z => Bool.noConfusion z⟩
      have nad : a ≠ d := fun z => by rw [z, upd_same] at ha; cases ha
      have e1 : Same H (upd (upd H d (.xd [("dove", .int x)])) a (ExV (.ref C) (some d) a)) := (same_new hd _).trans (same_new ha _)
      have ea : (upd (upd H d (.xd [("dove", .int x)])) a (ExV (.ref C) (some d) a)) a = some (ExV (.ref C) (some d) a) := upd_same
      have ed : (upd (upd H d (.xd [("dove", .int x)])) a (ExV (.ref C) (some d) a)) d = some (.xd [("dove", .int x)]) := by rw [upd_ne (Ne.symm nad)]; exact upd_same
      refine ⟨_, rfl, ?_⟩
      refine ⟨_, rfl, a, C, d, _, _, _, true, rfl, ea, ed, R.xc, .own C, R.k1, _, rfl, iteT ?_⟩
      refine ⟨_, rfl, a, C, d, _, _, _, true, rfl, ea, ed, R.xc, .ty _, R.k2, _, rfl, iteT ?_⟩
      refine ⟨_, rfl, (by show 2 ≤ sizeLine; decide), fun t ht => ?_⟩
      have e2 := same_new ht (.tup [.ref CB, .ref CS])
      refine ⟨a, C, d, t, _, _, _, false, rfl, e2 _ _ ea, e2 _ _ ed, R.xc, upd_same, .cons (.own _) (.cons (.own _) .nil), R.k3, _, rfl, ?_⟩
      refine ⟨_, rfl, _, rfl, iteT ?_⟩
      exact ⟨_, rfl, a, C, d, _, .int x, rfl, e2 _ _ ea, e2 _ _ ed, R.xf, R.no, rfl, q _ (e1.trans e2)⟩
/-- heap[-1] if heap != () else None -/
theorem read_last {σ : L2.St} {H : Hp} {Q : VK} {v : V} {h : List Gr} {m : Nat} {wt kt : Nat} (h5 : σ[m]? = some (some v)) (dv : Dt K H v (dH h)) (f : Fine (dH h) wt kt) (hk : kt ≤ 64) (q : ∀ (H' : Hp) (u : V), Same H H' → Dt K H' u (upD h) → Q u H') :
    tIf (tTest (tOp (rNeD K) (tVar m) (tTup tNil))) (tOp (rIxT K) (tVar m) (tUn (rU fun i => .int (-i)) (tC (.int 1)))) (tC .non) σ H Q := by
  refine ⟨v, h5, (by show 0 ≤ sizeLine; decide), fun t ht => ?_⟩
  have e1 := same_new ht (.tup [])
  have f0 : Fine (.tuple []) 0 1 := FineAll.nil.tuple
  obtain ⟨b, ys, rfl, sb, tb⟩ := Dt.inv (dv.on (Tups.of e1))
  have ly : ys.length = h.length := by rw [DpAll.len tb, List.length_map]
  refine ⟨_, _, (dv.on (Tups.of e1)).dp, Dp.tup (SqT.of upd_same) .nil, by unfold SeqAt.shaped; rw [(tame_show f.tame).2.2.2, decide_eq_true (Nat.le_trans f.depth hk)]; rfl, by unfold SeqAt.shaped; rw [(tame_show f0.tame).2.2.2, decide_eq_true (Nat.le_trans f0.depth (by decide))]; rfl, ?_⟩
  cases hl : h.getLast? with
  | none =>
    have e0 : h = [] := List.getLast?_eq_none_iff.mp hl
    have ev : PyData.eqv (dH h) (.tuple []) = true := by rw [e0]; rfl
    rw [ev]
    refine ⟨_, rfl, iteF (q _ _ e1 ?_)⟩
    unfold upD
    rw [hl]
    exact .non
  | some g =>
    have ev : PyData.eqv (dH h) (.tuple []) = false := by
      cases h with
      | nil => cases hl
      | cons a r => rfl
    rw [ev]
    have gl : (h.map dG).getLast? = some (dG g) := by rw [List.getLast?_map, hl]; rfl
    have hi : (h.map dG)[(h.map dG).length - 1]? = some (dG g) := by rw [← List.getLast?_eq_getElem?]; exact gl
    obtain ⟨y, hy, dy⟩ := dt_got tb hi
    have yl : ys.getLast? = some y := by
      rw [List.getLast?_eq_getElem?, ly, ← hy, List.length_map]
    refine ⟨_, rfl, iteT ⟨_, h5, _, rfl, b, ys, -1, y, rfl, rfl, sb.t, atI_last yl, q _ _ e1 ?_⟩⟩
    unfold upD
    rw [hl]
    exact dy
theorem fine_up {n : Int} {h : List Gr} (hn : n ≤ 1000) (a : ∀ g ∈ h, 0 ≤ g.1 ∧ g.1 < n ∧ g.2 ∈ menu) : Fine (upD h) 19 1 := by
  unfold upD
  cases hl : h.getLast? with
  | none => exact fine_none.mono (by decide) (by decide)
  | some g => exact fine_G hn (a g (List.mem_of_getLast? hl))
theorem fine_words {n : Int} {h : List Gr} {j : Int} (a : ∀ g ∈ h, 0 ≤ g.1 ∧ g.1 < n ∧ g.2 ∈ menu) (hl : h.length ≤ 1000) : Fine (wordsD h j) 7000 1 := by
  unfold wordsD
  have q := FineAll.of (w := 6) (k := 0) (ds := (h.filter fun g => g.1 == j).map fun g => PyData.str g.2) fun d hd => by
    obtain ⟨g, hg, rfl⟩ := List.mem_map.mp hd
    exact fine_str (a g (List.mem_filter.mp hg).1).2.2
  refine q.tuple.mono ?_ (by decide)
  have := List.length_filter_le (fun g : Gr => g.1 == j) h
  rw [List.length_map]
  omega
end
end Gc

set_option Elab.async false
set_option linter.all false
set_option maxRecDepth 100000
set_option maxHeartbeats 4000000
namespace Gc
open PySem PySem.Spec PyProof.Rows L2 RZ

/-- one round of the law, from a box: True -/
def spRight : Sp := fun vs H Q _ => ∃ (b : Addr), vs = [.ref b] ∧ BoxAt H b ∧ ∀ H', Step b H H' → Q (.bl true) H'
/-- the scope of a comprehension that a statement stores -/
def lcSc : Stmt → Scope → Scope
  | .Assign _ (.ListComp _ _ sc _) _, _ => sc
  | _, d => d
def swap2 {α : Type} : List α → List α
  | [a, b] => [b, a]
  | _ => []
abbrev gSw {α : Type} : List α → List α → List α := fun us ws => match us with
  | [] => swap2 ws
  | _ => []

abbrev gId {α : Type} : List α → List α → List α := fun us ws => match us with
  | [] => ws
  | _ => []
abbrev gRev3 {α : Type} : List α → List α → List α := fun us ws => match us, ws with
  | [], [a, b, c] => [c, b, a]
  | _, _ => []

abbrev sRight : Stmt := top 20
abbrev nRight : List Str := ["_law_box_here", "_law_room_here", "_law_many", "_law_as_lists", "_law_mine", "_law_heap", "_law_due", "_law_its", "_law_words", "_law_count", "_law_far", "_law_told"]
abbrev pRight : List Str := ["_law_box_here"]
section
variable {P : Program} {w : World} {K : PySem.W.Frag} {mg : Str → Option Value} {base : Heap}
theorem scRight : FnScope nRight pRight (defScope sRight) := ⟨rfl, rfl, rfl, by decide +kernel, rfl, by decide +kernel, by decide +kernel⟩
theorem ok_right {f fr ft fl fe fu fh fc fd1 fg C : Addr} {fd fdr fdt fdl fde fdu fdh fdc fdd fdg : FuncData} (F : Fun K "_law_right" "_law_right" sRight f fd) (T : Nb mg)
    (GR : FnOk P w K mg base CX0 3 fr fdr pRoom (spRoom K)) (bR : Binds K fdr pRoom []) (kR : PySem.W.keepIn K (.ref fr) = true) (mR : mg "_law_room" = some (.ref fr))
    (GT : FnOk P w K mg base CX0 1 ft fdt ["_law_box_here", "_law_many"] spTake) (bT : Binds K fdt ["_law_box_here", "_law_many"] []) (kT : PySem.W.keepIn K (.ref ft) = true) (mT : mg "_law_take" = some (.ref ft))
    (GL : FnOk P w K mg base CX0 6 fl fdl pListed (spListed K 6)) (bL : Binds K fdl pListed []) (kL : PySem.W.keepIn K (.ref fl) = true) (mL : mg "_law_listed" = some (.ref fl))
    (GE : FnOk P w K mg base CX0 6 fe fde pSame (spSame K 6)) (bE : Binds K fde pSame []) (kE : PySem.W.keepIn K (.ref fe) = true) (mE : mg "_law_same" = some (.ref fe))
    (GU : FnOk P w K mg base (L2.CX P w) 4 fu fdu pUpper (spUpper K C)) (bU : Binds K fdu pUpper []) (cU : KBinds K fdu pUpper ["dove", "standing"] gSw gSw) (kU : PySem.W.keepIn K (.ref fu) = true) (mU : mg "uppermost" = some (.ref fu))
    (GH : FnOk P w K mg base (L2.CX P w) 4 fh fdh pHeld (spHeld K C)) (bH : Binds K fdh pHeld []) (cH : KBinds K fdh pHeld ["about", "dove", "standing"] gRev3 gRev3) (kH : PySem.W.keepIn K (.ref fh) = true) (mH : mg "held" = some (.ref fh))
    (GC : FnOk P w K mg base CX0 1 fc fdc pCount (spCount K)) (bC : Binds K fdc pCount []) (cC : KBinds K fdc pCount ["standing"] gId gId) (kC : PySem.W.keepIn K (.ref fc) = true) (mC : mg "grudges_in" = some (.ref fc))
    (GD : FnOk P w K mg base CX0 1 fd1 fdd pLHeld (spLHeld K)) (bD : Binds K fdd pLHeld []) (kD : PySem.W.keepIn K (.ref fd1) = true) (mD : mg "_law_held" = some (.ref fd1))
    (GF : FnOk P w K mg base CX0 5 fg fdg pRefused (spRefused K)) (bF : Binds K fdg pRefused []) (kF : PySem.W.keepIn K (.ref fg) = true) (mF : mg "_law_refused" = some (.ref fg)) :
    FnOk P w K mg base CX0 7 f fd pRight spRight := by
  refine F.ok scRight (fun vs H Q E h => ?_) (fun cdv A outer s H vs Q E hr h => ?_)
  · obtain ⟨b, rfl, _⟩ := h
    rfl
  obtain ⟨b, rfl, hb, q⟩ := h
  have nd := scRight.nd
  have hr6 : Room 6 _ := hr
  have hr5 := hr6.mono (show 5 ≤ 6 by decide)
  have hr4 := hr6.mono (show 4 ≤ 6 by decide)
  have hr3 := hr6.mono (show 3 ≤ 6 by decide)
  have hr1 := hr6.mono (show 1 ≤ 6 by decide)
  refine ⟨_, pss_cons (ps_set (i := 1) nd rfl (Or.inl rfl) (pe_call GR hr3 rfl mR kR bR .nil pass0 (pa_cons (pv 0) (pa_cons pe_int (pa_cons pe_int pa_nil)))))
    (pss_cons (ps_par (i := 2) (j := 3) (by rfl) nd rfl rfl (by decide) rfl rfl (pa_cons (pe_callB call_len_seq (by rfl) T.len PySem.boot_len (pa_cons (pv 1) pa_nil)) (pa_cons (pe_call GL hr6 rfl mL kL bL .nil pass0 (pa_cons (pv 1) pa_nil)) pa_nil)) (by rfl))
    (pss_cons (ps_for PassesOwn.never rfl (pi_range1 rfl T.range (pa_cons (pv 2) pa_nil)) (pg_name (i := 4) nd rfl (Or.inl rfl))
      (pss_cons (ps_set (i := 5) nd rfl (Or.inl rfl) (pe_ix ix_tup (pv 1) (pv 4) (fun _ _ => rfl)))
      (pss_cons (ps_set (i := 6) nd rfl (Or.inl rfl) (pe_ifExp (pt_cmpR (op_neD hr6.units) (pv 5) (pe_tup pa_nil) (nomark _)) (pe_ix ix_tup (pv 5) (pe_un un_neg pe_int) (fun _ _ => rfl)) pe_non))
      (pss_cons (ps_if (pt_not (pt_val (pe_call GE hr6 rfl mE kE bE .nil pass0 (pa_cons (pe_lst (pa_cons (pe_call GU hr4 rfl mU kU bU .nil passL (pa_cons (pv 1) (pa_cons (pv 4) pa_nil))) (pa_cons (pe_callK0 GU hr4 rfl mU kU cU passL (pk_cons (pv 4) (pk_cons (pv 3) pk_nil))) pa_nil))) (pa_cons (pe_lst (pa_cons (pv 6) (pa_cons (pv 6) pa_nil))) pa_nil))))) (pss_one (ps_ret pe_bl)) pss_nil)
      (pss_one (ps_for PassesOwn.never rfl (pi_range1 rfl T.range (pa_cons (pv 2) pa_nil)) (pg_name (i := 7) nd rfl (Or.inl rfl))
        (pss_cons (ps_set (i := 8) nd rfl (Or.inl rfl) (pe_call GD hr1 rfl mD kD bD .nil pass0 (pa_cons (pv 1) (pa_cons (pv 4) (pa_cons (pv 7) pa_nil)))))
        (pss_one (ps_if (pt_not (pt_val (pe_call GE hr6 rfl mE kE bE .nil pass0 (pa_cons (pe_lst (pa_cons (pe_call GH hr4 rfl mH kH bH .nil passL (pa_cons (pv 1) (pa_cons (pv 4) (pa_cons (pv 7) pa_nil)))) (pa_cons (pe_callK0 GH hr4 rfl mH kH cH passL (pk_cons (pv 7) (pk_cons (pv 4) (pk_cons (pv 3) pk_nil)))) pa_nil))) (pa_cons (pe_lst (pa_cons (pv 8) (pa_cons (pv 8) pa_nil))) pa_nil))))) (pss_one (ps_ret pe_bl)) pss_nil)))))))))
    (pss_cons (ps_set (i := 9) nd rfl (Or.inl rfl) (pe_callB (cr_sum rfl) (by rfl) T.sum (by decide +kernel) (pa_cons (pe_lc (own := [("_law_heap", 5)]) (g := gName 5) (tt := tYes) rfl nd (pi_seq (pv 1)) (blkOk_by (own := [("_law_heap", 5)]) (N := nRight) (sc := defScope sRight) (by decide +kernel)) (fun _ _ _ _ _ => pg_name (i := 5) nd rfl (Or.inl rfl)) (fun _ _ _ _ _ => pts_nil)
      (fun _ _ _ _ _ => pe_callB (r := rLen K) call_lenK (by rfl) T.len PySem.boot_len (pa_cons (pv 5) pa_nil))) pa_nil)))
    (pss_cons (ps_if (pt_not (pt_val (pe_call GE hr6 rfl mE kE bE .nil pass0 (pa_cons (pe_lst (pa_cons (pe_call GC hr1 rfl mC kC bC .nil pass0 (pa_cons (pv 1) pa_nil)) (pa_cons (pe_callK0 GC hr1 rfl mC kC cC pass0 (pk_cons (pv 3) pk_nil)) pa_nil))) (pa_cons (pe_lst (pa_cons (pv 9) (pa_cons (pv 9) pa_nil))) pa_nil))))) (pss_one (ps_ret pe_bl)) pss_nil)
    (pss_cons (ps_set (i := 10) nd rfl (Or.inl rfl) (pe_ix ix_list (pe_lst (pa_cons (pe_un un_neg pe_int) (pa_cons (pv 2) (pa_cons (pe_op op_add (pv 2) pe_int) (pa_cons (pe_un un_neg pe_int) pa_nil))))) (pe_call GT hr1 rfl mT kT bT .nil pass0 (pa_cons (pv 0) (pa_cons pe_int pa_nil))) (fun _ _ => rfl)))
    (pss_cons (ps_set (i := 11) nd rfl (Or.inl rfl) (pe_lst (pa_cons (pe_call GF hr5 rfl mF kF bF .nil pass0 (pa_cons pe_int (pa_cons (pv 1) (pa_cons (pv 10) (pa_cons pe_int pa_nil))))) (pa_cons (pe_call GF hr5 rfl mF kF bF .nil pass0 (pa_cons pe_int (pa_cons (pv 1) (pa_cons (pv 10) (pa_cons pe_int pa_nil))))) (pa_cons (pe_call GF hr5 rfl mF kF bF .nil pass0 (pa_cons pe_int (pa_cons (pv 1) (pa_cons pe_int (pa_cons (pv 10) pa_nil))))) pa_nil)))))
    (pss_one (ps_ret (pe_and (pe_call GE hr6 rfl mE kE bE .nil pass0 (pa_cons (pe_op op_cat (pv 11) (pe_lst (pa_cons (pe_call GF hr5 rfl mF kF bF .nil pass0 (pa_cons pe_int (pa_cons (pv 1) (pa_cons (pv 10) (pa_cons (pe_op op_add (pv 10) (pv 2)) pa_nil))))) pa_nil))) (pa_cons (pe_op op_rep (pe_lst (pa_cons (pv 10) pa_nil)) pe_int) pa_nil)))
      (pe_one (pe_cmpR (op_eqD hr6.units) (pv 3) (pe_call GL hr6 rfl mL kL bL .nil pass0 (pa_cons (pv 1) pa_nil)) (nomark _)))))))))))), ?_⟩
  -- the room
  refine ⟨_, rfl, b, 8, 24, rfl, hb, by decide, by decide, by decide, by decide, fun H1 rv S rS s1 dS1 => ?_⟩
  obtain ⟨ra, rxs, rfl, rq, rA⟩ := Dt.inv dS1
  have rl : rxs.length = S.length := by rw [DpAll.len rA, List.length_map]
  have S8 : (S.length : Int) ≤ 8 := rS.many
  have S1 := rS.one
  have fS : Fine (dS S) 500 3 := rS.fine (by decide) (by decide)
  have sh : Short 1000 S := rS.short (by decide) (by decide)
  have pl := rS.ok.plain
  have tS := tupled_dS S
  refine ⟨_, rfl, ra, rxs, rfl, .inr rq.t, ?_⟩
  rw [rl]
  refine ⟨_, rfl, .ref ra, dS S, rfl, dS1.dp, Nat.lt_of_le_of_lt fS.depth (by decide), Nat.le_trans fS.weight (by decide), fun H2 lv e2 n2 => ⟨_, _, rfl, ?_⟩⟩
  have dl : Dp K H2 lv (listed (dS S)) := Dp.mono newOf_sub n2
  have tL : tupled (listed (dS S)) = dS S := by rw [tupled_listed]; exact tS
  -- dove by dove
  refine to_slots [some (.ref b), some (.ref ra), some (.int (S.length : Int)), some lv, none, none, none, none, none, none, none, none] rfl ?_
  try dsimp only
  refine to_seq ?_
  refine for_rg (n := S.length) (fun k q => ⟨_, rfl, q⟩) (by omega) (fun i σ H' => ∃ c4 c5 c6 c7 c8, σ = [some (.ref b), some (.ref ra), some (.int (S.length : Int)), some lv, c4, c5, c6, c7, c8, none, none, none] ∧ Same H2 H') ⟨none, none, none, none, none, rfl, Same.refl _⟩ ?_ ?_
  · rintro i σ H3 hi ⟨c4, c5, c6, c7, c8, rfl, e3⟩
    have hS : S[i]? = some S[i] := List.getElem?_eq_getElem hi
    obtain ⟨hv, hv1, hv2⟩ := dt_got rA (map_at hS)
    have e13 := e2.trans e3
    obtain ⟨ha, hxs, rfl, hq, hA⟩ := Dt.inv hv2
    have hl : hxs.length = S[i].length := by rw [DpAll.len hA, List.length_map]
    refine ⟨_, rfl, _, rfl, ra, rxs, _, _, rfl, rfl, Same.seqT e13 rq.t, atI_nat hv1, ?_⟩
    have gA : ∀ g ∈ S[i], 0 ≤ g.1 ∧ g.1 < (S.length : Int) ∧ g.2 ∈ menu := pl _ (List.getElem_mem hi)
    have hs1 := sh.2 _ (List.getElem_mem hi)
    obtain ⟨x1, x2, x3⟩ := dH_ok (n := (S.length : Int)) (by omega) gA
    have fH : Fine (dH S[i]) 20000 2 := ⟨x1, by omega, x3⟩
    refine to_nameS [some (.ref b), some (.ref ra), some (.int (S.length : Int)), some lv, some (.int (i : Int)), some (.ref ha), c6, c7, c8, none, none, none] rfl ?_
    try dsimp only
    refine to_set ?_
    refine read_last rfl (hv2.on (Tups.of e13)) fH (by decide) fun H4 u4 e4 d4 => ?_
    refine to_nameS [some (.ref b), some (.ref ra), some (.int (S.length : Int)), some lv, some (.int (i : Int)), some (.ref ha), some u4, c7, c8, none, none, none] rfl ?_
    have e14 := e13.trans e4
    have fU : Fine (upD S[i]) 19 1 := fine_up (n := (S.length : Int)) (by omega) gA
    have out : ¬ (¬ (0 ≤ (i : Int) ∧ (i : Int) < (S.length : Int))) := fun z => z ⟨by omega, by omega⟩
    have iN : ((i : Nat) : Int).toNat = i := by omega
    -- uppermost
    refine ⟨_, rfl, _, rfl, .ref ra, dS S, S, (i : Int), rfl, (dS1.on (Tups.of e14)).dp, tS, sh, fun _ h hh H5 u5 e5 d5 => ?_, fun z => absurd z out⟩
    rw [iN, hS] at hh
    cases hh
    have e25 := (e3.trans e4).trans e5
    refine ⟨_, rfl, _, rfl, lv, listed (dS S), S, (i : Int), rfl, Dp.mono e25 dl, tL, sh, fun _ h hh H6 u6 e6 d6 => ?_, fun z => absurd z out⟩
    rw [iN, hS] at hh
    cases hh
    refine ⟨(by show 2 ≤ sizeLine; decide), fun p7 hp7 => ?_⟩
    have e67 := same_new hp7 (.lst [u5, u6])
    refine ⟨_, rfl, _, rfl, (by show 2 ≤ sizeLine; decide), fun p8 hp8 => ?_⟩
    have e78 := same_new hp8 (.lst [u4, u4])
    have f8 : Fine (.list [upD S[i], upD S[i]]) 100 2 := (FineAll.cons fU (.cons fU .nil)).list.mono (by decide) (Nat.le_refl _)
    have g4 := (d4.on (Tups.of (((e5.trans e6).trans e67).trans e78))).dp
    refine ⟨.ref p7, .ref p8, _, rfl, Dp.mono e78 (.lst (SqL.of upd_same) (.cons (Dp.mono (e6.trans e67) d5.dp) (.cons (Dp.mono e67 d6.dp) .nil))), .lst (SqL.of upd_same) (.cons g4 (.cons g4 .nil)), Nat.lt_of_le_of_lt f8.depth (by decide), Nat.le_trans f8.weight (by decide), fun H9 e9 => ?_⟩
    refine ⟨_, rfl, iteF ?_⟩
    have e29 := (((e25.trans e6).trans e67).trans e78).trans e9
    -- of each other one
    dsimp only [tNext]
    refine for_rg (n := S.length) (fun k q => ⟨_, rfl, q⟩) (by omega) (fun j σ H' => ∃ c7 c8, σ = [some (.ref b), some (.ref ra), some (.int (S.length : Int)), some lv, some (.int (i : Int)), some (.ref ha), some u4, c7, c8, none, none, none] ∧ Same H2 H') ⟨c7, c8, rfl, e29⟩ ?_ ?_
    · rintro j σ H10 hj ⟨c7, c8, rfl, e10⟩
      have e1a := e2.trans e10
      refine ⟨_, rfl, _, rfl, _, rfl, .ref ra, S, i, (j : Int), S[i], rfl, dS1.on (Tups.of e1a), sh, hS, fun H11 u11 e11 d11 => ?_⟩
      refine to_nameS [some (.ref b), some (.ref ra), some (.int (S.length : Int)), some lv, some (.int (i : Int)), some (.ref ha), some u4, some (.int (j : Int)), some u11, none, none, none] rfl ?_
      try dsimp only
      have jin : ¬ (¬ (0 ≤ (j : Int) ∧ (j : Int) < (S.length : Int))) := fun z => z ⟨by omega, by omega⟩
      have fW : Fine (wordsD S[i] j) 7000 1 := fine_words gA hs1
      refine ⟨_, rfl, _, rfl, _, rfl, .ref ra, dS S, S, (i : Int), (j : Int), rfl, (dS1.on (Tups.of (e1a.trans e11))).dp, tS, sh, fun _ _ h hh H12 u12 e12 d12 => ?_, fun z => absurd z out, fun _ z => absurd z jin⟩
      rw [iN, hS] at hh
      cases hh
      have e212 := (e10.trans e11).trans e12
      refine ⟨_, rfl, _, rfl, _, rfl, lv, listed (dS S), S, (i : Int), (j : Int), rfl, Dp.mono e212 dl, tL, sh, fun _ _ h hh H13 u13 e13' d13 => ?_, fun z => absurd z out, fun _ z => absurd z jin⟩
      rw [iN, hS] at hh
      cases hh
      refine ⟨(by show 2 ≤ sizeLine; decide), fun p14 hp14 => ?_⟩
      have e14' := same_new hp14 (.lst [u12, u13])
      refine ⟨_, rfl, _, rfl, (by show 2 ≤ sizeLine; decide), fun p15 hp15 => ?_⟩
      have e15 := same_new hp15 (.lst [u11, u11])
      have f15 : Fine (.list [wordsD S[i] j, wordsD S[i] j]) 20000 2 := (FineAll.cons fW (.cons fW .nil)).list.mono (by decide) (Nat.le_refl _)
      have g11 := (d11.on (Tups.of (((e12.trans e13').trans e14').trans e15))).dp
      refine ⟨.ref p14, .ref p15, _, rfl, Dp.mono e15 (.lst (SqL.of upd_same) (.cons (Dp.mono (e13'.trans e14') d12.dp) (.cons (Dp.mono e14' d13.dp) .nil))), .lst (SqL.of upd_same) (.cons g11 (.cons g11 .nil)), Nat.lt_of_le_of_lt f15.depth (by decide), Nat.le_trans f15.weight (by decide), fun H16 e16 => ?_⟩
      refine ⟨_, rfl, iteF ?_⟩
      exact ⟨_, _, rfl, (((e212.trans e13').trans e14').trans e15).trans e16⟩
    · rintro σ H10 ⟨c7, c8, rfl, e10⟩
      exact ⟨_, _, _, _, _, rfl, e10⟩
  rintro σ H3 ⟨c4, c5, c6, c7, c8, rfl, e3⟩
  have e13 := e2.trans e3
  -- how many in all
  try dsimp only
  refine to_set ?_
  refine to_cb ?_
  refine to_cons ?_
  refine seqT (a := ra) (xs := rxs) (fun k q => ⟨_, rfl, q⟩) (.inr (Same.seqT e13 rq.t)) ((S.map fun h => (h.length : Int)).map PyData.int) (by rw [List.length_map, List.length_map, rl]) (by omega) ?_ ?_
  · intro D i x d H4 acc k hD hi hdi h4 e4 hk
    obtain ⟨d1, g1, dx⟩ := dt_get rA hi
    obtain ⟨h, hg, rfl⟩ := map_get g1
    obtain ⟨_, h3, rfl⟩ := map_get hdi
    obtain ⟨_, h5, rfl⟩ := map_get h3
    cases hg.symm.trans h5
    obtain ⟨ha, hxs, rfl, hq, hA⟩ := Dt.inv dx
    have hl : hxs.length = h.length := by rw [DpAll.len hA, List.length_map]
    refine ⟨rfl, _, rfl, ha, hxs, rfl, .inr (Same.seqT (e13.trans e4) hq.t), ?_⟩
    rw [hl]
    exact hk _ _ (Same.refl _) (.int _)
  intro D4 H4 acc4 hD4 e4 h4 a4
  cases dpall_ints a4
  refine ⟨D4, _, rfl, SqL.of h4, ?_⟩
  rw [sum_total]
  have S24 := rS.sum
  refine to_nameS [some (.ref b), some (.ref ra), some (.int (S.length : Int)), some lv, c4, c5, c6, c7, c8, some (.int (total S : Int)), none, none] rfl ?_
  try dsimp only
  have e14 := e13.trans e4
  have e24 := e3.trans e4
  refine ⟨_, rfl, .ref ra, dS S, S, rfl, (dS1.on (Tups.of e14)).dp, tS, sh, fun H5 e5 => ?_⟩
  refine ⟨_, rfl, lv, listed (dS S), S, rfl, Dp.mono (e24.trans e5) dl, tL, sh, fun H6 e6 => ?_⟩
  refine ⟨(by show 2 ≤ sizeLine; decide), fun p7 hp7 => ?_⟩
  have e7 := same_new hp7 (.lst [.int (total S : Int), .int (total S : Int)])
  refine ⟨_, rfl, _, rfl, (by show 2 ≤ sizeLine; decide), fun p8 hp8 => ?_⟩
  have e8 := same_new hp8 (.lst [.int (total S : Int), .int (total S : Int)])
  have fT : Fine (.int (total S : Int)) 11 0 := fine_int (by omega) (by omega)
  have f8 : Fine (.list [.int (total S : Int), .int (total S : Int)]) 100 1 := (FineAll.cons fT (.cons fT .nil)).list.mono (by decide) (Nat.le_refl _)
  refine ⟨.ref p7, .ref p8, _, rfl, Dp.mono e8 (.lst (SqL.of upd_same) (.cons (.int _) (.cons (.int _) .nil))), .lst (SqL.of upd_same) (.cons (.int _) (.cons (.int _) .nil)), Nat.lt_of_le_of_lt f8.depth (by decide), Nat.le_trans f8.weight (by decide), fun H9 e9 => ?_⟩
  refine ⟨_, rfl, iteF ?_⟩
  have e29 := ((((e24.trans e5).trans e6).trans e7).trans e8).trans e9
  dsimp only [tNext]
  -- a dove that isn't there
  refine ⟨_, rfl, _, rfl, _, rfl, _, _, rfl, rfl, _, rfl, (by show 4 ≤ sizeLine; decide), fun p10 hp10 => ?_⟩
  have e10 := same_new hp10 (.lst [.int (-1), .int (S.length : Int), .int ((S.length : Int) + 5), .int (-9)])
  have b10 := s1.box.same (e2.trans (e29.trans e10))
  refine ⟨_, rfl, b, 4, rfl, b10, by decide, by decide, fun r H11 r0 r1 s11 => ?_⟩
  have st11 : Step b H1 H11 := (Step.same s1.box (e2.trans (e29.trans e10))).trans s11
  have nl11 : Same (newOf H1 H2) H11 := new_on s1.box (e29.trans e10) s11
  have h11 := s11.old p10 _ (Ne.symm ((s1.box.same (e2.trans e29)).ne hp10)) upd_same
  obtain ⟨far, hf1, _, hf2⟩ := atI_int (xs := [-1, (S.length : Int), (S.length : Int) + 5, -9]) r0 r1
  have hf3 : far = -1 ∨ far = (S.length : Int) ∨ far = (S.length : Int) + 5 ∨ far = -9 := by simpa using hf2
  have no : ¬ InR far S.length := fun z => by
    have := z.1
    have := z.2
    omega
  have hat : atI [V.int (-1), .int (S.length : Int), .int ((S.length : Int) + 5), .int (-9)] r = some (.int far) := at_map (f := V.int) (xs := [-1, (S.length : Int), (S.length : Int) + 5, -9]) r0 hf1
  refine ⟨p10, _, r, _, rfl, rfl, SqL.of h11, hat, ?_⟩
  refine to_nameS [some (.ref b), some (.ref ra), some (.int (S.length : Int)), some lv, c4, c5, c6, c7, c8, some (.int (total S : Int)), some (.int far), none] rfl ?_
  try dsimp only
  have d11 := dS1.on (st11.tups s1.box)
  have in0 : InR 0 S.length := ⟨by decide, by omega⟩
  refine ⟨_, rfl, _, rfl, 0, far, 0, far, .ref ra, S, rfl, d11, sh, .inl ⟨no, rfl⟩, fun H12 e12 => ?_⟩
  refine ⟨_, rfl, _, rfl, 1, far, 0, far, .ref ra, S, rfl, d11.on (Tups.of e12), sh, .inl ⟨no, rfl⟩, fun H13 e13 => ?_⟩
  refine ⟨_, rfl, _, rfl, 1, 0, far, far, .ref ra, S, rfl, d11.on (Tups.of (e12.trans e13)), sh, .inr ⟨by decide, in0, no, rfl⟩, fun H14 e14 => ?_⟩
  refine ⟨(by show 3 ≤ sizeLine; decide), fun p15 hp15 => ?_⟩
  have e15 := same_new hp15 (.lst [.int far, .int far, .int far])
  have e1115 := ((e12.trans e13).trans e14).trans e15
  have hp15' : (upd H14 p15 (.lst [.int far, .int far, .int far])) p15 = some (.lst [.int far, .int far, .int far]) := upd_same
  refine to_nameS [some (.ref b), some (.ref ra), some (.int (S.length : Int)), some lv, c4, c5, c6, c7, c8, some (.int (total S : Int)), some (.int far), some (.ref p15)] rfl ?_
  try dsimp only
  refine ⟨_, rfl, _, rfl, _, rfl, _, rfl, _, rfl, _, _, rfl, rfl, 1, far, far + (S.length : Int), far, .ref ra, S, rfl, d11.on (Tups.of e1115), sh, .inl ⟨no, rfl⟩, fun H16 e16 => ?_⟩
  refine ⟨(by show 1 ≤ sizeLine; decide), fun p17 hp17 => ?_⟩
  have e17 := same_new hp17 (.lst [.int far])
  refine ⟨p15, p17, _, _, rfl, rfl, e17 _ _ (e16 _ _ hp15'), upd_same, (by show 4 ≤ sizeLine; decide), fun p18 hp18 => ?_⟩
  have e18 := same_new hp18 (.lst ([.int far, .int far, .int far] ++ [.int far]))
  refine ⟨_, rfl, (by show 1 ≤ sizeLine; decide), fun p19 hp19 => ?_⟩
  have e19 := same_new hp19 (.lst [.int far])
  refine ⟨p19, 4, _, rfl, rfl, upd_same, by decide, by decide, (by show 4 ≤ sizeLine; decide), fun p20 hp20 => ?_⟩
  have e20 := same_new hp20 (.lst (List.replicate (4 : Int).toNat [V.int far]).flatten)
  have fF : Fine (.int far) 11 0 := fine_int (by omega) (by omega)
  have f20 : Fine (.list [.int far, .int far, .int far, .int far]) 100 1 := (FineAll.cons fF (.cons fF (.cons fF (.cons fF .nil)))).list.mono (by decide) (Nat.le_refl _)
  refine ⟨.ref p18, .ref p20, _, rfl, Dp.mono (e19.trans e20) (.lst (SqL.of upd_same) (.cons (.int _) (.cons (.int _) (.cons (.int _) (.cons (.int _) .nil))))), .lst (SqL.of upd_same) (.cons (.int _) (.cons (.int _) (.cons (.int _) (.cons (.int _) .nil)))), Nat.lt_of_le_of_lt f20.depth (by decide), Nat.le_trans f20.weight (by decide), fun H21 e21 => ?_⟩
  refine ⟨_, rfl, iteT ?_⟩
  have e1121 := (((((e1115.trans e16).trans e17).trans e18).trans e19).trans e20).trans e21
  refine ⟨_, rfl, _, rfl, .ref ra, dS S, rfl, (d11.on (Tups.of e1121)).dp, Nat.lt_of_le_of_lt fS.depth (by decide), Nat.le_trans fS.weight (by decide), fun H22 l22 e22 n22 => ?_⟩
  refine eq_ok (Dp.mono (nl11.trans (e1121.trans e22)) n2) (Dp.mono newOf_sub n22) fS.listed.tame fS.listed.tame (Nat.le_trans fS.listed.depth (by decide)) (Nat.le_trans fS.listed.depth (by decide)) ?_
  rw [fS.listed.eqv]
  exact q _ (s1.trans (st11.trans (.same st11.box (e1121.trans e22))))
end
end Gc

set_option Elab.async false
set_option linter.all false
set_option maxRecDepth 100000
set_option maxHeartbeats 4000000
namespace Gc
open PySem PySem.Spec PyProof.Rows L2 RZ

/-- two parameters by keywords, the second one first -/
theorem kb_sw {K : PySem.W.Frag} {fd : FuncData} {ps ks : List Str} {a b nm ql : Str} {st : Stmt} {f : Addr} (_ : Fun K nm ql st f fd) (h : ∀ x y : Value, bindArgs fd ⟨[], ks.zip [y, x]⟩ = pure (ps.zip [x, y])) (hp : ps = [a, b]) : KBinds K fd ps ks gSw gSw := by
  subst hp
  constructor
  · intro s us ws _ hl
    match us, ws, hl with
    | [], [y, x], _ => exact .of_eq (h x y)
    | [], [], hl => cases hl
    | [], [_], hl => cases hl
    | [], _ :: _ :: _ :: _, hl => cases hl
    | _ :: _, _, hl => cases hl
  · intro vs us zs ws r1 r2
    cases r1 with
    | nil =>
      cases r2 with
      | nil => exact .nil
      | cons a1 t1 =>
        cases t1 with
        | nil => exact .nil
        | cons a2 t2 =>
          cases t2 with
          | nil => exact .cons a2 (.cons a1 .nil)
          | cons _ _ => exact .nil
    | cons _ _ => exact .nil

theorem kb_rev3 {K : PySem.W.Frag} {fd : FuncData} {ps ks : List Str} {a b c nm ql : Str} {st : Stmt} {f : Addr} (_ : Fun K nm ql st f fd) (h : ∀ x y z : Value, bindArgs fd ⟨[], ks.zip [z, y, x]⟩ = pure (ps.zip [x, y, z])) (hp : ps = [a, b, c]) : KBinds K fd ps ks gRev3 gRev3 := by
  subst hp
  constructor
  · intro s us ws _ hl
    match us, ws, hl with
    | [], [z, y, x], _ => exact .of_eq (h x y z)
    | [], [], hl => cases hl
    | [], [_], hl => cases hl
    | [], [_, _], hl => cases hl
    | [], _ :: _ :: _ :: _ :: _, hl => cases hl
    | _ :: _, _, hl => cases hl
  · intro vs us zs ws r1 r2
    cases r1 with
    | cons _ _ => exact .nil
    | nil =>
      cases r2 with
      | nil => exact .nil
      | cons a1 t1 =>
        cases t1 with
        | nil => exact .nil
        | cons a2 t2 =>
          cases t2 with
          | nil => exact .nil
          | cons a3 t3 =>
            cases t3 with
            | nil => exact .cons a3 (.cons a2 (.cons a1 .nil))
            | cons _ _ => exact .nil
theorem kb_one {K : PySem.W.Frag} {fd : FuncData} {ps ks : List Str} {a nm ql : Str} {st : Stmt} {f : Addr} (_ : Fun K nm ql st f fd) (h : ∀ x : Value, bindArgs fd ⟨[], ks.zip [x]⟩ = pure (ps.zip [x])) (hp : ps = [a]) : KBinds K fd ps ks gId gId := by
  subst hp
  constructor
  · intro s us ws _ hl
    match us, ws, hl with
    | [], [x], _ => exact .of_eq (h x)
    | [], [], hl => cases hl
    | [], _ :: _ :: _, hl => cases hl
    | _ :: _, _, hl => cases hl
  · intro vs us zs ws r1 r2
    cases r1 with
    | cons _ _ => exact .nil
    | nil => exact r2

abbrev sLaw : Stmt := top 21
abbrev nLaw : List Str := ["_law_script", "_law_cells_here", "_law_k", "_law_box_here", "_law_turn"]
abbrev pLaw : List Str := ["_law_script"]
section
variable {P : Program} {w : World} {K : PySem.W.Frag} {mg : Str → Option Value} {base : Heap}
def spLaw (K : PySem.W.Frag) : Sp := fun vs H Q _ => ∃ (a : Addr) (ns : List Int), vs = [.ref a] ∧ SqL K H a (ns.map V.int) ∧ ns.length ≤ 63 ∧ ∀ H', Q (.bl true) H'
theorem scLaw : FnScope nLaw pLaw (defScope sLaw) := ⟨rfl, rfl, rfl, by decide +kernel, rfl, by decide +kernel, by decide +kernel⟩
theorem ok_law {R : Nat} {f fc fb fr : Addr} {fd fdc fdb fdr : FuncData} (F : Fun K "law" "law" sLaw f fd) (T : Nb mg) (h1 : 1 ≤ R)
    (GC : FnOk P w K mg base CX0 1 fc fdc pCells (spCells K)) (bC : Binds K fdc pCells []) (kC : PySem.W.keepIn K (.ref fc) = true) (mC : mg "_law_cells" = some (.ref fc))
    (GB : FnOk P w K mg base CX0 1 fb fdb ["_law_cells_here", "_law_k"] (spBox K)) (bB : Binds K fdb ["_law_cells_here", "_law_k"] []) (kB : PySem.W.keepIn K (.ref fb) = true) (mB : mg "_law_box" = some (.ref fb))
    (GR : GOk P w K mg base R fr fdr ["_law_box_here"] spRight) (bR : Binds K fdr ["_law_box_here"] []) (kR : PySem.W.keepIn K (.ref fr) = true) (mR : mg "_law_right" = some (.ref fr)) : GOk P w K mg base (R + 1) f fd pLaw (spLaw K) := by
  refine g_ok F scLaw (fun vs H Q E h => ?_) (fun cdv A outer s H vs Q E hr hg h => ?_)
  · obtain ⟨a, ns, rfl, _⟩ := h
    rfl
  obtain ⟨a, ns, rfl, hS, h63, q⟩ := h
  have nd := scLaw.nd
  have hr1 : Room 1 _ := hr.mono h1
  refine ⟨_, pss_cons (ps_set (i := 1) nd rfl (Or.inl rfl) (pe_call GC hr1 rfl mC kC bC .nil pass0 (pa_cons (pv 0) (pa_cons pe_int pa_nil))))
    (pss_cons (ps_for PassesOwn.never rfl (pi_range1 rfl T.range (pa_cons (pe_callB call_len_seq (by rfl) T.len PySem.boot_len (pa_cons (pv 1) pa_nil)) pa_nil)) (pg_name (i := 2) nd rfl (Or.inl rfl))
      (pss_cons (ps_set (i := 3) nd rfl (Or.inr rfl) (pe_call GB hr1 rfl mB kB bB .nil pass0 (pa_cons (pv 1) (pa_cons (pv 2) pa_nil))))
      (pss_one (ps_if (pt_not (pt_val (pe_callB (cr_all rfl) (by rfl) T.all (by decide +kernel) (pa_cons (pe_lc (own := [("_law_turn", 4)]) (g := gName 4) (tt := tYes) rfl nd (pi_range1 rfl T.range (pa_cons pe_int pa_nil)) (blkOk_by (own := [("_law_turn", 4)]) (N := nLaw) (sc := defScope sLaw) (by decide +kernel)) (fun _ _ _ _ _ => pg_name (i := 4) nd rfl (Or.inl rfl)) (fun _ _ _ _ _ => pts_nil)
        (fun _ _ _ _ _ => pe_callG (E := E0) GR hr hg rfl mR kR bR (pa_cons (pv 3) pa_nil))) pa_nil)))) (pss_one (ps_ret pe_bl)) pss_nil))))
    (pss_one (ps_ret pe_bl))), ?_⟩
  refine ⟨_, rfl, a, ns, 3, rfl, hS, h63, by decide, by decide, fun H1 p ms e1 hp m1 m3 => ?_⟩
  refine ⟨_, rfl, p, _, rfl, .inl (SqL.of hp), ((ms.map V.int).length : Int), rfl, by rw [List.length_map]; omega, by rw [List.length_map]; omega, ?_⟩
  have tl : ((((ms.map V.int).length : Nat) : Int)).toNat = ms.length := by rw [List.length_map]; omega
  rw [tl]
  refine for_range (lo := 0) (n := ms.length) (fun i σ H' => ∃ (c2 c3 : Option V), σ = [some (.ref a), some (.ref p), c2, c3, none] ∧ H' p = some (.lst (ms.map V.int))) ⟨none, none, rfl, hp⟩ ?_ (fun σ H' ⟨_, _, _, _⟩ => q H')
  rintro i σ H2 hi ⟨c2, c3, rfl, hp2⟩
  have e0 : (0 : Int) + ((i : Nat) : Int) = ((i : Nat) : Int) := Int.zero_add _
  refine ⟨_, rfl, _, rfl, p, ms, i, by rw [e0]; rfl, SqL.of hp2, hi, by omega, fun b x y z hb => ?_⟩
  have npb : p ≠ b := ne_of_none hp2 hb
  have hp3 : (upd H2 b (.lst [.int x, .int y, .int z])) p = some (.lst (ms.map V.int)) := by rw [upd_ne npb]; exact hp2
  have bx : BoxAt (upd H2 b (.lst [.int x, .int y, .int z])) b := ⟨x, y, z, upd_same⟩
  generalize upd H2 b (.lst [.int x, .int y, .int z]) = H3 at hp3 bx
  refine ⟨4, rfl, by decide, by decide, fun D hD => ?_⟩
  refine lc_range (lo := 0) (n := (4 : Int).toNat) (fun j H' => H' D = some (.lst ((List.replicate j true).map V.bl)) ∧ BoxAt H' b ∧ H' p = some (.lst (ms.map V.int))) ⟨upd_same, bx.same (same_new hD _), by rw [upd_ne (ne_of_none hp3 hD)]; exact hp3⟩ ?_ ?_
  · rintro j H4 hj ⟨p1, p2, p3⟩
    refine ⟨rfl, ?_⟩
    have nDb : D ≠ b := fun e => by
      obtain ⟨x, y, z, e2⟩ := bx
      rw [e, e2] at hD
      cases hD
    have nDp : p ≠ D := ne_of_none hp3 hD
    refine ⟨_, rfl, b, rfl, p2, fun H5 s5 => ?_⟩
    have hD5 := s5.old _ _ nDb p1
    refine ⟨_, hD5, by rw [List.length_map, List.length_replicate]; exact small1000 (by omega), ?_, ?_, ?_⟩
    · rw [upd_same]
      simp [List.replicate_succ']
    · obtain ⟨x, y, z, e2⟩ := s5.box
      exact ⟨x, y, z, by rw [upd_ne (Ne.symm nDb)]; exact e2⟩
    · rw [upd_ne nDp]
      exact s5.old _ _ npb p3
  · rintro H4 ⟨p1, p2, p3⟩
    refine ⟨D, _, rfl, SqL.of p1, _, rfl, ?_⟩
    have z : (List.replicate (4 : Int).toNat true).all id = true := by decide
    rw [z]
    exact ⟨_, _, rfl, p3⟩
end

/-! ### what the top has left -/
theorem all_mk {l : PySem.W.OpenLaw} {w : World} {K : PySem.W.Frag} {h : Heap} {mg : Str → Option Value} {fa f0 f1 f2 f3 f4 f5 f6 f7 f8 f9 f10 f11 f12 f13 f14 f15 : Addr} (X : K.In h) (G : h.Ns mainGlobals mg) (hfa : mg "law" = some (.ref fa))
    {od0 an0 od1 an1 od2 an2 od3 an3 od4 an4 od5 an5 od6 an6 od7 an7 od8 an8 od9 an9 od10 an10 od11 an11 od12 an12 od13 an13 od14 an14 od15 an15 : Option Addr} {sl0 sl1 sl2 sl3 sl4 sl5 sl6 sl7 sl8 sl9 sl10 sl11 sl12 sl13 sl14 sl15 : Array (Option Value)} {oc0 kV0 dc0 pm0 cd0 ct0 oc1 kV1 dc1 pm1 cd1 ct1 oc2 kV2 dc2 pm2 cd2 ct2 oc3 kV3 dc3 pm3 cd3 ct3 oc4 kV4 dc4 pm4 cd4 ct4 oc5 kV5 dc5 pm5 cd5 ct5 oc6 kV6 dc6 pm6 cd6 ct6 oc7 kV7 dc7 pm7 cd7 ct7 oc8 kV8 dc8 pm8 cd8 ct8 oc9 kV9 dc9 pm9 cd9 ct9 oc10 kV10 dc10 pm10 cd10 ct10 oc11 kV11 dc11 pm11 cd11 ct11 oc12 kV12 dc12 pm12 cd12 ct12 oc13 kV13 dc13 pm13 cd13 ct13 oc14 kV14 dc14 pm14 cd14 ct14 oc15 kV15 dc15 pm15 cd15 ct15 : Value}
    (a0 : PySem.W.nsIn K mainGlobals "_law_box" = some (some (.ref f0))) (l0 : K.lookup f0 = some ⟨oc0, od0, .func (PySem.W.fnOf "_law_box" "_law_box" (defArgs sBox) (defBody sBox) (defScope sBox) .none kV0 dc0 pm0 an0 cd0 ct0), sl0⟩) (c0 : PySem.W.codeIn K cd0 "_law_box" = true) (k0 : PySem.W.keepIn K (.ref f0) = true)
    (a1 : PySem.W.nsIn K mainGlobals "_law_take" = some (some (.ref f1))) (l1 : K.lookup f1 = some ⟨oc1, od1, .func (PySem.W.fnOf "_law_take" "_law_take" (defArgs sTake) (defBody sTake) (defScope sTake) .none kV1 dc1 pm1 an1 cd1 ct1), sl1⟩) (c1 : PySem.W.codeIn K cd1 "_law_take" = true) (k1 : PySem.W.keepIn K (.ref f1) = true)
    (a2 : PySem.W.nsIn K mainGlobals "_law_cells" = some (some (.ref f2))) (l2 : K.lookup f2 = some ⟨oc2, od2, .func (PySem.W.fnOf "_law_cells" "_law_cells" (defArgs sCells) (defBody sCells) (defScope sCells) .none kV2 dc2 pm2 an2 cd2 ct2), sl2⟩) (c2 : PySem.W.codeIn K cd2 "_law_cells" = true) (k2 : PySem.W.keepIn K (.ref f2) = true)
    (a3 : PySem.W.nsIn K mainGlobals "_law_same" = some (some (.ref f3))) (l3 : K.lookup f3 = some ⟨oc3, od3, .func (PySem.W.fnOf "_law_same" "_law_same" (defArgs sSame) (defBody sSame) (defScope sSame) .none kV3 dc3 pm3 an3 cd3 ct3), sl3⟩) (c3 : PySem.W.codeIn K cd3 "_law_same" = true) (k3 : PySem.W.keepIn K (.ref f3) = true)
    (a4 : PySem.W.nsIn K mainGlobals "_law_listed" = some (some (.ref f4))) (l4 : K.lookup f4 = some ⟨oc4, od4, .func (PySem.W.fnOf "_law_listed" "_law_listed" (defArgs sListed) (defBody sListed) (defScope sListed) .none kV4 dc4 pm4 an4 cd4 ct4), sl4⟩) (c4 : PySem.W.codeIn K cd4 "_law_listed" = true) (k4 : PySem.W.keepIn K (.ref f4) = true)
    (a5 : PySem.W.nsIn K mainGlobals "_law_word" = some (some (.ref f5))) (l5 : K.lookup f5 = some ⟨oc5, od5, .func (PySem.W.fnOf "_law_word" "_law_word" (defArgs sWord) (defBody sWord) (defScope sWord) .none kV5 dc5 pm5 an5 cd5 ct5), sl5⟩) (c5 : PySem.W.codeIn K cd5 "_law_word" = true) (k5 : PySem.W.keepIn K (.ref f5) = true)
    (a6 : PySem.W.nsIn K mainGlobals "_law_room" = some (some (.ref f6))) (l6 : K.lookup f6 = some ⟨oc6, od6, .func (PySem.W.fnOf "_law_room" "_law_room" (defArgs sRoom) (defBody sRoom) (defScope sRoom) .none kV6 dc6 pm6 an6 cd6 ct6), sl6⟩) (c6 : PySem.W.codeIn K cd6 "_law_room" = true) (k6 : PySem.W.keepIn K (.ref f6) = true)
    (a7 : PySem.W.nsIn K mainGlobals "_law_held" = some (some (.ref f7))) (l7 : K.lookup f7 = some ⟨oc7, od7, .func (PySem.W.fnOf "_law_held" "_law_held" (defArgs sLHeld) (defBody sLHeld) (defScope sLHeld) .none kV7 dc7 pm7 an7 cd7 ct7), sl7⟩) (c7 : PySem.W.codeIn K cd7 "_law_held" = true) (k7 : PySem.W.keepIn K (.ref f7) = true)
    (a8 : PySem.W.nsIn K mainGlobals "_law_refused" = some (some (.ref f8))) (l8 : K.lookup f8 = some ⟨oc8, od8, .func (PySem.W.fnOf "_law_refused" "_law_refused" (defArgs sRefused) (defBody sRefused) (defScope sRefused) .none kV8 dc8 pm8 an8 cd8 ct8), sl8⟩) (c8 : PySem.W.codeIn K cd8 "_law_refused" = true) (k8 : PySem.W.keepIn K (.ref f8) = true)
    (a9 : PySem.W.nsIn K mainGlobals "_law_right" = some (some (.ref f9))) (l9 : K.lookup f9 = some ⟨oc9, od9, .func (PySem.W.fnOf "_law_right" "_law_right" (defArgs sRight) (defBody sRight) (defScope sRight) .none kV9 dc9 pm9 an9 cd9 ct9), sl9⟩) (c9 : PySem.W.codeIn K cd9 "_law_right" = true) (k9 : PySem.W.keepIn K (.ref f9) = true)
    (a10 : PySem.W.nsIn K mainGlobals "heap_of" = some (some (.ref f10))) (l10 : K.lookup f10 = some ⟨oc10, od10, .func (PySem.W.fnOf "heap_of" "heap_of" (defArgs sHeapOf) (defBody sHeapOf) (defScope sHeapOf) .none kV10 dc10 pm10 an10 cd10 ct10), sl10⟩) (c10 : PySem.W.codeIn K cd10 "heap_of" = true) (k10 : PySem.W.keepIn K (.ref f10) = true)
    (a11 : PySem.W.nsIn K mainGlobals "need_dove" = some (some (.ref f11))) (l11 : K.lookup f11 = some ⟨oc11, od11, .func (PySem.W.fnOf "need_dove" "need_dove" (defArgs sNeed) (defBody sNeed) (defScope sNeed) .none kV11 dc11 pm11 an11 cd11 ct11), sl11⟩) (c11 : PySem.W.codeIn K cd11 "need_dove" = true) (k11 : PySem.W.keepIn K (.ref f11) = true)
    (a12 : PySem.W.nsIn K mainGlobals "uppermost" = some (some (.ref f12))) (l12 : K.lookup f12 = some ⟨oc12, od12, .func (PySem.W.fnOf "uppermost" "uppermost" (defArgs sUpper) (defBody sUpper) (defScope sUpper) .none kV12 dc12 pm12 an12 cd12 ct12), sl12⟩) (c12 : PySem.W.codeIn K cd12 "uppermost" = true) (k12 : PySem.W.keepIn K (.ref f12) = true)
    (a13 : PySem.W.nsIn K mainGlobals "held" = some (some (.ref f13))) (l13 : K.lookup f13 = some ⟨oc13, od13, .func (PySem.W.fnOf "held" "held" (defArgs sHeld) (defBody sHeld) (defScope sHeld) .none kV13 dc13 pm13 an13 cd13 ct13), sl13⟩) (c13 : PySem.W.codeIn K cd13 "held" = true) (k13 : PySem.W.keepIn K (.ref f13) = true)
    (a14 : PySem.W.nsIn K mainGlobals "grudges_in" = some (some (.ref f14))) (l14 : K.lookup f14 = some ⟨oc14, od14, .func (PySem.W.fnOf "grudges_in" "grudges_in" (defArgs sCount) (defBody sCount) (defScope sCount) .none kV14 dc14 pm14 an14 cd14 ct14), sl14⟩) (c14 : PySem.W.codeIn K cd14 "grudges_in" = true) (k14 : PySem.W.keepIn K (.ref f14) = true)
    (a15 : PySem.W.nsIn K mainGlobals "law" = some (some (.ref f15))) (l15 : K.lookup f15 = some ⟨oc15, od15, .func (PySem.W.fnOf "law" "law" (defArgs sLaw) (defBody sLaw) (defScope sLaw) .none kV15 dc15 pm15 an15 cd15 ct15), sl15⟩) (c15 : PySem.W.codeIn K cd15 "law" = true) (k15 : PySem.W.keepIn K (.ref f15) = true)
    (z0 : PySem.W.nsIn K mainGlobals "abs" = some none)
    (z1 : PySem.W.nsIn K mainGlobals "int" = some none)
    (z2 : PySem.W.nsIn K mainGlobals "list" = some none)
    (z3 : PySem.W.nsIn K mainGlobals "tuple" = some none)
    (z4 : PySem.W.nsIn K mainGlobals "str" = some none)
    (z5 : PySem.W.nsIn K mainGlobals "bool" = some none)
    (z6 : PySem.W.nsIn K mainGlobals "enumerate" = some none)
    (z7 : PySem.W.nsIn K mainGlobals "isinstance" = some none)
    (z8 : PySem.W.nsIn K mainGlobals "len" = some none)
    (z9 : PySem.W.nsIn K mainGlobals "all" = some none)
    (z10 : PySem.W.nsIn K mainGlobals "zip" = some none)
    (z11 : PySem.W.nsIn K mainGlobals "range" = some none)
    (z12 : PySem.W.nsIn K mainGlobals "sum" = some none)
    (z13 : PySem.W.nsIn K mainGlobals "repr" = some none)
    {C CB CS fI : Addr} {nmC qC : Str} {NC : Addr} {bsC : List Value} {snC : List Str} {subC : List Value} {abC : Bool} {colC : Option Bool} {ddC : Option Addr} {kC0 kC1 kC2 kC3 kC5 : Option Value} {odI anI : Option Addr} {slI : Array (Option Value)} {ocI kVI dcI pmI cdI ctI : Value}
    (xC : PySem.W.nsIn K mainGlobals "NoDove" = some (some (.ref C)))
    (xB : PySem.W.nsIn K mainGlobals "Bare" = some (some (.ref CB)))
    (xS : PySem.W.nsIn K mainGlobals "NoStanding" = some (some (.ref CS)))
    (xL : PySem.W.nsIn K mainGlobals "LookupError" = some none)
    (x1 : K.lookup C = some (excClassObj nmC qC C NC bsC mroLE true snC subC abC colC ddC kC0 kC1 kC2 kC3 kC5 "LookupError.__new__"))
    (x2 : PySem.W.findIn K (.ref C) "__setattr__" = some (some (.builtin "object.__setattr__")))
    (x3 : PySem.W.subIn K (.ref C) (.type "BaseException") = some true)
    (x4 : PySem.W.typeIn K (.ref C) = some (.type "type"))
    (x5 : PySem.W.keepIn K (.ref C) = true)
    (x6 : PySem.W.findIn K (.ref C) "dove" = some none)
    (x7 : PySem.W.findIn K (.ref C) "__init__" = some (some (.ref fI)))
    (x8 : PySem.W.typeIn K (.ref fI) = some (.type "function"))
    (x9 : K.lookup fI = some ⟨ocI, odI, .func (PySem.W.fnOf "__init__" "NoDove.__init__" (defArgs sNoDoveI) (defBody sNoDoveI) (defScope sNoDoveI) .none kVI dcI pmI anI cdI ctI), slI⟩)
    (x10 : PySem.W.codeIn K cdI "NoDove.__init__" = true)
    (x11 : PySem.W.keepIn K (.ref fI) = true)
    (x12 : PySem.W.findCls K (.type "LookupError") (.type "type") "__init__" = some (.val (.builtin "LookupError.__init__")))
    (y1 : PySem.W.subIn K (.ref C) (.ref C) = some true)
    (y2 : PySem.W.subIn K (.ref C) (.ref CB) = some false)
    (y3 : PySem.W.subIn K (.ref C) (.ref CS) = some false)
    (y4 : PySem.W.subIn K (.ref C) (.type "LookupError") = some true)
    (y5 : PySem.W.subIn K (.ref CB) (.type "BaseException") = some true)
    (y6 : PySem.W.hasDictIn K CB = true)
    (y7 : PySem.W.typeIn K (.ref CB) = some (.type "type"))
    (y8 : PySem.W.subIn K (.ref CS) (.type "BaseException") = some true)
    (y9 : PySem.W.hasDictIn K CS = true)
    (y10 : PySem.W.typeIn K (.ref CS) = some (.type "type"))
    (x17 : PySem.W.findIn K (.ref C) "__getattribute__" = some (some (.builtin "BaseException.__getattribute__")))
    (x18 : PySem.W.findIn K (.ref C) "__getattr__" = some none)
    (x19 : PySem.W.hasDictIn K C = true)
    (x20 : PySem.W.findIn K (.ref C) "__class__" = some (some (.builtin "object.__class__")))
    (x21 : PySem.W.specialIn K (.builtin "object.__class__") "__get__" = some (some (.builtin "getset_descriptor.__get__")))
    (x22 : PySem.W.takesIn K (.builtin "object.__class__") = some true)
    (x23 : PySem.W.mroIn K C (.type "object") = some true)
    : ∃ fd : FuncData, (∀ (s : Shared) (v : Value), BindsTo s fd ⟨[v], []⟩ [("_law_script", v)]) ∧ ∀ base : Heap, K.In base → base.Ns mainGlobals mg → GOk l.prog w K mg base 8 fa fd ["_law_script"] (spLaw K) := by
  have e := hfa.symm.trans (PySem.W.mg_of X G a15)
  cases e
  have T : Nb mg := ⟨PySem.W.mg_none_of X G z0, PySem.W.mg_none_of X G z1, PySem.W.mg_none_of X G z2, PySem.W.mg_none_of X G z3, PySem.W.mg_none_of X G z4, PySem.W.mg_none_of X G z5, PySem.W.mg_none_of X G z6, PySem.W.mg_none_of X G z7, PySem.W.mg_none_of X G z8, PySem.W.mg_none_of X G z9, PySem.W.mg_none_of X G z10, PySem.W.mg_none_of X G z11, PySem.W.mg_none_of X G z12, PySem.W.mg_none_of X G z13⟩
  have FBox := fun_mk (st := sBox) l0 c0 k0
  have mBox := PySem.W.mg_of X G a0
  have bBox := FBox.binds (ps := ["_law_cells_here", "_law_k"]) fun _ _ _ _ _ _ us hl => match us, hl with | [_, _], _ => rfl
  have FTake := fun_mk (st := sTake) l1 c1 k1
  have mTake := PySem.W.mg_of X G a1
  have bTake := FTake.binds (ps := ["_law_box_here", "_law_many"]) fun _ _ _ _ _ _ us hl => match us, hl with | [_, _], _ => rfl
  have FCells := fun_mk (st := sCells) l2 c2 k2
  have mCells := PySem.W.mg_of X G a2
  have bCells := FCells.binds (ps := ["_law_script", "_law_utmost"]) fun _ _ _ _ _ _ us hl => match us, hl with | [_, _], _ => rfl
  have FSame := fun_mk (st := sSame) l3 c3 k3
  have mSame := PySem.W.mg_of X G a3
  have bSame := FSame.binds (ps := ["_law_found", "_law_due"]) fun _ _ _ _ _ _ us hl => match us, hl with | [_, _], _ => rfl
  have FListed := fun_mk (st := sListed) l4 c4 k4
  have mListed := PySem.W.mg_of X G a4
  have bListed := FListed.binds (ps := ["_law_matter"]) fun _ _ _ _ _ _ us hl => match us, hl with | [_], _ => rfl
  have FWord := fun_mk (st := sWord) l5 c5 k5
  have mWord := PySem.W.mg_of X G a5
  have bWord := FWord.binds (ps := ["_law_box_here"]) fun _ _ _ _ _ _ us hl => match us, hl with | [_], _ => rfl
  have FRoom := fun_mk (st := sRoom) l6 c6 k6
  have mRoom := PySem.W.mg_of X G a6
  have bRoom := FRoom.binds (ps := ["_law_box_here", "_law_birds", "_law_most"]) fun _ _ _ _ _ _ us hl => match us, hl with | [_, _, _], _ => rfl
  have FLHeld := fun_mk (st := sLHeld) l7 c7 k7
  have mLHeld := PySem.W.mg_of X G a7
  have bLHeld := FLHeld.binds (ps := ["_law_room_here", "_law_mine", "_law_its"]) fun _ _ _ _ _ _ us hl => match us, hl with | [_, _, _], _ => rfl
  have FRefused := fun_mk (st := sRefused) l8 c8 k8
  have mRefused := PySem.W.mg_of X G a8
  have bRefused := FRefused.binds (ps := ["_law_way", "_law_room_here", "_law_mine", "_law_its"]) fun _ _ _ _ _ _ us hl => match us, hl with | [_, _, _, _], _ => rfl
  have FRight := fun_mk (st := sRight) l9 c9 k9
  have mRight := PySem.W.mg_of X G a9
  have bRight := FRight.binds (ps := ["_law_box_here"]) fun _ _ _ _ _ _ us hl => match us, hl with | [_], _ => rfl
  have FHeapOf := fun_mk (st := sHeapOf) l10 c10 k10
  have mHeapOf := PySem.W.mg_of X G a10
  have bHeapOf := FHeapOf.binds (ps := ["grudges"]) fun _ _ _ _ _ _ us hl => match us, hl with | [_], _ => rfl
  have FNeed := fun_mk (st := sNeed) l11 c11 k11
  have mNeed := PySem.W.mg_of X G a11
  have bNeed := FNeed.binds (ps := ["standing", "dove"]) fun _ _ _ _ _ _ us hl => match us, hl with | [_, _], _ => rfl
  have FUpper := fun_mk (st := sUpper) l12 c12 k12
  have mUpper := PySem.W.mg_of X G a12
  have bUpper := FUpper.binds (ps := ["standing", "dove"]) fun _ _ _ _ _ _ us hl => match us, hl with | [_, _], _ => rfl
  have FHeld := fun_mk (st := sHeld) l13 c13 k13
  have mHeld := PySem.W.mg_of X G a13
  have bHeld := FHeld.binds (ps := ["standing", "dove", "about"]) fun _ _ _ _ _ _ us hl => match us, hl with | [_, _, _], _ => rfl
  have FCount := fun_mk (st := sCount) l14 c14 k14
  have mCount := PySem.W.mg_of X G a14
  have bCount := FCount.binds (ps := ["standing"]) fun _ _ _ _ _ _ us hl => match us, hl with | [_], _ => rfl
  have FLaw := fun_mk (st := sLaw) l15 c15 k15
  have mLaw := PySem.W.mg_of X G a15
  refine ⟨PySem.W.fnOf "law" "law" (defArgs sLaw) (defBody sLaw) (defScope sLaw) .none kV15 dc15 pm15 an15 cd15 ct15, fun s v => .of_eq rfl, fun base _ _ => ?_⟩
  have FI := fun_mk (st := sNoDoveI) x9 x10 x11
  have bI := FI.binds (ps := ["self", "dove"]) fun _ _ _ _ _ _ us hl => match us, hl with | [_, _], _ => rfl
  have TC : ExcK K C mroLE "LookupError.__new__" := ⟨⟨_, _, _, _, _, _, _, _, _, _, _, _, _, _, x1⟩, x2, x3, x4, x5⟩
  have gI := ok_noDoveI (P := l.prog) (w := w) (mg := mg) (base := base) FI TC x6 (PySem.W.mg_none_of X G xL) x12
  have D : ExcT l.prog w K mg base "NoDove" "dove" C mroLE "LookupError.__new__" := ⟨TC, x6, PySem.W.mg_of X G xC, _, _, _, x7, x8, gI, bI⟩
  have kC : ClsK K C := ⟨x3, x19, x4⟩
  have kB : ClsK K CB := ⟨y5, y6, y7⟩
  have kS : ClsK K CS := ⟨y8, y9, y10⟩
  have RT : RefT K mg C CB CS := ⟨PySem.W.mg_of X G xC, PySem.W.mg_of X G xB, PySem.W.mg_of X G xS, PySem.W.mg_none_of X G xL, exm_two (exm_own kB y2) (exm_two (exm_own kC y1) (exm_two (exm_own kS y3) exm_none)), kit_self, kit_bltn (by decide +kernel) y4, kitAny_cons (kit_other kB y1 y2) (fun _ => kitAny_cons (kit_other kS y1 y3) (fun _ => rfl) (fun z => nomatch z)) (fun z => nomatch z), ⟨x17, x18, x3, x19⟩, ⟨x17, x18, x3, x19, x20, x21, x22, x23⟩, x6⟩
  have gT := ok_take (P := l.prog) (w := w) (mg := mg) (base := base) FTake
  have gB := ok_box (P := l.prog) (w := w) (base := base) FBox T.abs T.int
  have gC := ok_cells (P := l.prog) (w := w) (base := base) FCells T
  have gW := ok_word (P := l.prog) (w := w) (base := base) FWord gT bTake FTake.kp mTake
  have gR := ok_room (P := l.prog) (w := w) (base := base) FRoom T gT bTake FTake.kp mTake gW bWord FWord.kp mWord
  have gE := ok_same (P := l.prog) (w := w) (base := base) FSame bSame mSame T 6
  have gL := ok_listed (P := l.prog) (w := w) (base := base) FListed bListed mListed T 6
  have gH := ok_heapOf (P := l.prog) (w := w) (base := base) FHeapOf T
  have gN := ok_need FNeed T D
  have gU := ok_upper FUpper T gN bNeed FNeed.kp mNeed gH bHeapOf FHeapOf.kp mHeapOf
  have gD := ok_held FHeld T gN bNeed FNeed.kp mNeed
  have gO := ok_count (P := l.prog) (w := w) (base := base) FCount T
  have gA := ok_lheld (P := l.prog) (w := w) (base := base) FLHeld T
  have gF := ok_refused FRefused T RT gU bUpper FUpper.kp mUpper gD bHeld FHeld.kp mHeld
  have cU : KBinds _ _ pUpper ["dove", "standing"] gSw gSw := kb_sw FUpper (fun x y => rfl) (a := "standing") (b := "dove") rfl
  have cH : KBinds _ _ pHeld ["about", "dove", "standing"] gRev3 gRev3 := kb_rev3 FHeld (fun x y z => rfl) (a := "standing") (b := "dove") (c := "about") rfl
  have cC : KBinds _ _ pCount ["standing"] gId gId := kb_one FCount (fun x => rfl) (a := "standing") rfl
  have gX := ok_right FRight T gR bRoom FRoom.kp mRoom gT bTake FTake.kp mTake gL bListed FListed.kp mListed gE bSame FSame.kp mSame gU bUpper cU FUpper.kp mUpper gD bHeld cH FHeld.kp mHeld gO bCount cC FCount.kp mCount gA bLHeld FLHeld.kp mLHeld gF bRefused FRefused.kp mRefused
  exact ok_law FLaw T (by decide) gC bCells FCells.kp mCells gB bBox FBox.kp mBox (GOk.of gX) bRight FRight.kp mRight
theorem walk {l : PySem.W.OpenLaw} {q : Program} {loose : List Str} {XP : (Str → Option Value) → Heap → Prop} {YP : World → Heap → Prop} {d : DefRec} {K : Params → PySem.W.Frag} (hn : l.most = some 63) (hdf : d.params.defaults = [])
    (hY : ∀ (w : World) (h : Heap), YP w h → (K w.params).In h)
    (F : ∀ (w : World) (mg : Str → Option Value) (fa : Addr) (h : Heap), (K w.params).In h → h.Ns mainGlobals mg → mg d.name = some (.ref fa) →
      ∃ fd : FuncData, (∀ (s : Shared) (u : Value), BindsTo s fd ⟨[u], []⟩ [("_law_script", u)]) ∧ ∀ base : Heap, (K w.params).In base → base.Ns mainGlobals mg → GOk l.prog w (K w.params) mg base 8 fa fd ["_law_script"] (spLaw (K w.params))) :
    PySem.W.WalkO q loose XP YP l.row.toRowW d [] (fun f vs => PySem.call f vs) :=
  walk_ofG (n := 63) (k := 8) (x := "_law_script") (sp := fun K => spLaw K) hn (by decide) hdf ⟨rfl, by decide, by decide⟩ hY F (fun K H a ns hl hS => ⟨a, ns, rfl, hS, hl, fun _ => rfl⟩)
end Gc
open PySem PySem.W PyProof.Rows in
set_option maxRecDepth 100000 in
set_option maxHeartbeats 0 in
theorem PySem.Challenge.cw_grudgecote_k02_what_lies_where_holds : PySem.Challenge.rw_grudgecote_k02_what_lies_where.Holds := by
  w_on; o_law; k_head; (case hw => w_witness2)
  k_fill
  refine Gc.walk (l := PySem.Challenge.rw_grudgecote_k02_what_lies_where) rfl rfl (fun w h Y => PySem.W.kIn_of Y) ?F
  case F =>
    intro w mg fa h KX G hmg
    refine' Gc.all_mk KX G hmg ?a0 ?l0 ?c0 ?k0 ?a1 ?l1 ?c1 ?k1 ?a2 ?l2 ?c2 ?k2 ?a3 ?l3 ?c3 ?k3 ?a4 ?l4 ?c4 ?k4 ?a5 ?l5 ?c5 ?k5 ?a6 ?l6 ?c6 ?k6 ?a7 ?l7 ?c7 ?k7 ?a8 ?l8 ?c8 ?k8 ?a9 ?l9 ?c9 ?k9 ?a10 ?l10 ?c10 ?k10 ?a11 ?l11 ?c11 ?k11 ?a12 ?l12 ?c12 ?k12 ?a13 ?l13 ?c13 ?k13 ?a14 ?l14 ?c14 ?k14 ?a15 ?l15 ?c15 ?k15 ?z0 ?z1 ?z2 ?z3 ?z4 ?z5 ?z6 ?z7 ?z8 ?z9 ?z10 ?z11 ?z12 ?z13 ?xC ?xB ?xS ?xL ?x1 ?x2 ?x3 ?x4 ?x5 ?x6 ?x7 ?x8 ?x9 ?x10 ?x11 ?x12 ?y1 ?y2 ?y3 ?y4 ?y5 ?y6 ?y7 ?y8 ?y9 ?y10 ?x17 ?x18 ?x19 ?x20 ?x21 ?x22 ?x23
    (case a0 => k_is)
    (case l0 => k_is)
    (case c0 => k_is)
    (case k0 => k_is)
    (case a1 => k_is)
    (case l1 => k_is)
    (case c1 => k_is)
    (case k1 => k_is)
    (case a2 => k_is)
    (case l2 => k_is)
    (case c2 => k_is)
    (case k2 => k_is)
    (case a3 => k_is)
    (case l3 => k_is)
    (case c3 => k_is)
    (case k3 => k_is)
    (case a4 => k_is)
    (case l4 => k_is)
    (case c4 => k_is)
    (case k4 => k_is)
    (case a5 => k_is)
    (case l5 => k_is)
    (case c5 => k_is)
    (case k5 => k_is)
    (case a6 => k_is)
    (case l6 => k_is)
    (case c6 => k_is)
    (case k6 => k_is)
    (case a7 => k_is)
    (case l7 => k_is)
    (case c7 => k_is)
    (case k7 => k_is)
    (case a8 => k_is)
    (case l8 => k_is)
    (case c8 => k_is)
    (case k8 => k_is)
    (case a9 => k_is)
    (case l9 => k_is)
    (case c9 => k_is)
    (case k9 => k_is)
    (case a10 => k_is)
    (case l10 => k_is)
    (case c10 => k_is)
    (case k10 => k_is)
    (case a11 => k_is)
    (case l11 => k_is)
    (case c11 => k_is)
    (case k11 => k_is)
    (case a12 => k_is)
    (case l12 => k_is)
    (case c12 => k_is)
    (case k12 => k_is)
    (case a13 => k_is)
    (case l13 => k_is)
    (case c13 => k_is)
    (case k13 => k_is)
    (case a14 => k_is)
    (case l14 => k_is)
    (case c14 => k_is)
    (case k14 => k_is)
    (case a15 => k_is)
    (case l15 => k_is)
    (case c15 => k_is)
    (case k15 => k_is)
    (case z0 => k_is)
    (case z1 => k_is)
    (case z2 => k_is)
    (case z3 => k_is)
    (case z4 => k_is)
    (case z5 => k_is)
    (case z6 => k_is)
    (case z7 => k_is)
    (case z8 => k_is)
    (case z9 => k_is)
    (case z10 => k_is)
    (case z11 => k_is)
    (case z12 => k_is)
    (case z13 => k_is)
    (case xC => k_is)
    (case xB => k_is)
    (case xS => k_is)
    (case xL => k_is)
    (case x1 => k_is)
    (case x2 => k_is)
    (case x3 => k_is)
    (case x4 => k_is)
    (case x5 => k_is)
    (case x6 => k_is)
    (case x7 => k_is)
    (case x8 => k_is)
    (case x9 => k_is)
    (case x10 => k_is)
    (case x11 => k_is)
    (case x12 => k_is)
    (case y1 => k_is)
    (case y2 => k_is)
    (case y3 => k_is)
    (case y4 => k_is)
    (case y5 => k_is)
    (case y6 => k_is)
    (case y7 => k_is)
    (case y8 => k_is)
    (case y9 => k_is)
    (case y10 => k_is)
    (case x17 => k_is)
    (case x18 => k_is)
    (case x19 => k_is)
    (case x20 => k_is)
    (case x21 => k_is)
    (case x22 => k_is)
    (case x23 => k_is)

