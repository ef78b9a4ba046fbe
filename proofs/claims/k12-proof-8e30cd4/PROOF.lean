import PyProof.Rows.All
import Wide.All
import OpenK.AllK
import Wide.FinOn
import PySem.Challenge.RW_linkorder_k12_errors
import HandS.ForMost
import HandS.ExcInit
import HandS.ExcIs
import HandS.ExcValue
import HandS.IsInst
import HandS.Evl
import KE.KExcIs
import PyProof.ReprRoads
set_option Elab.async false
set_option linter.all false
set_option maxRecDepth 100000
set_option maxHeartbeats 4000000
namespace LK
open PySem PySem.Spec PyProof.Rows L2
theorem upd_upd {H : Hp} {a : Addr} {o u : HO} : upd (upd H a o) a u = upd H a u := by
  funext b
  by_cases e : b = a
  · subst e
    rw [upd_same, upd_same]
  · rw [upd_ne e, upd_ne e, upd_ne e]
section
variable {X : Cx}
/-- xs[i], t[i] of what is tracked -/
def rIxLH : R2 := fun x y H Q => ∃ p xs i v, x = .ref p ∧ y = .int i ∧ H p = some (.lst xs) ∧ atI xs i = some v ∧ Q v H
theorem ix_listH : IxR X rIxLH := fun value slice pins s σ H x y v u Q I rx ry h => ix_list value slice pins s σ H x y v u Q I rx ry (by
  obtain ⟨p, xs, i, z, e1, e2, hh, ha, q⟩ := h
  exact ⟨p, xs, i, z, e1, e2, SqL.of hh, ha, q⟩)
def rIxTH : R2 := fun x y H Q => ∃ p xs i v, x = .ref p ∧ y = .int i ∧ H p = some (.tup xs) ∧ atI xs i = some v ∧ Q v H
theorem ix_tupH : IxR X rIxTH := fun value slice pins s σ H x y v u Q I rx ry h => ix_tup value slice pins s σ H x y v u Q I rx ry (by
  obtain ⟨p, xs, i, z, e1, e2, hh, ha, q⟩ := h
  exact ⟨p, xs, i, z, e1, e2, SqT.of hh, ha, q⟩)
/-- i ** j of great numbers -/
def CPowW (i j : Int) : Prop := 0 ≤ j ∧ (Builtin.Int.intBits i : Int) * j ≤ 2 ^ 27
theorem op_powW : OpR X (binaryOp .Pow) (rI CPowW fun i j => .int (i ^ j.toNat)) := opI fun _ _ _ _ _ _ _ hc q => pow_int hc.1 hc.2 q
end

/-! ### errors as values -/
/-- an error of the class cls at a, its own dict at d or none -/
def ErrO (cls : Value) (d : Option Addr) (a : Addr) : HO := .ext fun h => ∃ (oe : Obj) (vs : Array Value), h.get? a = some oe ∧ Zc cls d oe ∧ oe.data = .fields vs
theorem errO_ok {P : Program} {w : World} {H : Hp} {h : Heap} {a : Addr} {cls : Value} {d : Option Addr} {oe : Obj} {vs : Array Value} (e : h.get? a = some oe) (z : Zc cls d oe) (f : oe.data = .fields vs) : ObjOk P w H h a (ErrO cls d a) :=
  ⟨⟨oe, vs, e, z, f⟩, ⟨oe, e⟩, fun _ _ x k => by
    obtain ⟨o, v, q, r⟩ := x
    exact ⟨o, v, k o q, r⟩⟩
section
variable {X : Cx}
/-- what makes an error, as a value -/
theorem pe_of_pmk {e : Expr} {t : L2.St → Hp → XK → Prop} (hm : PMk X e t) : PE X e (fun σ H Q => t σ H fun cls d H1 => ∀ a, H1 a = none → Q (.ref a) (upd H1 a (ErrO cls d a))) := by
  refine ⟨fun pins s σ H Q I h => ?_⟩
  refine wpAny_mono (hm pins s σ H _ I h) (fun u s1 hu => ?_) fun _ _ x => x
  obtain ⟨a, oe, vs, sI, H1, cls, d, rfl, J, k, hne, ha, hz, hd, _, na, os, ag, _, q⟩ := hu
  have J1 := J.laidN (t' := s1.toks) k hne na (errO_ok (P := X.prog) (w := X.w) (H := upd H1 a (ErrO cls d a)) ha hz hd)
  obtain ⟨h0, g0, d0, t0, o0⟩ := sI
  obtain ⟨h1, g1, d1, t1, o1⟩ := s1
  refine ⟨.ref a, _, ⟨J1.ok, os.trans J1.os, ag, J1.base, J1.loc, J1.cell, J1.free, J1.freeC, J1.pin, J1.hok, J1.len⟩, rfl, q a na⟩
/-- C(), a class without own __init__ -/
theorem pe_err0 {C : Addr} {bmB : List Value} {B newId initId : String} {x : Str} {p pos : Pos} (F : ExcBaseFacts B newId initId bmB) (q : PySem.W.excIn X.K C bmB newId = true) (gC : X.mg x = some (.ref C)) (kC : PySem.W.keepIn X.K (.ref C) = true) (hg : Gl X x)
    (hdb : (x == ("__debug__" : Str)) = false := by decide) : PE X (.Call (.Name x p) [] [] pos) (fun _ H Q => ∀ a, H a = none → Q (.ref a) (upd H a (ErrO (.ref C) none a))) := by
  refine ⟨fun pins s σ H Q I h => ?_⟩
  refine wpAny_Call_Name_kw (ld_glob I hg gC ?_ hdb)
  refine PySem.W.callWith_K0 I.kIn kC ?_
  obtain ⟨bm, N, nm, qn, bs, hdct, sn, sub, ab, col, dd, k0, k1, k2, k3, k5, mN, hC, hN, hni, T⟩ := exc_obj I.kIn q
  obtain ⟨h0, g0, d0, t0, o0⟩ := s
  refine wpAny_call_exc_subT F T hC hN hni (fun h1 a hm => ?_) (Nat.zero_le _)
  have hn : H a = none := I.hok.gone hm.new
  obtain ⟨t, ht, _, _⟩ := hm.there
  exact ⟨.ref a, _, I.laidN hm.keeps hm.new hn (errO_ok ht ⟨rfl, rfl⟩ rfl), rfl, h a hn⟩
/-- what the class says, so that a field is read of an error -/
structure ErrF (K : PySem.W.Frag) (C : Addr) (f : Str) : Prop where
  ga : PySem.W.findIn K (.ref C) "__getattribute__" = some (some (.builtin "BaseException.__getattribute__"))
  gg : PySem.W.findIn K (.ref C) "__getattr__" = some none
  ex : PySem.W.subIn K (.ref C) (.type "BaseException") = some true
  hd : PySem.W.hasDictIn K C = true
  no : PySem.W.findIn K (.ref C) f = some none
theorem err_inst {pins : List (Addr × Obj)} {σ : L2.St} {H : Hp} {s : Shared} {a d C : Addr} {fs : List (Str × V)} (I : Inv X pins σ H s) (ha : H a = some (ErrO (.ref C) (some d) a)) (hd : H d = some (.xd fs)) :
    ∃ oe od mA, PySem.W.InstAt s.heap a oe C (some od) ∧ s.heap.Ns1 d mA ∧ (∀ f, RelO (fs.lookup f) (mA f)) ∧ s.heap.get? d = some od ∧ ∀ f, PySem.W.lookIn f od = some (mA f) := by
  have h1 : ObjOk X.prog X.w H s.heap a (ErrO (.ref C) (some d) a) := I.hok a _ ha
  obtain ⟨⟨oe, vs, ho, hz, hv⟩, _, _⟩ := h1
  have h2 : ObjOk X.prog X.w H s.heap d (.xd fs) := I.hok d _ hd
  obtain ⟨mA, hns, rel⟩ := h2
  obtain ⟨od, hod, look⟩ := lookIn_ns hns
  exact ⟨oe, od, mA, ⟨ho, hz.1, by unfold PySem.W.notCls; rw [hv] <;> rfl, by rw [hz.2]; exact hod⟩, hns, rel, hod, look⟩
/-- e.f of an error -/
def tErrF (K : PySem.W.Frag) (f : Str) (te : TE) : TE := fun σ H Q => te σ H fun x H1 => ∃ (a C d : Addr) (fs : List (Str × V)) (v : V), x = .ref a ∧ H1 a = some (ErrO (.ref C) (some d) a) ∧ H1 d = some (.xd fs) ∧ fs.lookup f = some v ∧ ErrF K C f ∧ Q v H1
theorem pe_errF {e : Expr} {te : TE} {f : Str} {pos : Pos} (he : PE X e te) (hb : attributeBase e f X.env (eval e X.env) = eval e X.env := by rfl) : PE X (.Attribute e f pos) (tErrF X.K f te) := by
  refine ⟨fun pins s σ H Q I h => ?_⟩
  refine attr_of hb (thn (he.run pins s σ H _ I h) fun u s1 hh => ?_)
  obtain ⟨x, H1, I1, rx, a, C, d, fs, v, rfl, ha, hd, hl, T, q⟩ := hh
  cases rx
  obtain ⟨oe, od, mA, J, hns, rel, hod, look⟩ := err_inst I1 ha hd
  obtain ⟨u, hu, ru⟩ := RelO.some_of (v := v) (o := mA f) (by rw [← hl]; exact rel f)
  exact HandSPX.exc_get I1.kIn J T.ga T.gg T.ex (PySem.W.findObj_own T.hd T.no rfl (by rw [look, hu])) (handed_of ru) ⟨v, H1, I1.tok _, ru, q⟩
/-- isinstance(e, c) of an error -/
def rIsErr (K : PySem.W.Frag) : List V → Hp → VK → Prop := fun xs H Q => ∃ (a D : Addr) (d : Option Addr) (c : V) (cv : Value) (b : Bool), xs = [.ref a, c] ∧ H a = some (ErrO (.ref D) d a) ∧ (∀ x, d = some x → ∃ fs, H x = some (.xd fs)) ∧ ExcC K D ∧ (∀ u, RelV c u → u = cv) ∧ PySem.W.kitOne K (.ref D) cv = some b ∧ Q (.bl b) H
theorem call_isErr : CallR X (.builtin "isinstance") (rIsErr X.K) := by
  intro pins s σ H xs us Q I r h
  obtain ⟨a, D, d, c, cv, b, rfl, ha, hd, C, hcv, e, q⟩ := h
  cases r with
  | cons rx rr =>
    cases rr with
    | cons rt rr =>
      cases rr
      cases rx
      have ec := hcv _ rt
      subst ec
      have hcl : (PySem.W.clsIn X.K D).isSome = true := by
        obtain ⟨cd, hc, _⟩ := PySem.W.any_some C.hd
        rw [hc]
        rfl
      have fin : ∀ {oe : Obj} {od : Option Obj}, PySem.W.InstAt s.heap a oe D od → wpAny (model X.prog X.w) X.A (call (.builtin "isinstance") [.ref a, _]) (EP X pins σ Q) X.xe s := fun J =>
        PySem.W.kia_one (PySem.W.kitx_exc hcl C.hg C.hk C.hs C.ha C.hn C.ht C.hm) I.kIn J e (fun z => nomatch z) fun tk => ⟨.bl b, H, I.kept (t' := tk) fun _ _ z => z, rfl, q⟩
      cases d with
      | some d =>
        obtain ⟨fs, hx⟩ := hd d rfl
        obtain ⟨oe, od, mA, J, _⟩ := err_inst I ha hx
        exact fin J
      | none =>
        have h1 : ObjOk X.prog X.w H s.heap a (ErrO (.ref D) none a) := I.hok a _ ha
        obtain ⟨⟨oe, vs, ho, hz, hv⟩, _, _⟩ := h1
        exact fin (od := none) ⟨ho, hz.1, by unfold PySem.W.notCls; rw [hv] <;> rfl, by rw [hz.2]; trivial⟩
end
end LK
namespace LK
open PySem PySem.Spec PyProof.Rows L2
/-! ### a def that is called where no repr is under way -/
/-- as FnOk, for callers under whom nothing is being shown -/
structure FnG (P : Program) (w : World) (K : PySem.W.Frag) (mg : Str → Option Value) (base : Heap) (CX : CXT) (k : Nat) (f : Addr) (fd : FuncData) (ps : List Str) (sp : Sp) : Prop where
  len : ∀ vs H Q E, sp vs H Q E → vs.length = ps.length
  go : ∀ (A : Around), A.guards = some [] → Room k A → ∀ (outer : List Env) (s : Shared) (H : Hp) (args : Args) (us : List Value) (vs : List V) (Q : VK) (E : XK),
    Env0 P w K mg base A outer s H → BindsTo s fd args (ps.zip us) → Vals vs us → sp vs H Q E → codeAny (model P w) A (.call (.ref f) args) (CR CX outer P w H s Q E) s
section
variable {P : Program} {w : World} {K : PySem.W.Frag} {mg : Str → Option Value} {base : Heap}
/-- from the body, where nothing is being shown -/
theorem FnG.of {x qual : Str} {st : Stmt} {f : Addr} {fd : FuncData} {N ps : List Str} {k : Nat} {sp : Sp} (F : Fun K x qual st f fd) (S : FnScope N ps (defScope st)) (len : ∀ vs H Q E, sp vs H Q E → vs.length = ps.length)
    (body : ∀ (cdv : Value) (A : Around), A.guards = some [] → ∀ (outer : List Env) (s : Shared) (H : Hp) (vs : List V) (Q : VK) (E : XK), Room k (A.deeper (envOfC qual (defScope st) s.heap.objs.size f cdv)) → sp vs H Q E →
      ∃ t, PSs (cxOf CX0 P w K mg base N qual (defScope st) f cdv A outer s H E).nox (defBody st) t ∧ t { nx := fun _ H1 => Q .non H1, rt := Q } (L2.start N vs) H) : FnG P w K mg base CX0 (k + 1) f fd ps sp := by
  obtain ⟨oc, od, kV, doc, pm, an, cdv, ct, osl, rfl, lk, hcd⟩ := F.ex
  refine ⟨len, fun A hG hr outer s H args us vs Q E e0 hb r hsp => ?_⟩
  -- the promise that holds at this one place alone
  have hl := len _ _ _ _ hsp
  have inK : K.In s.heap := e0.mod.kin.keeps fun b o z => (e0.bs b o z).1
  have lim : s.heap.NoLimit := e0.mod.nolimit.keeps fun b o z => (e0.bs b o z).1
  have kinds : ∀ y ∈ ps.zip us, (defScope st).names.lookup y.1 = some .local ∨ ((defScope st).names.lookup y.1 = some .cell ∧ ((cellsFrom (s.heap.objs.size + 1) (defScope st).names []).lookup y.1).isSome = true) := fun y hy => by
    obtain ⟨n, v⟩ := y
    rcases S.par n (List.of_mem_zip hy).1 with z | z
    · exact Or.inl z
    · exact Or.inr ⟨z, PySem.W.cellsFrom_some _ _ _ (Or.inl z)⟩
  refine codeAny_call_function hr.depth (inK _ _ lk) rfl S.co S.gen rfl (PySem.W.codeRec_of inK hcd) (hb _ _ _ _ ?_)
  refine wpAny_newFunctionEnv_cells S.kind kinds fun env he s1 ic => ?_
  subst he
  refine ⟨lim.keeps ic.toInCall.keep, codeAny_func ?_⟩
  obtain ⟨t, ht, hq⟩ := body cdv A hG outer s H vs Q E (hr.deeper _) hsp
  have I0 : Inv (cxOf CX0 P w K mg base N qual (defScope st) f cdv A outer s H E) [] (L2.start N vs) H s1 := inv_start S hr.hd e0 hl r ic
  refine wpAny_mono (ht.nox.run [] s1 (L2.start N vs) H _ I0 hq) (fun fl s2 hs => ?_) fun _ _ z => z
  have out : ∀ {σ2 : L2.St} {H2 : Hp} {v : V} {u : Value}, Inv (cxOf CX0 P w K mg base N qual (defScope st) f cdv A outer s H E) [] σ2 H2 s2 → RelV v u → Q v H2 → CE outer P w H s Q u s2 :=
    fun {σ2 H2 v u} J rv z => ⟨v, H2, J.os, J.bare, J.base, J.hok, rv, z⟩
  cases fl with
  | ret u =>
    obtain ⟨v, σ2, H2, J, rv, z⟩ := hs
    exact out J rv z
  | next =>
    obtain ⟨σ2, H2, J, z⟩ := hs
    exact out (v := V.non) (u := Value.none) J rfl z
  | brk => exact hs.elim fun _ z => z.elim fun _ z => z.2.elim
  | cont => exact hs.elim fun _ z => z.elim fun _ z => z.2.elim
end
/-! ### the law's own call -/
/-- the law's promise at the heap behind the top, nothing being shown -/
theorem law_goes {P : Program} {w : World} {K : PySem.W.Frag} {mg mb : Str → Option Value} {k : Nat} {fa a : Addr} {fd : FuncData} {x : Str} {sp : Sp} {s1 : Shared} {vs : List Value} {ns : List Int}
    (KX : K.In s1.heap) (hns : s1.heap.Ns mainGlobals mg) (hb : s1.heap.Ns builtinsNs mb) (hbb : ∀ x : Str, x ≠ "__name__" → mb x = bootBuiltins x) (hlim : s1.heap.NoLimit) (hg : s1.gens = #[])
    (ha : s1.heap.get? a = some { cls := .type "list", data := .seq vs.toArray }) (hi : IntsAre vs ns) (hl : ns.length ≤ sizeLine) (hr : Room k callerA)
    (F : ∀ base : Heap, K.In base → base.Ns mainGlobals mg → FnG P w K mg base CX0 k fa fd [x] sp) (hbind : ∀ (s : Shared) (u : Value), BindsTo s fd ⟨[u], []⟩ [(x, u)])
    (hsp : ∀ H : Hp, SqL K H a (ns.map V.int) → sp [.ref a] H (fun v _ => v = .bl true) fun _ _ _ => False) :
    codeAny (model P w) callerA (.call (.ref fa) ⟨[.ref a], []⟩) (fun r s2 => r = .ok (.ret (.bool true)) ∧ OldK s1.heap s2.heap ∧ s2.os = s1.os ∧ AllBare s2.gens) s1 := by
  have rv := vals_ints hi
  have core : ∀ H : Hp, (∀ b u, H b = some u → b = a ∧ K.lookup a = none ∧ u = .frz { cls := .type "list", data := .seq vs.toArray } (.lst (ns.map V.int))) → SqL K H a (ns.map V.int) →
      codeAny (model P w) callerA (.call (.ref fa) ⟨[.ref a], []⟩) (fun r s2 => r = .ok (.ret (.bool true)) ∧ OldK s1.heap s2.heap ∧ s2.os = s1.os ∧ AllBare s2.gens) s1 := by
    intro H hH hS
    have hok : HOk P w H s1.heap := fun b u e => by
      obtain ⟨rfl, _, rfl⟩ := hH b u e
      exact ⟨ha, by rw [List.length_map]; exact hl, vs, _, rv, ha⟩
    have get : ∀ {b : Addr} {o : Obj}, s1.heap.get? b = some o → H b = none → (hidT s1.heap H).get? b = some o := fun e n => hidT_get e n
    have dictN : ∀ {b : Addr} {o : Obj} {es : Array DictEntry} {ep : Nat}, s1.heap.get? b = some o → o.data = .dict es ep → H b = none := fun {b o es ep} e d => by
      cases z : H b with
      | none => rfl
      | some u =>
        obtain ⟨rfl, _, _⟩ := hH b u z
        rw [ha] at e
        cases e
        exact nomatch d
    have spaces : ∀ {b : Addr} {m : Str → Option Value}, s1.heap.Ns b m → (hidT s1.heap H).Ns b m := fun {b m} z => by
      obtain ⟨o, es, ep, e, d, r⟩ := z
      exact ⟨o, es, ep, get e (dictN e d), d, r⟩
    have kb : K.In (hidT s1.heap H) := fun b o e => get (KX b o e) (by
      cases z : H b with
      | none => rfl
      | some u =>
        obtain ⟨rfl, n, _⟩ := hH b u z
        rw [n] at e
        cases e)
    have md : Mod K mg (hidT s1.heap H) := by
      obtain ⟨mc, z1, z2⟩ := hlim
      exact ⟨kb, spaces hns, ⟨mb, spaces hb, hbb⟩, ⟨mc, spaces z1, z2⟩⟩
    have e0 : Env0 P w K mg (hidT s1.heap H) callerA [] s1 H :=
      ⟨rfl, md, fun b o e => of_hidT e, Nat.le_of_eq (hidT_size _ _), trivial, fun b hb => (nomatch (show b ∈ ([] : List Addr) from hb)), hok, .of_eq hg⟩
    refine codeAny_mono ((F _ kb (spaces hns)).go callerA rfl hr [] s1 H ⟨[.ref a], []⟩ [.ref a] [.ref a] _ _ e0 (hbind s1 (.ref a)) (.cons rfl .nil) (hsp H hS)) fun r s2 h => ?_
    cases r with
    | error e => exact False.elim h
    | ok fl =>
      cases fl with
      | next => exact False.elim h
      | brk => exact False.elim h
      | cont => exact False.elim h
      | ret u =>
        obtain ⟨v, H2, os, bare, un, hok2, r2, q⟩ := h
        have ev : v = .bl true := q
        subst ev
        have eu : u = Value.bool true := r2
        subst eu
        refine ⟨rfl, OldK.of_keep fun b o e => ?_, os, bare⟩
        cases z : H b with
        | none => exact un.keep b o e z (fun n => (nomatch (show b ∈ ([] : List Addr) from n))) (fun n => (nomatch n))
        | some y =>
          obtain ⟨rfl, _, rfl⟩ := hH b y z
          obtain ⟨e2, _⟩ := hok2 _ _ (un.frzs _ _ _ z)
          rw [ha] at e
          cases e
          exact e2
  cases hk : K.lookup a with
  | some o =>
    have e := KX a o hk
    rw [ha] at e
    cases e
    exact core (fun _ => none) (fun b u z => (nomatch z)) (.inr ⟨_, vs.toArray, _, hk, rfl, rfl, rfl, by rw [List.size_toArray, hi.length]; exact hl, by simpa using rv⟩)
  | none =>
    refine core (fun b => if b = a then some (.frz { cls := .type "list", data := .seq vs.toArray } (.lst (ns.map V.int))) else none) (fun b u z => ?_) (.inl (.inr ⟨{ cls := .type "list", data := .seq vs.toArray }, if_pos rfl⟩))
    by_cases e : b = a
    · rw [if_pos e] at z
      cases z
      exact ⟨e, hk, rfl⟩
    · rw [if_neg e] at z
      cases z
/-- the goal that k_head leaves, from the law's promise where nothing is being shown -/
theorem walk_goes {l : PySem.W.OpenLaw} {n k : Nat} {q : Program} {loose : List Str} {XP : (Str → Option Value) → Heap → Prop} {YP : World → Heap → Prop} {d : DefRec} {K : Params → PySem.W.Frag} {sp : World → Sp} {x : Str}
    (hn : l.most = some n) (hn2 : n ≤ sizeLine) (hdf : d.params.defaults = []) (hr : Room k callerA) (hY : ∀ (w : World) (h : Heap), YP w h → (K w.params).In h)
    (F : ∀ (w : World) (mg : Str → Option Value) (fa : Addr) (h : Heap), (K w.params).In h → h.Ns mainGlobals mg → mg d.name = some (.ref fa) →
      ∃ fd : FuncData, (∀ (s : Shared) (u : Value), BindsTo s fd ⟨[u], []⟩ [(x, u)]) ∧ ∀ base : Heap, (K w.params).In base → base.Ns mainGlobals mg → FnG l.prog w (K w.params) mg base CX0 k fa fd [x] (sp w))
    (hsp : ∀ (w : World) (H : Hp) (a : Addr) (ns : List Int), ns.length ≤ n → SqL (K w.params) H a (ns.map V.int) → sp w [.ref a] H (fun v _ => v = .bl true) fun _ _ _ => False) :
    PySem.W.WalkO q loose XP YP l.row.toRowW d [] (fun f vs => PySem.call f vs) := by
  refine Att.attach_call hn hdf fun w s0 s1 mg mb fa o pm cd doc a vs ns G Y ho hd hcd hmg hobj hints hlen hg => ?_
  have KX := hY w _ Y
  obtain ⟨fd, hb, hF⟩ := F w mg fa _ KX G.T.g hmg
  exact law_goes KX G.T.g G.T.b G.T.builtins G.T.nolimit hg hobj hints (Nat.le_trans hlen hn2) hr hF hb fun H hS => hsp w H a ns hlen hS
/-! ### repr of data -/
mutual
/-- data at a value: as Dp, and the dict without entries -/
inductive Dr (H : Hp) : V → PyData → Prop
  | non : Dr H .non .none
  | bl (b : Bool) : Dr H (.bl b) (.bool b)
  | int (i : Int) : Dr H (.int i) (.int i)
  | str (x : Str) : Dr H (.str x) (.str x)
  | lst {a : Addr} {xs : List V} {ds : List PyData} : H a = some (.lst xs) → DrAll H xs ds → Dr H (.ref a) (.list ds)
  | tup {a : Addr} {xs : List V} {ds : List PyData} : H a = some (.tup xs) → DrAll H xs ds → Dr H (.ref a) (.tuple ds)
  | dct {a : Addr} : H a = some (.dK []) → Dr H (.ref a) (.dict [])
inductive DrAll (H : Hp) : List V → List PyData → Prop
  | nil : DrAll H [] []
  | cons {v : V} {vs : List V} {d : PyData} {ds : List PyData} : Dr H v d → DrAll H vs ds → DrAll H (v :: vs) (d :: ds)
end
section
variable {X : Cx} {pins : List (Addr × Obj)} {σ : L2.St} {H : Hp} {s : Shared}
mutual
theorem Dr.reads (I : Inv X pins σ H s) : ∀ (d : PyData) (v : V) (u : Value), Dr H v d → RelV v u → ∃ as, Reads s.heap u d as ∧ ∀ b ∈ as, (∃ xs, H b = some (.lst xs)) ∨ H b = some (.dK [])
  | .none, _, _, h, r => by
    cases h
    cases r
    exact ⟨_, .none, fun b z => (nomatch z)⟩
  | .bool b, _, _, h, r => by
    cases h
    cases r
    exact ⟨_, .bool b, fun b z => (nomatch z)⟩
  | .int i, _, _, h, r => by
    cases h
    obtain ⟨t, rfl⟩ := r
    exact ⟨_, .int i t, fun b z => (nomatch z)⟩
  | .str x, _, _, h, r => by
    cases h
    obtain ⟨t, rfl⟩ := r
    exact ⟨_, .str x t, fun b z => (nomatch z)⟩
  | .list ds, _, _, h, r => by
    cases h with
    | lst hs ha =>
      cases r
      obtain ⟨its, rv, ⟨o, n, ho, hc, _, hd⟩, _⟩ := I.list (SqL.of hs)
      obtain ⟨as, hr, hb⟩ := Dr.readsAll I ds _ its ha rv
      refine ⟨_, .list ho hc hd hr, fun b z => ?_⟩
      rcases List.mem_cons.mp z with e | e
      · subst e
        exact .inl ⟨_, hs⟩
      · exact hb b e
  | .tuple ds, _, _, h, r => by
    cases h with
    | tup hs ha =>
      cases r
      obtain ⟨its, rv, ⟨o, ho, hc, n, hd⟩, _⟩ := I.tuple (SqT.of hs)
      obtain ⟨as, hr, hb⟩ := Dr.readsAll I ds _ its ha rv
      exact ⟨_, .tuple ho hc hd hr, hb⟩
  | .dict kvs, _, _, h, r => by
    cases h with
    | dct hs =>
      cases r
      obtain ⟨_, _, vs, rel, dd⟩ := dk_of I.hok hs
      cases rel
      obtain ⟨o, es, ep, ho, hx, hda, _, hp, _⟩ := dd
      have hz := hp.length
      have he : es = #[] := Array.eq_empty_of_size_eq_zero (by simpa using hz)
      subst he
      refine ⟨_, .dict (as := []) (bs := []) ho hx.1 hda .nil .nil, fun b z => ?_⟩
      rcases List.mem_cons.mp z with e | e
      · subst e
        exact .inr hs
      · exact (nomatch e)
theorem Dr.readsAll (I : Inv X pins σ H s) : ∀ (ds : List PyData) (vs : List V) (us : List Value), DrAll H vs ds → Vals vs us → ∃ as, ReadsAll s.heap us ds as ∧ ∀ b ∈ as, (∃ xs, H b = some (.lst xs)) ∨ H b = some (.dK [])
  | [], _, _, h, r => by
    cases h
    cases r
    exact ⟨_, .nil, fun b z => (nomatch z)⟩
  | d :: ds, _, _, h, r => by
    cases h with
    | cons h1 h2 =>
      cases r with
      | cons r1 r2 =>
        obtain ⟨as, q1, b1⟩ := Dr.reads I d _ _ h1 r1
        obtain ⟨bs, q2, b2⟩ := Dr.readsAll I ds _ _ h2 r2
        refine ⟨_, .cons q1 q2, fun b z => ?_⟩
        rcases List.mem_append.mp z with e | e
        · exact b1 b e
        · exact b2 b e
end
end
section
variable {X : Cx}
theorem readsAll_nil {h : Heap} {us : List Value} {as : List Addr} (r : ReadsAll h us [] as) : as = [] := by
  cases r
  rfl
/-- repr(x) of data (its dict, if it has one, is all of it) -/
def rRepr : List V → Hp → VK → Prop := fun xs H Q => ∃ (x : V) (d : PyData), xs = [x] ∧ Dr H x d ∧ d.showable = true ∧ d.depth ≤ 40 ∧ ((∀ i, d ≠ .int i) → d.shown.length ≤ sizeLine) ∧ (d.hasDict = true → d = .dict []) ∧ Q (.str d.shown) H
theorem call_reprD (hG : X.A.guards = some []) (hu : X.A.units + 64 < cLine) : CallR X (.builtin "repr") rRepr := by
  intro pins s σ H xs us Q I r h
  obtain ⟨x, d, rfl, hd, hs, hdep, hz, hk, q⟩ := h
  cases r with
  | cons rx rr =>
    rename_i u us
    cases rr
    have byRef : ∀ a, u = .ref a → wpAny (model X.prog X.w) X.A (call (.builtin "repr") [u]) (EP X pins σ Q) X.xe s := fun a e => by
      subst e
      obtain ⟨as, hr, hb⟩ := Dr.reads I d x _ hd rx
      refine repr_of_reads' hr hs (fun z => ?_) hG (by omega) (fun _ _ e => e) (fun h1 u1 tk k => ⟨.str d.shown, H, I.kept (t' := tk) k, ⟨u1, rfl⟩, q⟩) (hz fun i ei => by subst ei; cases hr)
      have ed := hk z
      subst ed
      cases hd with
      | dct hs1 =>
        cases rx
        cases hr with
        | dict h1 h2 h3 h4 h5 =>
          intro hm
          have e4 := readsAll_nil h4
          have e5 := readsAll_nil h5
          subst e4
          subst e5
          obtain ⟨_, e6, _⟩ := dk_of I.hok hs1
          rcases List.mem_cons.mp hm with e7 | e7
          · rw [← e7] at e6
            cases e6
          · exact (nomatch e7)
    cases hd with
    | non =>
      cases rx
      exact PySem.P.repr_of_none ⟨.str _, H, I.tok _, ⟨_, rfl⟩, q⟩
    | bl b =>
      cases rx
      exact PySem.P.repr_of_bool ⟨.str _, H, I.tok _, ⟨_, rfl⟩, q⟩
    | int i =>
      obtain ⟨t, rfl⟩ := rx
      exact PySem.P.repr_of_int (of_decide_eq_true hs) ⟨.str _, H, I.tok _, ⟨_, rfl⟩, q⟩
    | str x =>
      obtain ⟨t, rfl⟩ := rx
      exact PySem.P.repr_of_str ⟨.str _, H, I.tok _, ⟨_, rfl⟩, q⟩ (hz fun i ei => by cases ei)
    | lst h1 h2 =>
      cases rx
      exact byRef _ rfl
    | tup h1 h2 =>
      cases rx
      exact byRef _ rfl
    | dct h1 =>
      cases rx
      exact byRef _ rfl
end
end LK
namespace LK
open PySem PySem.Spec PyProof.Rows L2
theorem same_upd {H : Hp} {p : Addr} {o : HO} (h : H p = none) : Same H (upd H p o) := fun b x e => by
  rw [upd_ne (ne_of_none e h)]
  exact e
theorem none_upd {H : Hp} {p q : Addr} {o : HO} (h : upd H p o q = none) : H q = none ∧ q ≠ p := by
  by_cases e : q = p
  · rw [e, upd_same] at h
    cases h
  · rw [upd_ne e] at h
    exact ⟨h, e⟩
/-- a reading, weakened behind -/
def tUp (te : TE) : TE := fun σ H Q => ∃ Q0 : VK, te σ H Q0 ∧ ∀ v H1, Q0 v H1 → Q v H1
theorem pe_up {X : Cx} {e : Expr} {te : TE} (he : PE X e te) : PE X e (tUp te) := ⟨fun pins s σ H Q I h => by
  obtain ⟨Q0, h0, hq⟩ := h
  refine wpAny_mono (he.run pins s σ H Q0 I h0) (fun u s1 hu => ?_) fun _ _ z => z
  obtain ⟨v, H1, I1, r, q⟩ := hu
  exact ⟨v, H1, I1, r, hq v H1 q⟩⟩
/-- __init__(self, f): self.f = f -/
def spInit (K : PySem.W.Frag) (f : Str) : Sp := fun vs H Q _ => ∃ (a C : Addr) (v : V), vs = [.ref a, v] ∧ OexC K C ∧ PySem.W.findIn K (.ref C) f = some none ∧ H a = some (exo a C none) ∧
  ∀ d, H d = none → d ≠ a → Q .non (upd (upd H d (exd d [(f, v)])) a (exo a C (some d)))
/-- what stands of an error class with such an __init__ -/
structure ErrCls (P : Program) (w : World) (K : PySem.W.Frag) (mg : Str → Option Value) (base : Heap) (x f : Str) (C : Addr) : Prop where
  gC : mg x = some (.ref C)
  T : OexC K C
  no : PySem.W.findIn K (.ref C) f = some none
  init : ∃ (fI : Addr) (fd : FuncData), PySem.W.findIn K (.ref C) "__init__" = some (some (.ref fI)) ∧ PySem.W.typeIn K (.ref fI) = some (.type "function") ∧ FnOk P w K mg base CX0 1 fI fd ["self", f] (spInit K f) ∧ Binds K fd ["self", f] []
/-- x(e), an error as a value -/
def tErr (C : Addr) (f : Str) (te : TE) : TE := fun σ H Q => te σ H fun v H1 => ∀ d a, H1 d = none → H1 a = none → a ≠ d → Q (.ref a) (upd (upd H1 d (.xd [(f, v)])) a (ErrO (.ref C) (some d) a))
theorem pe_mkErr {X : Cx} {x f : Str} {C : Addr} {e : Expr} {te : TE} {p pos : Pos} (M : ErrCls X.prog X.w X.K X.mg X.base x f C) (hr : Room 2 X.A) (hg : Gl X x) (he : PE X e te)
    (hdb : (x == ("__debug__" : Str)) = false := by decide) (hs : starEach [e] X.env = (false, eval e X.env) :: starEach [] X.env := by rfl) : PE X (.Call (.Name x p) [e] [] pos) (tErr C f te) := by
  obtain ⟨fI, fd, iC, tI, G, b⟩ := M.init
  have h0 := pe_of_pmk (pmk_oex (p := p) (pos := pos) M.T iC tI G hr b .nil pass0 hg M.gC (pa_cons (pe_up he) pa_nil hs) hdb hs rfl)
  refine ⟨fun pins s σ H Q I h => h0.run pins s σ H Q I ?_⟩
  refine ⟨_, h, fun v H1 hv => ?_⟩
  refine ⟨by show 1 ≤ 1000; decide, fun a na => ⟨a, C, v, rfl, M.T, M.no, upd_same, fun d nd nda => ⟨rfl, d, [(f, v)], upd_same, ?_, (none_upd nd).1, fun a' na' => ?_⟩⟩⟩
  · rw [upd_ne nda, upd_same]
  · have e1 : (upd (del (upd (upd (upd H1 a (exo a C none)) d (exd d [(f, v)])) a (exo a C (some d))) a) d (.xd [(f, v)])) = upd H1 d (.xd [(f, v)]) := by
      funext b
      by_cases hb : b = d
      · rw [hb, upd_same, upd_same]
      · rw [upd_ne hb, upd_ne hb]
        by_cases hb2 : b = a
        · rw [hb2, del_same, na]
        · rw [del_ne hb2, upd_ne hb2, upd_ne hb, upd_ne hb2]
    rw [e1] at na' ⊢
    exact hv d a' (none_upd nd).1 (none_upd na').1 (none_upd na').2
theorem cat_use {H : Hp} {Q : VK} {p q : Addr} {xs zs : List V} (h1 : H p = some (.lst xs)) (h2 : H q = some (.lst zs)) (hz : xs.length + zs.length ≤ sizeLine) (k : ∀ r, H r = none → Q (.ref r) (upd H r (.lst (xs ++ zs)))) : rCat (.ref p) (.ref q) H Q :=
  ⟨p, q, xs, zs, rfl, rfl, h1, h2, hz, k⟩
end LK
namespace LK
open PySem PySem.Spec PyProof.Rows L2
def topS (i : Nat) : Stmt := PySem.Challenge.pw_linkorder_k12_errors.main.body.getD i (.Pass ⟨0, 0, 0, 0⟩)

section
variable {P : Program} {w : World} {K : PySem.W.Frag} {mg : Str → Option Value} {base : Heap}
abbrev sI0 : Stmt := inClass (topS 2) 0
theorem scI0 : FnScope ["self", "value"] ["self", "value"] (defScope sI0) := ⟨rfl, rfl, rfl, by decide +kernel, rfl, by decide +kernel, by decide +kernel⟩
theorem ok_i0 {fa : Addr} {fd : FuncData} {k : Nat} (F : Fun K "__init__" "InvalidLibrary.__init__" sI0 fa fd) : FnOk P w K mg base CX0 (k + 1) fa fd ["self", "value"] (spInit K "value") := by
  refine F.ok scI0 (fun vs H Q E h => ?_) (fun cdv A outer s H vs Q E hr h => ?_)
  · obtain ⟨a, C, v, rfl, _⟩ := h
    rfl
  · obtain ⟨a, C, v, rfl, T, no, ha, q⟩ := h
    exact ⟨_, pss_one (ps_ost (pv 0) (pv 1)), v, rfl, .ref a, rfl, a, C, rfl, T, no, .inl ⟨ha, q⟩⟩
abbrev sI1 : Stmt := inClass (topS 3) 0
theorem scI1 : FnScope ["self", "value"] ["self", "value"] (defScope sI1) := ⟨rfl, rfl, rfl, by decide +kernel, rfl, by decide +kernel, by decide +kernel⟩
theorem ok_i1 {fa : Addr} {fd : FuncData} {k : Nat} (F : Fun K "__init__" "InvalidMember.__init__" sI1 fa fd) : FnOk P w K mg base CX0 (k + 1) fa fd ["self", "value"] (spInit K "value") := by
  refine F.ok scI1 (fun vs H Q E h => ?_) (fun cdv A outer s H vs Q E hr h => ?_)
  · obtain ⟨a, C, v, rfl, _⟩ := h
    rfl
  · obtain ⟨a, C, v, rfl, T, no, ha, q⟩ := h
    exact ⟨_, pss_one (ps_ost (pv 0) (pv 1)), v, rfl, .ref a, rfl, a, C, rfl, T, no, .inl ⟨ha, q⟩⟩
abbrev sI2 : Stmt := inClass (topS 4) 0
theorem scI2 : FnScope ["self", "value"] ["self", "value"] (defScope sI2) := ⟨rfl, rfl, rfl, by decide +kernel, rfl, by decide +kernel, by decide +kernel⟩
theorem ok_i2 {fa : Addr} {fd : FuncData} {k : Nat} (F : Fun K "__init__" "InvalidName.__init__" sI2 fa fd) : FnOk P w K mg base CX0 (k + 1) fa fd ["self", "value"] (spInit K "value") := by
  refine F.ok scI2 (fun vs H Q E h => ?_) (fun cdv A outer s H vs Q E hr h => ?_)
  · obtain ⟨a, C, v, rfl, _⟩ := h
    rfl
  · obtain ⟨a, C, v, rfl, T, no, ha, q⟩ := h
    exact ⟨_, pss_one (ps_ost (pv 0) (pv 1)), v, rfl, .ref a, rfl, a, C, rfl, T, no, .inl ⟨ha, q⟩⟩
abbrev sI3 : Stmt := inClass (topS 5) 0
theorem scI3 : FnScope ["self", "value"] ["self", "value"] (defScope sI3) := ⟨rfl, rfl, rfl, by decide +kernel, rfl, by decide +kernel, by decide +kernel⟩
theorem ok_i3 {fa : Addr} {fd : FuncData} {k : Nat} (F : Fun K "__init__" "UnknownName.__init__" sI3 fa fd) : FnOk P w K mg base CX0 (k + 1) fa fd ["self", "value"] (spInit K "value") := by
  refine F.ok scI3 (fun vs H Q E h => ?_) (fun cdv A outer s H vs Q E hr h => ?_)
  · obtain ⟨a, C, v, rfl, _⟩ := h
    rfl
  · obtain ⟨a, C, v, rfl, T, no, ha, q⟩ := h
    exact ⟨_, pss_one (ps_ost (pv 0) (pv 1)), v, rfl, .ref a, rfl, a, C, rfl, T, no, .inl ⟨ha, q⟩⟩
abbrev sI4 : Stmt := inClass (topS 6) 0
theorem scI4 : FnScope ["self", "value"] ["self", "value"] (defScope sI4) := ⟨rfl, rfl, rfl, by decide +kernel, rfl, by decide +kernel, by decide +kernel⟩
theorem ok_i4 {fa : Addr} {fd : FuncData} {k : Nat} (F : Fun K "__init__" "InvalidProgram.__init__" sI4 fa fd) : FnOk P w K mg base CX0 (k + 1) fa fd ["self", "value"] (spInit K "value") := by
  refine F.ok scI4 (fun vs H Q E h => ?_) (fun cdv A outer s H vs Q E hr h => ?_)
  · obtain ⟨a, C, v, rfl, _⟩ := h
    rfl
  · obtain ⟨a, C, v, rfl, T, no, ha, q⟩ := h
    exact ⟨_, pss_one (ps_ost (pv 0) (pv 1)), v, rfl, .ref a, rfl, a, C, rfl, T, no, .inl ⟨ha, q⟩⟩
abbrev sI5 : Stmt := inClass (topS 7) 0
theorem scI5 : FnScope ["self", "value"] ["self", "value"] (defScope sI5) := ⟨rfl, rfl, rfl, by decide +kernel, rfl, by decide +kernel, by decide +kernel⟩
theorem ok_i5 {fa : Addr} {fd : FuncData} {k : Nat} (F : Fun K "__init__" "InvalidPrograms.__init__" sI5 fa fd) : FnOk P w K mg base CX0 (k + 1) fa fd ["self", "value"] (spInit K "value") := by
  refine F.ok scI5 (fun vs H Q E h => ?_) (fun cdv A outer s H vs Q E hr h => ?_)
  · obtain ⟨a, C, v, rfl, _⟩ := h
    rfl
  · obtain ⟨a, C, v, rfl, T, no, ha, q⟩ := h
    exact ⟨_, pss_one (ps_ost (pv 0) (pv 1)), v, rfl, .ref a, rfl, a, C, rfl, T, no, .inl ⟨ha, q⟩⟩
abbrev sI6 : Stmt := inClass (topS 8) 0
theorem scI6 : FnScope ["self", "value"] ["self", "value"] (defScope sI6) := ⟨rfl, rfl, rfl, by decide +kernel, rfl, by decide +kernel, by decide +kernel⟩
theorem ok_i6 {fa : Addr} {fd : FuncData} {k : Nat} (F : Fun K "__init__" "InvalidLine.__init__" sI6 fa fd) : FnOk P w K mg base CX0 (k + 1) fa fd ["self", "value"] (spInit K "value") := by
  refine F.ok scI6 (fun vs H Q E h => ?_) (fun cdv A outer s H vs Q E hr h => ?_)
  · obtain ⟨a, C, v, rfl, _⟩ := h
    rfl
  · obtain ⟨a, C, v, rfl, T, no, ha, q⟩ := h
    exact ⟨_, pss_one (ps_ost (pv 0) (pv 1)), v, rfl, .ref a, rfl, a, C, rfl, T, no, .inl ⟨ha, q⟩⟩
abbrev sI7 : Stmt := inClass (topS 9) 0
theorem scI7 : FnScope ["self", "value"] ["self", "value"] (defScope sI7) := ⟨rfl, rfl, rfl, by decide +kernel, rfl, by decide +kernel, by decide +kernel⟩
theorem ok_i7 {fa : Addr} {fd : FuncData} {k : Nat} (F : Fun K "__init__" "InvalidChain.__init__" sI7 fa fd) : FnOk P w K mg base CX0 (k + 1) fa fd ["self", "value"] (spInit K "value") := by
  refine F.ok scI7 (fun vs H Q E h => ?_) (fun cdv A outer s H vs Q E hr h => ?_)
  · obtain ⟨a, C, v, rfl, _⟩ := h
    rfl
  · obtain ⟨a, C, v, rfl, T, no, ha, q⟩ := h
    exact ⟨_, pss_one (ps_ost (pv 0) (pv 1)), v, rfl, .ref a, rfl, a, C, rfl, T, no, .inl ⟨ha, q⟩⟩
abbrev sI8 : Stmt := inClass (topS 10) 0
theorem scI8 : FnScope ["self", "value"] ["self", "value"] (defScope sI8) := ⟨rfl, rfl, rfl, by decide +kernel, rfl, by decide +kernel, by decide +kernel⟩
theorem ok_i8 {fa : Addr} {fd : FuncData} {k : Nat} (F : Fun K "__init__" "InvalidNumber.__init__" sI8 fa fd) : FnOk P w K mg base CX0 (k + 1) fa fd ["self", "value"] (spInit K "value") := by
  refine F.ok scI8 (fun vs H Q E h => ?_) (fun cdv A outer s H vs Q E hr h => ?_)
  · obtain ⟨a, C, v, rfl, _⟩ := h
    rfl
  · obtain ⟨a, C, v, rfl, T, no, ha, q⟩ := h
    exact ⟨_, pss_one (ps_ost (pv 0) (pv 1)), v, rfl, .ref a, rfl, a, C, rfl, T, no, .inl ⟨ha, q⟩⟩
abbrev sI9 : Stmt := inClass (topS 13) 0
theorem scI9 : FnScope ["self", "value"] ["self", "value"] (defScope sI9) := ⟨rfl, rfl, rfl, by decide +kernel, rfl, by decide +kernel, by decide +kernel⟩
theorem ok_i9 {fa : Addr} {fd : FuncData} {k : Nat} (F : Fun K "__init__" "DoesNotServe.__init__" sI9 fa fd) : FnOk P w K mg base CX0 (k + 1) fa fd ["self", "value"] (spInit K "value") := by
  refine F.ok scI9 (fun vs H Q E h => ?_) (fun cdv A outer s H vs Q E hr h => ?_)
  · obtain ⟨a, C, v, rfl, _⟩ := h
    rfl
  · obtain ⟨a, C, v, rfl, T, no, ha, q⟩ := h
    exact ⟨_, pss_one (ps_ost (pv 0) (pv 1)), v, rfl, .ref a, rfl, a, C, rfl, T, no, .inl ⟨ha, q⟩⟩
abbrev sI10 : Stmt := inClass (topS 15) 0
theorem scI10 : FnScope ["self", "row"] ["self", "row"] (defScope sI10) := ⟨rfl, rfl, rfl, by decide +kernel, rfl, by decide +kernel, by decide +kernel⟩
theorem ok_i10 {fa : Addr} {fd : FuncData} {k : Nat} (F : Fun K "__init__" "ParseError.__init__" sI10 fa fd) : FnOk P w K mg base CX0 (k + 1) fa fd ["self", "row"] (spInit K "row") := by
  refine F.ok scI10 (fun vs H Q E h => ?_) (fun cdv A outer s H vs Q E hr h => ?_)
  · obtain ⟨a, C, v, rfl, _⟩ := h
    rfl
  · obtain ⟨a, C, v, rfl, T, no, ha, q⟩ := h
    exact ⟨_, pss_one (ps_ost (pv 0) (pv 1)), v, rfl, .ref a, rfl, a, C, rfl, T, no, .inl ⟨ha, q⟩⟩
abbrev sI11 : Stmt := inClass (topS 16) 0
theorem scI11 : FnScope ["self", "command"] ["self", "command"] (defScope sI11) := ⟨rfl, rfl, rfl, by decide +kernel, rfl, by decide +kernel, by decide +kernel⟩
theorem ok_i11 {fa : Addr} {fd : FuncData} {k : Nat} (F : Fun K "__init__" "CommandError.__init__" sI11 fa fd) : FnOk P w K mg base CX0 (k + 1) fa fd ["self", "command"] (spInit K "command") := by
  refine F.ok scI11 (fun vs H Q E h => ?_) (fun cdv A outer s H vs Q E hr h => ?_)
  · obtain ⟨a, C, v, rfl, _⟩ := h
    rfl
  · obtain ⟨a, C, v, rfl, T, no, ha, q⟩ := h
    exact ⟨_, pss_one (ps_ost (pv 0) (pv 1)), v, rfl, .ref a, rfl, a, C, rfl, T, no, .inl ⟨ha, q⟩⟩
end
/-- what the top has written of the errors: their classes at cl 0 .. cl 14, LinkError's at cl 15 -/
structure Errs (P : Program) (w : World) (K : PySem.W.Frag) (mg : Str → Option Value) (base : Heap) (cl : Nat → Addr) : Prop where
  exc : ∀ i, i < 16 → ExcC K (cl i)
  kit : ∀ i j, i < 16 → j < 16 → PySem.W.kitOne K (.ref (cl i)) (.ref (cl j)) = some (decide (i = j) || decide (j = 15))
  kitV : ∀ i, i < 16 → PySem.W.kitOne K (.ref (cl i)) (.type "ValueError") = some true
  gL : mg "LinkError" = some (.ref (cl 15))
  e0 : ErrCls P w K mg base "InvalidLibrary" "value" (cl 0)
  f0 : ErrF K (cl 0) "value"
  e1 : ErrCls P w K mg base "InvalidMember" "value" (cl 1)
  f1 : ErrF K (cl 1) "value"
  e2 : ErrCls P w K mg base "InvalidName" "value" (cl 2)
  f2 : ErrF K (cl 2) "value"
  e3 : ErrCls P w K mg base "UnknownName" "value" (cl 3)
  f3 : ErrF K (cl 3) "value"
  e4 : ErrCls P w K mg base "InvalidProgram" "value" (cl 4)
  f4 : ErrF K (cl 4) "value"
  e5 : ErrCls P w K mg base "InvalidPrograms" "value" (cl 5)
  f5 : ErrF K (cl 5) "value"
  e6 : ErrCls P w K mg base "InvalidLine" "value" (cl 6)
  f6 : ErrF K (cl 6) "value"
  e7 : ErrCls P w K mg base "InvalidChain" "value" (cl 7)
  f7 : ErrF K (cl 7) "value"
  e8 : ErrCls P w K mg base "InvalidNumber" "value" (cl 8)
  f8 : ErrF K (cl 8) "value"
  e9 : ErrCls P w K mg base "DoesNotServe" "value" (cl 9)
  f9 : ErrF K (cl 9) "value"
  e10 : ErrCls P w K mg base "ParseError" "row" (cl 10)
  f10 : ErrF K (cl 10) "row"
  e11 : ErrCls P w K mg base "CommandError" "command" (cl 11)
  f11 : ErrF K (cl 11) "command"
  g12 : mg "TooManyChains" = some (.ref (cl 12))
  g13 : mg "TooManyStates" = some (.ref (cl 13))
  g14 : mg "NothingToUndo" = some (.ref (cl 14))
  x12 : PySem.W.excIn K (cl 12) [.type "ValueError", .type "Exception", .type "BaseException", .type "object"] "ValueError.__new__" = true
  k12 : PySem.W.keepIn K (.ref (cl 12)) = true
  x13 : PySem.W.excIn K (cl 13) [.type "ValueError", .type "Exception", .type "BaseException", .type "object"] "ValueError.__new__" = true
  k13 : PySem.W.keepIn K (.ref (cl 13)) = true
  x14 : PySem.W.excIn K (cl 14) [.type "ValueError", .type "Exception", .type "BaseException", .type "object"] "ValueError.__new__" = true
  k14 : PySem.W.keepIn K (.ref (cl 14)) = true
  x15 : PySem.W.excIn K (cl 15) [.type "ValueError", .type "Exception", .type "BaseException", .type "object"] "ValueError.__new__" = true
  k15 : PySem.W.keepIn K (.ref (cl 15)) = true
/-- at e an error of the i-th class -/
def IsE (cl : Nat → Addr) (H : Hp) (e : Addr) (i : Nat) : Prop := ∃ d, H e = some (ErrO (.ref (cl i)) d e) ∧ ∀ x, d = some x → ∃ fs, H x = some (.xd fs)
/-- at e an error of the i-th class whose field f is x -/
def FV (cl : Nat → Addr) (H : Hp) (e : Addr) (i : Nat) (f : Str) (x : V) : Prop := ∃ d, H e = some (ErrO (.ref (cl i)) (some d) e) ∧ H d = some (.xd [(f, x)])
section
variable {cl : Nat → Addr} {H H1 : Hp} {e p a : Addr} {i j : Nat} {f : Str} {x : V} {l l1 : List V}
theorem IsE.mono (h : IsE cl H e i) (s : Same H H1) : IsE cl H1 e i := by
  obtain ⟨d, h1, h2⟩ := h
  refine ⟨d, s _ _ h1, fun x ex => ?_⟩
  obtain ⟨fs, z⟩ := h2 x ex
  exact ⟨fs, s _ _ z⟩
theorem FV.mono (h : FV cl H e i f x) (s : Same H H1) : FV cl H1 e i f x := by
  obtain ⟨d, h1, h2⟩ := h
  exact ⟨d, s _ _ h1, s _ _ h2⟩
theorem FV.isE (h : FV cl H e i f x) : IsE cl H e i := by
  obtain ⟨d, h1, h2⟩ := h
  refine ⟨some d, h1, fun y ey => ?_⟩
  cases ey
  exact ⟨_, h2⟩
theorem err_ne {cls : Value} {d : Option Addr} (hp : H p = some (.lst l)) (he : H e = some (ErrO cls d a)) : e ≠ p := fun z => by
  rw [z, hp] at he
  have z2 : HO.lst l = HO.ext _ := Option.some.inj he
  cases z2
theorem xd_ne {fs : List (Str × V)} (hp : H p = some (.lst l)) (he : H e = some (.xd fs)) : e ≠ p := fun z => by
  rw [z, hp] at he
  cases he
theorem tup_ne {xs : List V} (hp : H p = some (.lst l)) (he : H e = some (.tup xs)) : e ≠ p := fun z => by
  rw [z, hp] at he
  cases he
theorem IsE.mut (hp : H p = some (.lst l)) (h : IsE cl H e i) : IsE cl (upd H p (.lst l1)) e i := by
  obtain ⟨d, h1, h2⟩ := h
  refine ⟨d, by rw [upd_ne (err_ne hp h1)]; exact h1, fun x ex => ?_⟩
  obtain ⟨fs, z⟩ := h2 x ex
  exact ⟨fs, by rw [upd_ne (xd_ne hp z)]; exact z⟩
theorem FV.mut (hp : H p = some (.lst l)) (h : FV cl H e i f x) : FV cl (upd H p (.lst l1)) e i f x := by
  obtain ⟨d, h1, h2⟩ := h
  exact ⟨d, by rw [upd_ne (err_ne hp h1)]; exact h1, by rw [upd_ne (xd_ne hp h2)]; exact h2⟩
theorem isE_use {P : Program} {w : World} {K : PySem.W.Frag} {mg : Str → Option Value} {base : Heap} {Q : VK} (T : Errs P w K mg base cl) (h : IsE cl H e i) (hi : i < 16) (hj : j < 16) (q : Q (.bl (decide (i = j) || decide (j = 15))) H) : rIsErr K [.ref e, .ref (cl j)] H Q := by
  obtain ⟨d, h1, h2⟩ := h
  exact ⟨e, cl i, d, .ref (cl j), .ref (cl j), _, rfl, h1, h2, T.exc i hi, fun u r => r, T.kit i j hi hj, q⟩
theorem isE_useV {P : Program} {w : World} {K : PySem.W.Frag} {mg : Str → Option Value} {base : Heap} {Q : VK} (T : Errs P w K mg base cl) (h : IsE cl H e i) (hi : i < 16) (q : Q (.bl true) H) : rIsErr K [.ref e, .ty "ValueError"] H Q := by
  obtain ⟨d, h1, h2⟩ := h
  exact ⟨e, cl i, d, .ty "ValueError", .type "ValueError", _, rfl, h1, h2, T.exc i hi, fun u r => r, T.kitV i hi, q⟩
end
abbrev sKinds : Stmt := topS 20
theorem scKinds : FnScope ["_law_error", "_law_some"] ["_law_error"] (defScope sKinds) := ⟨rfl, rfl, rfl, by decide +kernel, rfl, by decide +kernel, by decide +kernel⟩
def kindsOf (i : Nat) : List V := (List.range 15).map fun j => V.bl (decide (i = j) || decide (j = 15))
def spKinds (cl : Nat → Addr) : Sp := fun vs H Q _ => ∃ (e : Addr) (i : Nat), vs = [.ref e] ∧ IsE cl H e i ∧ i < 16 ∧ ∀ p H1, Same H H1 → H p = none → H1 p = some (.lst (kindsOf i)) → Q (.ref p) H1
section
variable {P : Program} {w : World} {K : PySem.W.Frag} {mg : Str → Option Value} {base : Heap} {cl : Nat → Addr}
theorem ok_kinds {fa : Addr} {fd : FuncData} {k : Nat} (F : Fun K "_law_kinds" "_law_kinds" sKinds fa fd) (T : Errs P w K mg base cl) (mI : mg "isinstance" = none) : FnOk P w K mg base CX0 (k + 1) fa fd ["_law_error"] (spKinds cl) := by
  refine F.ok scKinds (fun vs H Q E h => ?_) (fun cdv A outer s H vs Q E hr h => ?_)
  · obtain ⟨e, i, rfl, _⟩ := h
    rfl
  · obtain ⟨e, i, rfl, hE, hi, q⟩ := h
    refine ⟨_, (pss_cons (ps_set (i := 1) scKinds.nd rfl (.inl rfl) (pe_lst (pa_cons (pe_callB call_isErr (by rfl) mI (by decide +kernel) (pa_cons (pv 0) (pa_cons (pe_glob (v := .ref (cl 0)) (by rfl) T.e0.gC rfl) pa_nil))) (pa_cons (pe_callB call_isErr (by rfl) mI (by decide +kernel) (pa_cons (pv 0) (pa_cons (pe_glob (v := .ref (cl 1)) (by rfl) T.e1.gC rfl) pa_nil))) (pa_cons (pe_callB call_isErr (by rfl) mI (by decide +kernel) (pa_cons (pv 0) (pa_cons (pe_glob (v := .ref (cl 2)) (by rfl) T.e2.gC rfl) pa_nil))) pa_nil)))))
      (pss_cons (ps_set (i := 1) scKinds.nd rfl (.inl rfl) (pe_op op_cat (pv 1) (pe_lst (pa_cons (pe_callB call_isErr (by rfl) mI (by decide +kernel) (pa_cons (pv 0) (pa_cons (pe_glob (v := .ref (cl 3)) (by rfl) T.e3.gC rfl) pa_nil))) (pa_cons (pe_callB call_isErr (by rfl) mI (by decide +kernel) (pa_cons (pv 0) (pa_cons (pe_glob (v := .ref (cl 4)) (by rfl) T.e4.gC rfl) pa_nil))) pa_nil)))))
      (pss_cons (ps_set (i := 1) scKinds.nd rfl (.inl rfl) (pe_op op_cat (pv 1) (pe_lst (pa_cons (pe_callB call_isErr (by rfl) mI (by decide +kernel) (pa_cons (pv 0) (pa_cons (pe_glob (v := .ref (cl 5)) (by rfl) T.e5.gC rfl) pa_nil))) (pa_cons (pe_callB call_isErr (by rfl) mI (by decide +kernel) (pa_cons (pv 0) (pa_cons (pe_glob (v := .ref (cl 6)) (by rfl) T.e6.gC rfl) pa_nil))) pa_nil)))))
      (pss_cons (ps_set (i := 1) scKinds.nd rfl (.inl rfl) (pe_op op_cat (pv 1) (pe_lst (pa_cons (pe_callB call_isErr (by rfl) mI (by decide +kernel) (pa_cons (pv 0) (pa_cons (pe_glob (v := .ref (cl 7)) (by rfl) T.e7.gC rfl) pa_nil))) (pa_cons (pe_callB call_isErr (by rfl) mI (by decide +kernel) (pa_cons (pv 0) (pa_cons (pe_glob (v := .ref (cl 8)) (by rfl) T.e8.gC rfl) pa_nil))) pa_nil)))))
      (pss_cons (ps_set (i := 1) scKinds.nd rfl (.inl rfl) (pe_op op_cat (pv 1) (pe_lst (pa_cons (pe_callB call_isErr (by rfl) mI (by decide +kernel) (pa_cons (pv 0) (pa_cons (pe_glob (v := .ref (cl 9)) (by rfl) T.e9.gC rfl) pa_nil))) (pa_cons (pe_callB call_isErr (by rfl) mI (by decide +kernel) (pa_cons (pv 0) (pa_cons (pe_glob (v := .ref (cl 10)) (by rfl) T.e10.gC rfl) pa_nil))) (pa_cons (pe_callB call_isErr (by rfl) mI (by decide +kernel) (pa_cons (pv 0) (pa_cons (pe_glob (v := .ref (cl 11)) (by rfl) T.e11.gC rfl) pa_nil))) pa_nil))))))
      (pss_cons (ps_set (i := 1) scKinds.nd rfl (.inl rfl) (pe_op op_cat (pv 1) (pe_lst (pa_cons (pe_callB call_isErr (by rfl) mI (by decide +kernel) (pa_cons (pv 0) (pa_cons (pe_glob (v := .ref (cl 12)) (by rfl) T.g12 rfl) pa_nil))) (pa_cons (pe_callB call_isErr (by rfl) mI (by decide +kernel) (pa_cons (pv 0) (pa_cons (pe_glob (v := .ref (cl 13)) (by rfl) T.g13 rfl) pa_nil))) pa_nil)))))
      (pss_one (ps_ret (pe_op op_cat (pv 1) (pe_lst (pa_cons (pe_callB call_isErr (by rfl) mI (by decide +kernel) (pa_cons (pv 0) (pa_cons (pe_glob (v := .ref (cl 14)) (by rfl) T.g14 rfl) pa_nil))) pa_nil))))))))))), ?_⟩
    rw [show L2.start ["_law_error", "_law_some"] [V.ref e] = [some (V.ref e), none] from rfl]
    simp only [tSeq, tAsg, gName, tOp, tUn, tVar, tC, rI, rI0, tIfS, tTest, tCB, tCons, tNil, tRet, tRetN, tNext, tDrop, tLst, tTup, cxOf, rIxLH, rIxTH, gSub, rSetL, tAnd, tOr, tNot, tB, tIf, tCall, gTup, gCons, gNil, tPar, tAug, tAndV, tOrV, tNotV, upd_same, upd_upd, HO.lst.injEq, HO.tup.injEq, Option.some.injEq, V.int.injEq, V.ref.injEq, V.bl.injEq, V.str.injEq, List.cons.injEq, and_true, true_and, exists_eq_left', exists_eq_left, exists_and_left, exists_eq_right, exists_eq_right', List.set_cons_succ, List.set_cons_zero, List.getElem?_cons_zero, List.getElem?_cons_succ, List.cons_append, List.nil_append, List.append_nil, reduceCtorEq, false_and, and_false, exists_false, false_or, or_false, Int.reduceLT, Int.reduceLE, List.length_cons, List.length_nil, Nat.reduceAdd, implies_true, exists_const]
    refine isE_use T (hE.mono (Same.refl H)) hi (by decide) ?_
    refine isE_use T (hE.mono (Same.refl H)) hi (by decide) ?_
    refine isE_use T (hE.mono (Same.refl H)) hi (by decide) ?_
    refine ⟨by decide, fun q0 m0 => ?_⟩
    refine isE_use T (hE.mono ((Same.refl H).trans (same_upd m0))) hi (by decide) ?_
    refine isE_use T (hE.mono ((Same.refl H).trans (same_upd m0))) hi (by decide) ?_
    refine ⟨by decide, fun q1 m1 => ?_⟩
    refine cat_use (same_upd m1 _ _ upd_same) upd_same (by show 5 ≤ sizeLine; decide) fun p1 n1 => ?_
    refine isE_use T (hE.mono ((((Same.refl H).trans (same_upd m0)).trans (same_upd m1)).trans (same_upd n1))) hi (by decide) ?_
    refine isE_use T (hE.mono ((((Same.refl H).trans (same_upd m0)).trans (same_upd m1)).trans (same_upd n1))) hi (by decide) ?_
    refine ⟨by decide, fun q2 m2 => ?_⟩
    refine cat_use (same_upd m2 _ _ upd_same) upd_same (by show 7 ≤ sizeLine; decide) fun p2 n2 => ?_
    refine isE_use T (hE.mono ((((((Same.refl H).trans (same_upd m0)).trans (same_upd m1)).trans (same_upd n1)).trans (same_upd m2)).trans (same_upd n2))) hi (by decide) ?_
    refine isE_use T (hE.mono ((((((Same.refl H).trans (same_upd m0)).trans (same_upd m1)).trans (same_upd n1)).trans (same_upd m2)).trans (same_upd n2))) hi (by decide) ?_
    refine ⟨by decide, fun q3 m3 => ?_⟩
    refine cat_use (same_upd m3 _ _ upd_same) upd_same (by show 9 ≤ sizeLine; decide) fun p3 n3 => ?_
    refine isE_use T (hE.mono ((((((((Same.refl H).trans (same_upd m0)).trans (same_upd m1)).trans (same_upd n1)).trans (same_upd m2)).trans (same_upd n2)).trans (same_upd m3)).trans (same_upd n3))) hi (by decide) ?_
    refine isE_use T (hE.mono ((((((((Same.refl H).trans (same_upd m0)).trans (same_upd m1)).trans (same_upd n1)).trans (same_upd m2)).trans (same_upd n2)).trans (same_upd m3)).trans (same_upd n3))) hi (by decide) ?_
    refine isE_use T (hE.mono ((((((((Same.refl H).trans (same_upd m0)).trans (same_upd m1)).trans (same_upd n1)).trans (same_upd m2)).trans (same_upd n2)).trans (same_upd m3)).trans (same_upd n3))) hi (by decide) ?_
    refine ⟨by decide, fun q4 m4 => ?_⟩
    refine cat_use (same_upd m4 _ _ upd_same) upd_same (by show 12 ≤ sizeLine; decide) fun p4 n4 => ?_
    refine isE_use T (hE.mono ((((((((((Same.refl H).trans (same_upd m0)).trans (same_upd m1)).trans (same_upd n1)).trans (same_upd m2)).trans (same_upd n2)).trans (same_upd m3)).trans (same_upd n3)).trans (same_upd m4)).trans (same_upd n4))) hi (by decide) ?_
    refine isE_use T (hE.mono ((((((((((Same.refl H).trans (same_upd m0)).trans (same_upd m1)).trans (same_upd n1)).trans (same_upd m2)).trans (same_upd n2)).trans (same_upd m3)).trans (same_upd n3)).trans (same_upd m4)).trans (same_upd n4))) hi (by decide) ?_
    refine ⟨by decide, fun q5 m5 => ?_⟩
    refine cat_use (same_upd m5 _ _ upd_same) upd_same (by show 14 ≤ sizeLine; decide) fun p5 n5 => ?_
    refine isE_use T (hE.mono ((((((((((((Same.refl H).trans (same_upd m0)).trans (same_upd m1)).trans (same_upd n1)).trans (same_upd m2)).trans (same_upd n2)).trans (same_upd m3)).trans (same_upd n3)).trans (same_upd m4)).trans (same_upd n4)).trans (same_upd m5)).trans (same_upd n5))) hi (by decide) ?_
    refine ⟨by decide, fun q6 m6 => ?_⟩
    refine cat_use (same_upd m6 _ _ upd_same) upd_same (by show 15 ≤ sizeLine; decide) fun p6 n6 => ?_
    exact q p6 _ ((((((((((((((Same.refl H).trans (same_upd m0)).trans (same_upd m1)).trans (same_upd n1)).trans (same_upd m2)).trans (same_upd n2)).trans (same_upd m3)).trans (same_upd n3)).trans (same_upd m4)).trans (same_upd n4)).trans (same_upd m5)).trans (same_upd n5)).trans (same_upd m6)).trans (same_upd n6)) ((((((((((((((Same.refl H).trans (same_upd m0)).trans (same_upd m1)).trans (same_upd n1)).trans (same_upd m2)).trans (same_upd n2)).trans (same_upd m3)).trans (same_upd n3)).trans (same_upd m4)).trans (same_upd n4)).trans (same_upd m5)).trans (same_upd n5)).trans (same_upd m6)).free n6) upd_same
end
abbrev sMade : Stmt := topS 21
theorem scMade : FnScope ["_law_item", "_law_found", "_law_error", "_law_first", "_law_last"] ["_law_item"] (defScope sMade) := ⟨rfl, rfl, rfl, by decide +kernel, rfl, by decide +kernel, by decide +kernel⟩
/-- at p the list of the pairs of L: (the tuple, the error), the tuple's second item x -/
def Found (cl : Nat → Addr) (H : Hp) (p : Addr) (L : List (Addr × Addr)) (x : V) : Prop :=
  H p = some (.lst (L.map fun m => V.ref m.1)) ∧ ∀ j m, L[j]? = some m → H m.1 = some (.tup [.ref m.2, x]) ∧ IsE cl H m.2 j
def spMade (cl : Nat → Addr) : Sp := fun vs H Q _ => ∃ x : V, vs = [x] ∧ ∀ p H1 L, Same H H1 → H p = none → Found cl H1 p L x → L.length = 15 → Q (.ref p) H1
section
variable {cl : Nat → Addr} {H H1 : Hp} {p e t : Addr} {L : List (Addr × Addr)} {x : V} {f : Str}
theorem Found.mono (h : Found cl H p L x) (s : Same H H1) : Found cl H1 p L x :=
  ⟨s _ _ h.1, fun j m hm => ⟨s _ _ (h.2 j m hm).1, (h.2 j m hm).2.mono s⟩⟩
theorem Found.more {M : List (Addr × Addr)} (h : Found cl H p L x) (hM : ∀ j m, M[j]? = some m → H m.1 = some (.tup [.ref m.2, x]) ∧ IsE cl H m.2 (L.length + j)) : Found cl (upd H p (.lst (L.map (fun m => V.ref m.1) ++ M.map (fun m => V.ref m.1)))) p (L ++ M) x := by
  refine ⟨by rw [upd_same, List.map_append], fun j m hm => ?_⟩
  have key : H m.1 = some (.tup [.ref m.2, x]) ∧ IsE cl H m.2 j := by
    rcases Nat.lt_or_ge j L.length with hj | hj
    · rw [List.getElem?_append_left hj] at hm
      exact h.2 j m hm
    · rw [List.getElem?_append_right hj] at hm
      have z := hM _ m hm
      rw [show L.length + (j - L.length) = j by omega] at z
      exact z
  exact ⟨by rw [upd_ne (tup_ne h.1 key.1)]; exact key.1, key.2.mut h.1⟩
theorem Found.len (h : Found cl H p L x) (hl : L.length ≤ 100) : (L.map fun m => V.ref m.1).length < sizeLine := by
  rw [List.length_map]
  exact Nat.lt_of_le_of_lt hl (by decide)
theorem Found.cat {M : List (Addr × Addr)} {r : Addr} (h : Found cl H p L x) (hM : ∀ j m, M[j]? = some m → H m.1 = some (.tup [.ref m.2, x]) ∧ IsE cl H m.2 (L.length + j)) (hr : H r = none) : Found cl (upd H r (.lst (L.map (fun m => V.ref m.1) ++ M.map (fun m => V.ref m.1)))) r (L ++ M) x := by
  refine ⟨by rw [upd_same, List.map_append], fun j m hm => ?_⟩
  have key : H m.1 = some (.tup [.ref m.2, x]) ∧ IsE cl H m.2 j := by
    rcases Nat.lt_or_ge j L.length with hj | hj
    · rw [List.getElem?_append_left hj] at hm
      exact h.2 j m hm
    · rw [List.getElem?_append_right hj] at hm
      have z := hM _ m hm
      rw [show L.length + (j - L.length) = j by omega] at z
      exact z
  exact ⟨same_upd hr _ _ key.1, key.2.mono (same_upd hr)⟩
/-- all but p is as it was -/
def Sab (p : Addr) (H H1 : Hp) : Prop := ∀ b o, b ≠ p → H b = some o → H1 b = some o
theorem Sab.same {H0 : Hp} (h : Sab p H H1) (s : Same H0 H) (n : H0 p = none) : Same H0 H1 := fun b o e => h b o (ne_of_none e n) (s b o e)
theorem Sab.upd {o : HO} (h : Sab p H H1) : Sab p H (upd H1 p o) := fun b u hb e => by
  rw [upd_ne hb]
  exact h b u hb e
theorem Sab.trans {H2 : Hp} (h : Sab p H H1) (k : Sab p H1 H2) : Sab p H H2 := fun b o hb e => k b o hb (h b o hb e)
theorem _root_.L2.Same.sab (s : Same H H1) : Sab p H H1 := fun b o _ e => s b o e
theorem FV.sab {i : Nat} {l : List V} (hp : H p = some (.lst l)) (h : FV cl H e i f x) (s : Sab p H H1) : FV cl H1 e i f x := by
  obtain ⟨d, h1, h2⟩ := h
  exact ⟨d, s _ _ (err_ne hp h1) h1, s _ _ (xd_ne hp h2) h2⟩
theorem fv_new {d a : Addr} {i : Nat} (n : a ≠ d) : FV cl (upd (upd H d (.xd [(f, x)])) a (ErrO (.ref (cl i)) (some d) a)) a i f x := ⟨d, upd_same, by rw [upd_ne (Ne.symm n)]; exact upd_same⟩
theorem same_err {d a : Addr} {cls : Value} (nd : H d = none) (na : H a = none) (n : a ≠ d) : Same H (upd (upd H d (.xd [(f, x)])) a (ErrO cls (some d) a)) := fun b o e => by
  rw [upd_ne (ne_of_none e na), upd_ne (ne_of_none e nd)]
  exact e
theorem errF_use {K : PySem.W.Frag} {i : Nat} {Q : VK} (h : FV cl H e i f x) (hf : ErrF K (cl i) f) (q : Q x H) : ∃ (a C d : Addr) (fs : List (Str × V)) (v : V), V.ref e = .ref a ∧ H a = some (ErrO (.ref C) (some d) a) ∧ H d = some (.xd fs) ∧ fs.lookup f = some v ∧ ErrF K C f ∧ Q v H := by
  obtain ⟨d, h1, h2⟩ := h
  refine ⟨e, cl i, d, _, x, rfl, h1, h2, ?_, hf, q⟩
  simp [List.lookup]
def tTurn (K : PySem.W.Frag) : TS := tDrop (tBM K "list" rAppend (tVar 1) (tCons (tTup (tCons (tVar 2) (tCons (tErrF K "value" (tVar 2)) tNil))) tNil))
theorem made_turns {K : PySem.W.Frag} {D : Ends} {tp : Addr} {es : List Addr} {y2 y3 y4 : Option V} (hF : Found cl H p L x) (htp : H tp = some (.tup (es.map V.ref))) (hV : ∀ j e, es[j]? = some e → FV cl H e (L.length + j) "value" x)
    (hlen : L.length + es.length ≤ 15) (hf : ∀ j, j < es.length → ErrF K (cl (L.length + j)) "value")
    (k : ∀ y H1 L1, Sab p H H1 → Found cl H1 p L1 x → L1.length = L.length + es.length → D.nx [some x, some (.ref p), y, y3, y4] H1) :
    tFor (fun _ H0 R => R (Itt K tp) H0) (gName 2) (tTurn K) D [some x, some (.ref p), y2, y3, y4] H := by
  refine for_tup (K := K) (a := tp) (xs := es.map V.ref) (fun i σ H1 => ∃ y L1, σ = [some x, some (.ref p), y, y3, y4] ∧ Sab p H H1 ∧ Found cl H1 p L1 x ∧ L1.length = L.length + i) ⟨y2, L, rfl, fun _ _ _ z => z, hF, rfl⟩ (fun i σ H1 _ z => ?_) (fun i v σ H1 hv z => ?_) (fun σ H1 z => ?_)
  · obtain ⟨y, L1, rfl, s, _⟩ := z
    exact SqT.of (s _ _ (tup_ne hF.1 htp) htp)
  · obtain ⟨y, L1, rfl, s, hF1, hl⟩ := z
    rw [List.getElem?_map] at hv
    cases he : es[i]? with
    | none =>
      rw [he] at hv
      cases hv
    | some e =>
      rw [he] at hv
      cases hv
      have hi : i < es.length := (List.getElem?_eq_some_iff.mp he).1
      have hE := (hV i e he).sab hF.1 s
      refine ⟨.ref p, rfl, .inl ⟨rfl, _, SqL.of hF1.1⟩, .ref e, rfl, .ref e, rfl, errF_use hE (hf i hi) ?_⟩
      refine ⟨by show 2 ≤ sizeLine; decide, fun t nt => ?_⟩
      have hF2 := hF1.mono (same_upd (o := .tup [.ref e, x]) nt)
      refine ⟨p, _, _, rfl, rfl, hF2.1, hF2.len (by omega), ?_⟩
      have hF3 := hF2.more (M := [(t, e)]) (fun j m hm => by
        cases j with
        | zero =>
          cases hm
          refine ⟨upd_same, ?_⟩
          rw [hl]
          exact hE.isE.mono (same_upd nt)
        | succ j => cases hm)
      exact ⟨some (.ref e), L1 ++ [(t, e)], rfl, (s.trans (same_upd nt).sab).upd, hF3, by rw [List.length_append, List.length_singleton]; omega⟩
  · obtain ⟨y, L1, rfl, s, hF1, hl⟩ := z
    rw [List.length_map] at hl
    exact k y H1 L1 s hF1 hl
end
section
variable {P : Program} {w : World} {K : PySem.W.Frag} {mg : Str → Option Value} {base : Heap} {cl : Nat → Addr}
theorem ok_made {fa : Addr} {fd : FuncData} {k : Nat} (F : Fun K "_law_made" "_law_made" sMade fa fd) (T : Errs P w K mg base cl) : FnOk P w K mg base CX0 3 fa fd ["_law_item"] (spMade cl) := by
  refine F.ok scMade (fun vs H Q E h => ?_) (fun cdv A outer s H vs Q E hr h => ?_)
  · obtain ⟨x, rfl, _⟩ := h
    rfl
  · obtain ⟨x, rfl, q⟩ := h
    refine ⟨_, (pss_cons (ps_set (i := 1) scMade.nd rfl (.inl rfl) (pe_lst pa_nil))
      (pss_cons (ps_for PassesOwn.never rfl (pi_tup (pe_tup (pa_cons (pe_mkErr T.e0 hr (by rfl) (pv 0)) (pa_cons (pe_mkErr T.e1 hr (by rfl) (pv 0)) (pa_cons (pe_mkErr T.e2 hr (by rfl) (pv 0)) (pa_cons (pe_mkErr T.e3 hr (by rfl) (pv 0)) pa_nil)))))) (pg_name (i := 2) scMade.nd rfl (.inl rfl)) (pss_one (ps_expr (pe_bm PySem.F.plainAttrs_list PySem.F.slot_list_append PySem.F.type_list_append mt_append (pv 1) (pa_cons (pe_tup (pa_cons (pv 2) (pa_cons (pe_errF (pv 2)) pa_nil))) pa_nil)))))
      (pss_cons (ps_for PassesOwn.never rfl (pi_tup (pe_tup (pa_cons (pe_mkErr T.e4 hr (by rfl) (pv 0)) (pa_cons (pe_mkErr T.e5 hr (by rfl) (pv 0)) (pa_cons (pe_mkErr T.e6 hr (by rfl) (pv 0)) (pa_cons (pe_mkErr T.e7 hr (by rfl) (pv 0)) pa_nil)))))) (pg_name (i := 2) scMade.nd rfl (.inl rfl)) (pss_one (ps_expr (pe_bm PySem.F.plainAttrs_list PySem.F.slot_list_append PySem.F.type_list_append mt_append (pv 1) (pa_cons (pe_tup (pa_cons (pv 2) (pa_cons (pe_errF (pv 2)) pa_nil))) pa_nil)))))
      (pss_cons (ps_for PassesOwn.never rfl (pi_tup (pe_tup (pa_cons (pe_mkErr T.e8 hr (by rfl) (pv 0)) (pa_cons (pe_mkErr T.e9 hr (by rfl) (pv 0)) pa_nil)))) (pg_name (i := 2) scMade.nd rfl (.inl rfl)) (pss_one (ps_expr (pe_bm PySem.F.plainAttrs_list PySem.F.slot_list_append PySem.F.type_list_append mt_append (pv 1) (pa_cons (pe_tup (pa_cons (pv 2) (pa_cons (pe_errF (pv 2)) pa_nil))) pa_nil)))))
      (pss_cons (ps_par (i := 3) (j := 4) rfl scMade.nd rfl rfl (by decide) rfl rfl (pa_cons (pe_mkErr T.e10 hr (by rfl) (pv 0)) (pa_cons (pe_mkErr T.e11 hr (by rfl) (pv 0)) pa_nil)) (by rfl))
      (pss_cons (ps_expr (pe_bm PySem.F.plainAttrs_list PySem.F.slot_list_extend PySem.F.type_list_extend mt_extend (pv 1) (pa_cons (pe_lst (pa_cons (pe_tup (pa_cons (pv 3) (pa_cons (pe_errF (pv 3)) pa_nil))) (pa_cons (pe_tup (pa_cons (pv 4) (pa_cons (pe_errF (pv 4)) pa_nil))) pa_nil))) pa_nil)))
      (pss_one (ps_ret (pe_op op_cat (pv 1) (pe_lc (own := [("_law_error", 2)]) (g := gName 2) (tt := tYes) rfl scMade.nd (pi_tup (pe_tup (pa_cons (pe_err0 PySem.F.excBase_ValueError T.x12 T.g12 T.k12 (by rfl)) (pa_cons (pe_err0 PySem.F.excBase_ValueError T.x13 T.g13 T.k13 (by rfl)) (pa_cons (pe_err0 PySem.F.excBase_ValueError T.x14 T.g14 T.k14 (by rfl)) pa_nil))))) (blkOk_by (N := ["_law_item", "_law_found", "_law_error", "_law_first", "_law_last"]) (sc := defScope sMade) (by decide +kernel)) (fun _ _ _ _ _ => pg_name (i := 2) scMade.nd rfl (.inl rfl)) (fun _ _ _ _ _ => pts_nil) (fun _ _ _ _ _ => (pe_tup (pa_cons (pv 2) (pa_cons (pv 0) pa_nil)))))))))))))), ?_⟩
    rw [show L2.start ["_law_item", "_law_found", "_law_error", "_law_first", "_law_last"] [x] = [some x, none, none, none, none] from rfl]

    refine ⟨Nat.zero_le _, fun pf npf => ?_⟩
    have hF0 : Found cl (upd H pf (.lst [])) pf [] x := ⟨upd_same, fun j m hm => by cases hm⟩
    have s0 : Same H (upd H pf (.lst [])) := same_upd npf
    refine ⟨x, rfl, fun d0 a0 nd0 na0 ne0 => ?_⟩
    refine ⟨x, rfl, fun d1 a1 nd1 na1 ne1 => ?_⟩
    refine ⟨x, rfl, fun d2 a2 nd2 na2 ne2 => ?_⟩
    refine ⟨x, rfl, fun d3 a3 nd3 na3 ne3 => ?_⟩
    refine ⟨by show 4 ≤ sizeLine; decide, fun t0 nt0 => ?_⟩
    refine ⟨t0, rfl, ⟨_, SqT.of upd_same⟩, ?_⟩
    have hl0 : ([] : List (Addr × Addr)).length = 0 := rfl
    refine made_turns (es := [a0, a1, a2, a3]) (hF0.mono (((((same_err nd0 na0 ne0).trans (same_err nd1 na1 ne1)).trans (same_err nd2 na2 ne2)).trans (same_err nd3 na3 ne3)).trans (same_upd nt0))) upd_same (fun j e he => match j, e, he with
        | 0, _, rfl => (by rw [hl0]; exact ((((fv_new ne0).mono (same_err nd1 na1 ne1)).mono (same_err nd2 na2 ne2)).mono (same_err nd3 na3 ne3)).mono (same_upd nt0))
        | 1, _, rfl => (by rw [hl0]; exact (((fv_new ne1).mono (same_err nd2 na2 ne2)).mono (same_err nd3 na3 ne3)).mono (same_upd nt0))
        | 2, _, rfl => (by rw [hl0]; exact ((fv_new ne2).mono (same_err nd3 na3 ne3)).mono (same_upd nt0))
        | 3, _, rfl => (by rw [hl0]; exact (fv_new ne3).mono (same_upd nt0))
        | _ + 4, _, he => nomatch he) (by rw [hl0]; show 4 ≤ 15; decide) (fun j hj => match j, hj with
        | 0, _ => (by rw [hl0]; exact T.f0)
        | 1, _ => (by rw [hl0]; exact T.f1)
        | 2, _ => (by rw [hl0]; exact T.f2)
        | 3, _ => (by rw [hl0]; exact T.f3)
        | n + 4, hj => absurd hj (by simp)) fun y0 H0 L1 sb0 hF1 ln0 => ?_
    have s1 : Same H H0 := sb0.same (s0.trans (((((same_err nd0 na0 ne0).trans (same_err nd1 na1 ne1)).trans (same_err nd2 na2 ne2)).trans (same_err nd3 na3 ne3)).trans (same_upd nt0))) npf
    refine ⟨x, rfl, fun d4 a4 nd4 na4 ne4 => ?_⟩
    refine ⟨x, rfl, fun d5 a5 nd5 na5 ne5 => ?_⟩
    refine ⟨x, rfl, fun d6 a6 nd6 na6 ne6 => ?_⟩
    refine ⟨x, rfl, fun d7 a7 nd7 na7 ne7 => ?_⟩
    refine ⟨by show 4 ≤ sizeLine; decide, fun t1 nt1 => ?_⟩
    refine ⟨t1, rfl, ⟨_, SqT.of upd_same⟩, ?_⟩
    have hl1 : L1.length = 4 := by rw [ln0, hl0]; rfl
    refine made_turns (es := [a4, a5, a6, a7]) (hF1.mono (((((same_err nd4 na4 ne4).trans (same_err nd5 na5 ne5)).trans (same_err nd6 na6 ne6)).trans (same_err nd7 na7 ne7)).trans (same_upd nt1))) upd_same (fun j e he => match j, e, he with
        | 0, _, rfl => (by rw [hl1]; exact ((((fv_new ne4).mono (same_err nd5 na5 ne5)).mono (same_err nd6 na6 ne6)).mono (same_err nd7 na7 ne7)).mono (same_upd nt1))
        | 1, _, rfl => (by rw [hl1]; exact (((fv_new ne5).mono (same_err nd6 na6 ne6)).mono (same_err nd7 na7 ne7)).mono (same_upd nt1))
        | 2, _, rfl => (by rw [hl1]; exact ((fv_new ne6).mono (same_err nd7 na7 ne7)).mono (same_upd nt1))
        | 3, _, rfl => (by rw [hl1]; exact (fv_new ne7).mono (same_upd nt1))
        | _ + 4, _, he => nomatch he) (by rw [hl1]; show 8 ≤ 15; decide) (fun j hj => match j, hj with
        | 0, _ => (by rw [hl1]; exact T.f4)
        | 1, _ => (by rw [hl1]; exact T.f5)
        | 2, _ => (by rw [hl1]; exact T.f6)
        | 3, _ => (by rw [hl1]; exact T.f7)
        | n + 4, hj => absurd hj (by simp)) fun y1 H1 L2 sb1 hF2 ln1 => ?_
    have s2 : Same H H1 := sb1.same (s1.trans (((((same_err nd4 na4 ne4).trans (same_err nd5 na5 ne5)).trans (same_err nd6 na6 ne6)).trans (same_err nd7 na7 ne7)).trans (same_upd nt1))) npf
    refine ⟨x, rfl, fun d8 a8 nd8 na8 ne8 => ?_⟩
    refine ⟨x, rfl, fun d9 a9 nd9 na9 ne9 => ?_⟩
    refine ⟨by show 2 ≤ sizeLine; decide, fun t2 nt2 => ?_⟩
    refine ⟨t2, rfl, ⟨_, SqT.of upd_same⟩, ?_⟩
    have hl2 : L2.length = 8 := by rw [ln1, hl1]; rfl
    refine made_turns (es := [a8, a9]) (hF2.mono (((same_err nd8 na8 ne8).trans (same_err nd9 na9 ne9)).trans (same_upd nt2))) upd_same (fun j e he => match j, e, he with
        | 0, _, rfl => (by rw [hl2]; exact ((fv_new ne8).mono (same_err nd9 na9 ne9)).mono (same_upd nt2))
        | 1, _, rfl => (by rw [hl2]; exact (fv_new ne9).mono (same_upd nt2))
        | _ + 2, _, he => nomatch he) (by rw [hl2]; show 10 ≤ 15; decide) (fun j hj => match j, hj with
        | 0, _ => (by rw [hl2]; exact T.f8)
        | 1, _ => (by rw [hl2]; exact T.f9)
        | n + 2, hj => absurd hj (by simp)) fun y2 H2 L3 sb2 hF3 ln2 => ?_
    have s3 : Same H H2 := sb2.same (s2.trans (((same_err nd8 na8 ne8).trans (same_err nd9 na9 ne9)).trans (same_upd nt2))) npf
    have hl3 : L3.length = 10 := by rw [ln2, hl2]; rfl
    refine ⟨x, rfl, fun d10 a10 nd10 na10 ne10 => ?_⟩
    refine ⟨x, rfl, fun d11 a11 nd11 na11 ne11 => ?_⟩
    refine ⟨_, _, rfl, ?_⟩
    have c3 := (same_err (f := "row") (x := x) (cls := .ref (cl 10)) nd10 na10 ne10).trans (same_err (f := "command") (x := x) (cls := .ref (cl 11)) nd11 na11 ne11)
    have v10 : FV cl _ a10 10 "row" x := (fv_new ne10).mono (same_err (f := "command") (x := x) (cls := .ref (cl 11)) nd11 na11 ne11)
    have v11 : FV cl (upd (upd (upd (upd H2 d10 (.xd [("row", x)])) a10 (ErrO (.ref (cl 10)) (some d10) a10)) d11 (.xd [("command", x)])) a11 (ErrO (.ref (cl 11)) (some d11) a11)) a11 11 "command" x := fv_new ne11
    have hG := hF3.mono c3
    generalize hB : upd (upd (upd (upd H2 d10 (.xd [("row", x)])) a10 (ErrO (.ref (cl 10)) (some d10) a10)) d11 (.xd [("command", x)])) a11 (ErrO (.ref (cl 11)) (some d11) a11) = B at c3 v10 v11 hG ⊢
    refine ⟨.ref pf, rfl, .inl ⟨rfl, _, SqL.of hG.1⟩, .ref a10, rfl, .ref a10, rfl, errF_use v10 T.f10 ⟨by show 2 ≤ sizeLine; decide, fun t3 nt3 => ?_⟩⟩
    refine ⟨.ref a11, rfl, .ref a11, rfl, errF_use (v11.mono (same_upd nt3)) T.f11 ⟨by show 2 ≤ sizeLine; decide, fun t4 nt4 => ?_⟩⟩
    refine ⟨by show 2 ≤ sizeLine; decide, fun q0 nq0 => ?_⟩
    have hS : Same B (upd (upd (upd B t3 (.tup [.ref a10, x])) t4 (.tup [.ref a11, x])) q0 (.lst [.ref t3, .ref t4])) := ((same_upd nt3).trans (same_upd nt4)).trans (same_upd nq0)
    have hG1 := hG.mono hS
    refine ⟨pf, q0, _, _, rfl, rfl, hG1.1, upd_same, ?_, ?_⟩
    · rw [List.length_map, hl3]
      show 12 ≤ sizeLine
      decide
    have hG2 : Found cl (upd (upd (upd (upd B t3 (.tup [.ref a10, x])) t4 (.tup [.ref a11, x])) q0 (.lst [.ref t3, .ref t4])) pf (.lst (L3.map (fun m => V.ref m.1) ++ [.ref t3, .ref t4]))) pf (L3 ++ [(t3, a10), (t4, a11)]) x := hG1.more (M := [(t3, a10), (t4, a11)]) (fun j m hm => by
      match j, m, hm with
      | 0, _, rfl =>
        rw [hl3]
        exact ⟨((same_upd nt4).trans (same_upd nq0)) _ _ upd_same, v10.isE.mono hS⟩
      | 1, _, rfl =>
        rw [hl3]
        exact ⟨(same_upd nq0) _ _ upd_same, v11.isE.mono hS⟩
      | _ + 2, _, hm => cases hm)
    have s4 : Same H (upd (upd (upd (upd B t3 (.tup [.ref a10, x])) t4 (.tup [.ref a11, x])) q0 (.lst [.ref t3, .ref t4])) pf (.lst (L3.map (fun m => V.ref m.1) ++ [.ref t3, .ref t4]))) :=
      (show Sab pf _ _ from fun b o hb e => by rw [upd_ne hb]; exact e).same ((s3.trans c3).trans hS) npf
    have hl4 : (L3 ++ [(t3, a10), (t4, a11)]).length = 12 := by rw [List.length_append, hl3]; rfl
    generalize hC : upd (upd (upd (upd B t3 (.tup [.ref a10, x])) t4 (.tup [.ref a11, x])) q0 (.lst [.ref t3, .ref t4])) pf (.lst (L3.map (fun m => V.ref m.1) ++ [.ref t3, .ref t4])) = C at hG2 s4 ⊢
    generalize hL : L3 ++ [(t3, a10), (t4, a11)] = L4 at hG2 hl4
    refine ⟨.ref pf, rfl, fun a12 na12 a13 na13 a14 na14 => ⟨by show 3 ≤ sizeLine; decide, fun t5 nt5 => ⟨t5, rfl, ⟨_, SqT.of upd_same⟩, fun D nD => ?_⟩⟩⟩
    have e12 : IsE cl (upd (upd (upd (upd C a12 (ErrO (.ref (cl 12)) none a12)) a13 (ErrO (.ref (cl 13)) none a13)) a14 (ErrO (.ref (cl 14)) none a14)) t5 (.tup [.ref a12, .ref a13, .ref a14])) a12 12 :=
      ⟨none, (((same_upd na13).trans (same_upd na14)).trans (same_upd nt5)) _ _ upd_same, fun _ z => (nomatch z)⟩
    have e13 : IsE cl (upd (upd (upd (upd C a12 (ErrO (.ref (cl 12)) none a12)) a13 (ErrO (.ref (cl 13)) none a13)) a14 (ErrO (.ref (cl 14)) none a14)) t5 (.tup [.ref a12, .ref a13, .ref a14])) a13 13 :=
      ⟨none, ((same_upd na14).trans (same_upd nt5)) _ _ upd_same, fun _ z => (nomatch z)⟩
    have e14 : IsE cl (upd (upd (upd (upd C a12 (ErrO (.ref (cl 12)) none a12)) a13 (ErrO (.ref (cl 13)) none a13)) a14 (ErrO (.ref (cl 14)) none a14)) t5 (.tup [.ref a12, .ref a13, .ref a14])) a14 14 :=
      ⟨none, (same_upd nt5) _ _ upd_same, fun _ z => (nomatch z)⟩
    have sC : Same C (upd (upd (upd (upd C a12 (ErrO (.ref (cl 12)) none a12)) a13 (ErrO (.ref (cl 13)) none a13)) a14 (ErrO (.ref (cl 14)) none a14)) t5 (.tup [.ref a12, .ref a13, .ref a14])) := (((same_upd na12).trans (same_upd na13)).trans (same_upd na14)).trans (same_upd nt5)
    have ht5 : (upd (upd (upd (upd C a12 (ErrO (.ref (cl 12)) none a12)) a13 (ErrO (.ref (cl 13)) none a13)) a14 (ErrO (.ref (cl 14)) none a14)) t5 (.tup [.ref a12, .ref a13, .ref a14])) t5 = some (.tup [.ref a12, .ref a13, .ref a14]) := upd_same
    generalize hE5 : (upd (upd (upd (upd C a12 (ErrO (.ref (cl 12)) none a12)) a13 (ErrO (.ref (cl 13)) none a13)) a14 (ErrO (.ref (cl 14)) none a14)) t5 (.tup [.ref a12, .ref a13, .ref a14])) = C5 at e12 e13 e14 sC ht5 nD ⊢
    refine lc_tup (K := K) (a := t5) (xs := [.ref a12, .ref a13, .ref a14]) (fun i H9 => ∃ M : List (Addr × Addr), M.length = i ∧ H9 D = some (.lst (M.map fun m => V.ref m.1)) ∧ Sab D C5 H9 ∧ ∀ (j : Nat) (m : Addr × Addr), M[j]? = some m → H9 m.1 = some (.tup [.ref m.2, x]) ∧ [a12, a13, a14][j]? = some m.2) ⟨[], rfl, upd_same, fun b o hb e => by rw [upd_ne hb]; exact e, fun j m hm => by cases hm⟩ (fun i H9 _ z => ?_) (fun i v H9 hv z => ?_) (fun H9 z => ?_)
    · obtain ⟨M, _, _, sb, _⟩ := z
      exact SqT.of (sb _ _ (ne_of_none ht5 nD) ht5)
    · obtain ⟨M, hM, hD, sb, hm⟩ := z
      have hi : i < 3 := (List.getElem?_eq_some_iff.mp hv).1
      have hv2 : ([a12, a13, a14].map V.ref)[i]? = some v := hv
      rw [List.getElem?_map] at hv2
      obtain ⟨e, he, rfl⟩ := Option.map_eq_some_iff.mp hv2
      refine ⟨rfl, ?_⟩
      simp only [tYes, ↓reduceIte]
      refine ⟨.ref e, rfl, x, rfl, by show 2 ≤ sizeLine; decide, fun t nt => ⟨_, same_upd nt _ _ hD, ?_, ?_⟩⟩
      · rw [List.length_map, hM]
        exact Nat.lt_trans hi (by decide)
      · refine ⟨M ++ [(t, e)], by rw [List.length_append, hM]; rfl, by rw [upd_same, List.map_append]; rfl, (sb.trans (same_upd nt).sab).upd, fun j m hj => ?_⟩
        rcases Nat.lt_or_ge j M.length with hjl | hjl
        · rw [List.getElem?_append_left hjl] at hj
          have z := hm j m hj
          have z1 := same_upd (o := .tup [.ref e, x]) nt _ _ z.1
          refine ⟨?_, z.2⟩
          rw [upd_ne (tup_ne (same_upd (o := .tup [.ref e, x]) nt _ _ hD) z1)]
          exact z1
        · rw [List.getElem?_append_right hjl] at hj
          have ej : j = M.length := by
            rcases Nat.eq_zero_or_pos (j - M.length) with z | z
            · omega
            · rw [List.getElem?_eq_none (by rw [List.length_singleton]; omega)] at hj
              cases hj
          subst ej
          rw [Nat.sub_self] at hj
          cases hj
          refine ⟨?_, by rw [hM]; exact he⟩
          rw [upd_ne (tup_ne (same_upd (o := .tup [.ref e, x]) nt _ _ hD) upd_same)]
          exact upd_same
    · obtain ⟨M, hM, hD, sb, hm⟩ := z
      have hM3 : M.length = 3 := hM
      have s9 : Same C5 H9 := fun b o e => sb b o (ne_of_none e nD) e
      have hG9 := hG2.mono (sC.trans s9)
      refine cat_use hG9.1 hD (by rw [List.length_map, List.length_map, hl4, hM3]; decide) fun r nr => ?_
      refine q r _ (L4 ++ M) ((s4.trans (sC.trans s9)).trans (same_upd nr)) ((s4.trans (sC.trans s9)).free nr) (hG9.cat (fun j m hj => ⟨(hm j m hj).1, ?_⟩) nr) (by rw [List.length_append, hl4, hM3])
      have z := (hm j m hj).2
      rw [hl4]
      match j, z with
      | 0, z =>
        cases z
        exact e12.mono s9
      | 1, z =>
        cases z
        exact e13.mono s9
      | 2, z =>
        cases z
        exact e14.mono s9
      | _ + 3, z => cases z
end
end LK
namespace LK
open PySem PySem.Spec PyProof.Rows L2

abbrev sWell : Stmt := topS 18
abbrev sDraw : Stmt := topS 19
theorem scWell : FnScope ["_law_script", "_law_k", "_law_cell", "_law_own"] ["_law_script", "_law_k"] (defScope sWell) := ⟨rfl, rfl, rfl, by decide +kernel, rfl, by decide +kernel, by decide +kernel⟩
theorem scDraw : FnScope ["_law_well_here", "_law_below", "_law_digit", "_law_blend"] ["_law_well_here", "_law_below"] (defScope sDraw) := ⟨rfl, rfl, rfl, by decide +kernel, rfl, by decide +kernel, by decide +kernel⟩
section
variable {P : Program} {w : World} {K : PySem.W.Frag} {mg : Str → Option Value} {base : Heap}
def spWell (K : PySem.W.Frag) : Sp := fun vs H Q _ => ∃ (a : Addr) (ns : List Int) (k : Int), vs = [.ref a, .int k] ∧ SqL K H a (ns.map V.int) ∧ 0 ≤ k ∧ k ≤ 1000 ∧
  ∀ (p : Addr) (o b : Int), H p = none → 0 ≤ o → 0 ≤ b → b < 2 ^ 62 → Q (.ref p) (upd H p (.lst [.int o, .int b, .int 0]))
theorem ok_well {f : Addr} {fd : FuncData} {k : Nat} (F : Fun K "_law_well" "_law_well" sWell f fd) (ml : mg "len" = none) (ma : mg "abs" = none) (mi : mg "int" = none) : FnOk P w K mg base CX0 (k + 1) f fd ["_law_script", "_law_k"] (spWell K) := by
  refine F.ok scWell (fun vs H Q E h => ?_) (fun cdv A outer s H vs Q E hr h => ?_)
  · obtain ⟨a, ns, k, rfl, _⟩ := h
    rfl
  · obtain ⟨a, ns, k, rfl, hS, hk0, hk1, q⟩ := h
    refine ⟨_, pss_cons (ps_set (i := 2) scWell.nd rfl (.inl rfl) (pe_op op_add (pe_op op_mul pe_int (pv 1)) pe_int))
      (pss_cons (ps_if (pt_cmpR op_lt (pv 1) (pe_callB call_len_seq (by rfl) ml PySem.boot_len (pa_cons (pv 0) pa_nil)) (nomark _)) (pss_one (ps_set (i := 2) scWell.nd rfl (.inl rfl) (pe_ix ix_list (pv 0) (pv 1) (fun _ _ => rfl)))) pss_nil)
      (pss_cons (ps_set (i := 3) scWell.nd rfl (.inl rfl) (pe_op op_mul (pe_op op_mod (pe_callB call_abs (by rfl) ma (by decide +kernel) (pa_cons (pv 2) pa_nil)) (pe_op op_powW (pe_op op_pow pe_int pe_int) pe_int))
          (pe_callTy call_int1 (by rfl) mi (by decide +kernel) (pa_cons (pe_cmpR op_ge (pe_callB call_abs (by rfl) ma (by decide +kernel) (pa_cons (pv 2) pa_nil)) (pe_op op_pow pe_int pe_int) (nomark _)) pa_nil))))
      (pss_one (ps_ret (pe_lst (pa_cons (pv 3) (pa_cons (pe_op op_mod (pe_op op_add (pe_op op_add (pe_op op_mul (pe_op op_mod (pv 2) pe_int) pe_int) (pe_op op_mul (pe_op op_mul pe_int (pv 1)) (pv 1))) pe_int) pe_int) (pa_cons pe_int pa_nil)))))))), ?_⟩
    rw [show L2.start ["_law_script", "_law_k", "_law_cell", "_law_own"] [V.ref a, V.int k] = [some (V.ref a), some (V.int k), none, none] from rfl]
    have h1 : CPow 10 60 := by unfold CPow; decide
    have h2 : CPow 10 18 := by unfold CPow; decide
    have h3 : CPowW (10 ^ Int.toNat 60) 5 := by unfold CPowW; decide +kernel
    have h4 : (0 : Int) < (10 ^ Int.toNat 60) ^ Int.toNat 5 := by decide +kernel
    have h5 : ∀ x : Int, CMul x 75311 := fun x => .inr (by decide)
    have h6 : ∀ x : Int, CMul 11 x := fun x => .inl (by decide)
    have h7 : ∀ x : Int, CMul 6101 x := fun x => .inl (by decide)
    have h8 : CMul (6101 * k) k := .inr (by constructor <;> omega)
    have h9 : ∀ (x : Int) (c : Bool), CMul x (if c = true then 1 else 0) := fun x c => .inr (by cases c <;> decide)
    have h10 : 3 ≤ sizeLine := by decide
    simp only [rIxL, tSeq, tAsg, gName, tOp, tUn, tVar, tC, rI, rI0, tIfS, tTest, tCB, tCons, tNil, tRet, tRetN, tNext, tDrop, tLst, tTup, cxOf, rIxL, gSub, rSetL, tAnd, tOr, tNot, tB, tIf, tCall, gTup, gCons, gNil, tPar, tAug, tAndV, tOrV, tNotV, Option.some.injEq, V.int.injEq, V.ref.injEq, V.bl.injEq, V.str.injEq, List.cons.injEq, and_true, true_and, exists_eq_left', exists_eq_left, exists_and_left, exists_eq_right, exists_eq_right', List.set_cons_succ, List.set_cons_zero, List.getElem?_cons_zero, List.getElem?_cons_succ, List.cons_append, List.nil_append, List.append_nil, reduceCtorEq, false_and, and_false, exists_false, false_or, or_false, Int.reduceLT, Int.reduceLE, List.length_cons, List.length_nil, Nat.reduceAdd, implies_true, exists_const, h1, h2, h3, h4, h5, h6, h7, h8, h9, h10]
    refine ⟨_, .inl hS, ?_⟩
    have fin : ∀ c : Int, ∀ p : Addr, H p = none → Q (V.ref p) (upd H p (HO.lst [V.int ((if c < 0 then -c else c) % (10 ^ Int.toNat 60) ^ Int.toNat 5 * if decide (10 ^ Int.toNat 18 ≤ if c < 0 then -c else c) = true then 1 else 0), V.int ((c % 2305843009213693951 * 75311 + 6101 * k * k + 59) % 2305843009213693907), V.int 0])) := fun c p hp => by
      refine q p _ _ hp ?_ (Int.emod_nonneg _ (by decide)) (Int.lt_trans (Int.emod_lt_of_pos _ (by decide)) (by decide))
      refine Int.mul_nonneg (Int.emod_nonneg _ (Int.ne_of_gt h4)) ?_
      cases decide (10 ^ Int.toNat 18 ≤ if c < 0 then -c else c) <;> decide
    refine ite2 (fun e => ?_) (fun _ => fin _)
    have hk : k < ((ns.map V.int).length : Int) := of_decide_eq_true e
    rw [List.length_map] at hk
    have hkn : k.toNat < ns.length := by omega
    refine ⟨_, hS, .int (ns[k.toNat]'hkn), ?_, _, rfl, _, rfl, _, rfl, fin _⟩
    refine (congrArg (atI (ns.map V.int)) (show k = ((k.toNat : Nat) : Int) by omega)).trans (atI_nat ?_)
    rw [List.getElem?_map, List.getElem?_eq_getElem hkn]
    rfl
/-- a well at a: three numbers, the last one at most N -/
def WellAt (H : Hp) (a : Addr) (N : Nat) : Prop := ∃ o b n : Int, H a = some (.lst [.int o, .int b, .int n]) ∧ 0 ≤ o ∧ 0 ≤ b ∧ b < 2 ^ 62 ∧ 0 ≤ n ∧ n ≤ N
def spDraw : Sp := fun vs H Q _ => ∃ (a : Addr) (b : Int) (N : Nat), vs = [.ref a, .int b] ∧ WellAt H a N ∧ 0 < b ∧ b < 2 ^ 30 ∧ N ≤ 2 ^ 40 ∧
  ∀ (d o s n : Int), 0 ≤ d → d < b → 0 ≤ o → 0 ≤ s → s < 2 ^ 62 → 0 ≤ n → n ≤ (N + 1 : Nat) → Q (.int d) (upd H a (.lst [.int o, .int s, .int n]))
theorem ok_draw {f : Addr} {fd : FuncData} {k : Nat} (F : Fun K "_law_draw" "_law_draw" sDraw f fd) : FnOk P w K mg base CX0 (k + 1) f fd ["_law_well_here", "_law_below"] spDraw := by
  refine F.ok scDraw (fun vs H Q E h => ?_) (fun cdv A outer s H vs Q E hr h => ?_)
  · obtain ⟨a, b, N, rfl, _⟩ := h
    rfl
  · obtain ⟨a, b, N, rfl, ⟨o, c, n, hW, ho, hc0, hc1, hn0, hn1⟩, hb0, hb1, hN, q⟩ := h
    refine ⟨_, pss_cons (ps_if (pt_cmpR op_gt (pe_ix ix_listH (pv 0) pe_int (fun _ _ => rfl)) pe_int (nomark _))
        (pss_cons (ps_set (i := 2) scDraw.nd rfl (.inl rfl) (pe_op op_mod (pe_ix ix_listH (pv 0) pe_int (fun _ _ => rfl)) (pv 1)))
        (pss_cons (ps_asg (pe_op op_fdiv (pe_ix ix_listH (pv 0) pe_int (fun _ _ => rfl)) (pv 1)) (pg_sub (pv 0) pe_int set_list))
        (pss_one (ps_ret (pv 2))))) pss_nil)
      (pss_cons (ps_asg (pe_op op_add (pe_ix ix_listH (pv 0) pe_int (fun _ _ => rfl)) pe_int) (pg_sub (pv 0) pe_int set_list))
      (pss_cons (ps_set (i := 3) scDraw.nd rfl (.inl rfl) (pe_op op_mod (pe_op op_mul (pe_op op_add (pe_op op_add (pe_ix ix_listH (pv 0) pe_int (fun _ _ => rfl)) (pe_op op_mul (pe_op op_mul pe_int (pe_ix ix_listH (pv 0) pe_int (fun _ _ => rfl))) (pe_ix ix_listH (pv 0) pe_int (fun _ _ => rfl)))) pe_int) pe_int) pe_int))
      (pss_cons (ps_set (i := 3) scDraw.nd rfl (.inl rfl) (pe_op op_mod (pe_op op_mul (pv 3) (pe_op op_add (pe_op op_add (pe_op op_mod (pv 3) pe_int) (pe_op op_mul pe_int (pe_ix ix_listH (pv 0) pe_int (fun _ _ => rfl)))) pe_int)) pe_int))
      (pss_one (ps_ret (pe_op op_mod (pe_op op_add (pe_op op_fdiv (pv 3) pe_int) (pe_op op_fdiv (pv 3) pe_int)) (pv 1))))))), ?_⟩
    rw [show L2.start ["_law_well_here", "_law_below", "_law_digit", "_law_blend"] [V.ref a, V.int b] = [some (V.ref a), some (V.int b), none, none] from rfl]
    have g1 : ∀ (x y z : V), atI [x, y, z] 0 = some x := fun _ _ _ => rfl
    have g2 : ∀ (x y z : V), atI [x, y, z] 1 = some y := fun _ _ _ => rfl
    have g3 : ∀ (x y z : V), atI [x, y, z] 2 = some z := fun _ _ _ => rfl
    have g4 : ixN 3 0 = some 0 := rfl
    have g5 : ixN 3 2 = some 2 := rfl
    have h1 : ∀ x : Int, CMul 40009 x := fun x => .inl (by decide)
    have h2 : ∀ x : Int, CMul x 75329 := fun x => .inr (by decide)
    have h3 : ∀ x : Int, CMul x (n + 1) := fun x => .inr (by constructor <;> omega)
    have h4 : ∀ x y : Int, CMul (x % 2305843009213693921) y := fun x y => .inl ⟨Int.lt_of_lt_of_le (by decide) (Int.emod_nonneg _ (by decide)), Int.lt_trans (Int.emod_lt_of_pos _ (by decide)) (by decide)⟩
    have h5 : ∀ x : Int, CMul 70001 x := fun x => .inl (by decide)
    have h6 : ∀ x : Int, CDiv x b := fun x => ⟨hb0, hb1⟩
    have h7 : ∀ x : Int, CDiv x 101 := fun x => ⟨by decide, by decide⟩
    have h8 : ∀ x : Int, CDiv x 999983 := fun x => ⟨by decide, by decide⟩
    simp only [tSeq, tAsg, gName, tOp, tUn, tVar, tC, rI, rI0, tIfS, tTest, tCB, tCons, tNil, tRet, tRetN, tNext, tDrop, tLst, tTup, cxOf, rIxLH, rIxTH, gSub, rSetL, tAnd, tOr, tNot, tB, tIf, tCall, gTup, gCons, gNil, tPar, tAug, tAndV, tOrV, tNotV, upd_same, upd_upd, HO.lst.injEq, HO.tup.injEq, Option.some.injEq, V.int.injEq, V.ref.injEq, V.bl.injEq, V.str.injEq, List.cons.injEq, and_true, true_and, exists_eq_left', exists_eq_left, exists_and_left, exists_eq_right, exists_eq_right', List.set_cons_succ, List.set_cons_zero, List.getElem?_cons_zero, List.getElem?_cons_succ, List.cons_append, List.nil_append, List.append_nil, reduceCtorEq, false_and, and_false, exists_false, false_or, or_false, Int.reduceLT, Int.reduceLE, List.length_cons, List.length_nil, Nat.reduceAdd, implies_true, exists_const, hW, g1, g2, g3, g4, g5, h1, h2, h3, h4, h5, h6, h7, h8, hb0]

    refine ite2 (fun _ => ?_) (fun _ => ?_)
    · exact q _ _ _ _ (Int.emod_nonneg _ (by omega)) (Int.emod_lt_of_pos _ hb0) (Int.ediv_nonneg ho (by omega)) hc0 hc1 hn0 (by omega)
    · exact q _ _ _ _ (Int.emod_nonneg _ (by omega)) (Int.emod_lt_of_pos _ hb0) ho hc0 hc1 (by omega) (by omega)
end
theorem for_enumL {K : PySem.W.Frag} {a : Addr} {xs : List V} {g : TG} {tb : TS} {D : Ends} {σ : L2.St} {H : Hp} (Pv : Nat → L2.St → Hp → Prop) (h0 : Pv 0 σ H) (hl : ∀ i σ H, i ≤ xs.length → Pv i σ H → SqL K H a xs)
    (hs : ∀ i x σ H T, xs[i]? = some x → Pv i σ H → H T = none → g (.ref T) σ (upd H T (.tup [.int (i : Nat), x])) fun σ2 H2 => tb { D with nx := Pv (i + 1), ct := Pv (i + 1), bk := D.nx } σ2 H2) (hd : ∀ σ H, Pv xs.length σ H → D.nx σ H) :
    tFor (fun _ H0 R => R (Ite K a) H0) g tb D σ H := by
  refine ⟨fun i m σ H => m = xs.length - i ∧ i ≤ xs.length ∧ Pv i σ H, ⟨xs.length, by simp, Nat.zero_le _, h0⟩, ?_⟩
  rintro i m σ H ⟨rfl, hi, p⟩
  have q := hl i σ H hi p
  by_cases hlt : i < xs.length
  · refine .inr ⟨⟨xs, xs[i], q, List.getElem?_eq_getElem hlt⟩, Pv (i + 1), fun σ1 H1 p1 => ⟨xs.length - (i + 1), by omega, rfl, hlt, p1⟩, fun x H1 y => ?_⟩
    obtain ⟨T, z, rfl, nT, rfl, f⟩ := y
    exact hs i z σ H T (f xs q) p nT
  · have e : i = xs.length := by omega
    subst e
    exact .inl ⟨⟨xs, q, Nat.le_refl _⟩, hd σ H p⟩
mutual
theorem Dr.mono {H H1 : Hp} (s : Same H H1) : ∀ {v : V} {d : PyData}, Dr H v d → Dr H1 v d
  | _, _, .non => .non
  | _, _, .bl b => .bl b
  | _, _, .int i => .int i
  | _, _, .str x => .str x
  | _, _, .lst h k => .lst (s _ _ h) (DrAll.mono s k)
  | _, _, .tup h k => .tup (s _ _ h) (DrAll.mono s k)
  | _, _, .dct h => .dct (s _ _ h)
theorem DrAll.mono {H H1 : Hp} (s : Same H H1) : ∀ {v : List V} {d : List PyData}, DrAll H v d → DrAll H1 v d
  | _, _, .nil => .nil
  | _, _, .cons h k => .cons (Dr.mono s h) (DrAll.mono s k)
end
/-- what repr takes -/
def Item (H : Hp) (x : V) : Prop := ∃ d : PyData, Dr H x d ∧ d.showable = true ∧ d.depth ≤ 40 ∧ ((∀ i, d ≠ .int i) → d.shown.length ≤ sizeLine) ∧ (d.hasDict = true → d = .dict [])
theorem Item.mono {H H1 : Hp} {x : V} (h : Item H x) (s : Same H H1) : Item H1 x := by
  obtain ⟨d, h1, h2⟩ := h
  exact ⟨d, h1.mono s, h2⟩

theorem log2_small {d : Int} (h0 : 0 ≤ d) (h1 : d < 1000000000) : d.natAbs.log2 < 1920 := by
  rcases Nat.eq_zero_or_pos d.natAbs with z | z
  · rw [z]
    decide
  · have h : d.natAbs < 2 ^ 1920 := Nat.lt_of_lt_of_le (show d.natAbs < 2 ^ 30 by omega) (Nat.pow_le_pow_right (by decide) (by decide))
    exact (Nat.log2_lt (by omega)).mpr h
theorem dpAll_bools {K : PySem.W.Frag} {H : Hp} : ∀ bs : List Bool, DpAll K H (bs.map V.bl) (bs.map PyData.bool)
  | [] => .nil
  | b :: bs => .cons (.bl b) (dpAll_bools bs)
def kb (i : Nat) : List Bool := (List.range 15).map fun j => decide (i = j) || decide (j = 15)
theorem kindsOf_kb (i : Nat) : kindsOf i = (kb i).map V.bl := rfl
theorem kinds_at {i : Nat} (hi : i < 15) : ((List.range 15).map fun j => V.bl (decide (V.int ((i : Nat) : Int) = V.int (0 + ((j : Nat) : Int))))) = kindsOf i := by
  refine List.map_congr_left fun j hj => ?_
  have hj2 : j < 15 := List.mem_range.mp hj
  congr 1
  by_cases e : i = j
  · subst e
    simp
  · have e1 : ¬ (V.int (i : Int) = V.int (0 + (j : Int))) := fun z => e (by have := V.int.inj z; omega)
    rw [decide_eq_false e1, decide_eq_false e, decide_eq_false (by omega : ¬ j = 15)]
    rfl
theorem eqv_kb (i : Nat) : PyData.eqv (.list ((kb i).map PyData.bool)) (.list ((kb i).map PyData.bool)) = true := SeqAt.eqv_refl _ (by rfl)
abbrev sLaw : Stmt := topS 22
theorem scLaw : FnScope ["_law_script", "_law_k", "_law_well_here", "_law_item", "_law_at", "_law_error", "_law_value", "_law_other"] ["_law_script"] (defScope sLaw) := ⟨rfl, rfl, rfl, by decide +kernel, rfl, by decide +kernel, by decide +kernel⟩
def spLaw (K : PySem.W.Frag) : Sp := fun vs H Q _ => ∃ (a : Addr) (ns : List Int), vs = [.ref a] ∧ SqL K H a (ns.map V.int) ∧ ns.length ≤ 63 ∧ ∀ H1, Q (.bl true) H1
section
variable {P : Program} {w : World} {K : PySem.W.Frag} {mg : Str → Option Value} {base : Heap} {cl : Nat → Addr}
theorem ok_law {fa fK fM fD fW : Addr} {fd dK dM dD dW : FuncData} (F : Fun K "law" "law" sLaw fa fd) (T : Errs P w K mg base cl) (FK : Fun K "_law_kinds" "_law_kinds" sKinds fK dK) (FM : Fun K "_law_made" "_law_made" sMade fM dM) (FD : Fun K "_law_draw" "_law_draw" sDraw fD dD) (FW : Fun K "_law_well" "_law_well" sWell fW dW)
    (bK : Binds K dK ["_law_error"] []) (bM : Binds K dM ["_law_item"] []) (bD : Binds K dD ["_law_well_here", "_law_below"] []) (bW : Binds K dW ["_law_script", "_law_k"] [])
    (gK : mg "_law_kinds" = some (.ref fK)) (gM : mg "_law_made" = some (.ref fM)) (gD : mg "_law_draw" = some (.ref fD)) (gW : mg "_law_well" = some (.ref fW))
    (mI : mg "isinstance" = none) (mL : mg "len" = none) (mA : mg "abs" = none) (mT : mg "int" = none) (mR : mg "range" = none) (mX : mg "max" = none) (mN : mg "min" = none) (mE : mg "enumerate" = none) (mP : mg "repr" = none) (mV : mg "ValueError" = none) :
    FnG P w K mg base CX0 4 fa fd ["_law_script"] (spLaw K) := by
  have GK : FnOk P w K mg base CX0 1 fK dK ["_law_error"] (spKinds cl) := ok_kinds FK T mI
  have GM : FnOk P w K mg base CX0 3 fM dM ["_law_item"] (spMade cl) := ok_made (k := 0) FM T
  have GD : FnOk P w K mg base CX0 1 fD dD ["_law_well_here", "_law_below"] spDraw := ok_draw FD
  have GW : FnOk P w K mg base CX0 1 fW dW ["_law_script", "_law_k"] (spWell K) := ok_well FW mL mA mT
  refine FnG.of F scLaw (fun vs H Q E h => ?_) (fun cdv A hG0 outer s H vs Q E hr h => ?_)
  · obtain ⟨a, ns, rfl, _⟩ := h
    rfl
  · obtain ⟨a, ns, rfl, hS, hlen, q⟩ := h
    have hr3 : Room 3 (A.deeper (envOfC "law" (defScope sLaw) s.heap.objs.size fa cdv)) := hr
    have hr1 : Room 1 (A.deeper (envOfC "law" (defScope sLaw) s.heap.objs.size fa cdv)) := hr.mono (by decide)
    have hG : (A.deeper (envOfC "law" (defScope sLaw) s.heap.objs.size fa cdv)).guards = some [] := hG0
    refine ⟨_, (pss_cons (ps_if (pt_cmpR op_in_seq pe_bl (pe_call GK hr1 (by rfl) gK FK.kp bK .nil pass0 (pa_cons (pe_err0 PySem.F.excBase_ValueError T.x15 T.gL T.k15 (by rfl)) pa_nil)) (by rfl)) (pss_one (ps_ret pe_bl)) pss_nil)
      (pss_cons (ps_for PassesOwn.never rfl (pi_range1 rfl mR (pa_cons (pe_callB (call_max2 rfl) (by rfl) mX (by decide +kernel) (pa_cons pe_int (pa_cons (pe_callB (call_min2 rfl) (by rfl) mN (by decide +kernel) (pa_cons pe_int (pa_cons (pe_callB call_len_seq (by rfl) mL PySem.boot_len (pa_cons (pv 0) pa_nil)) pa_nil))) pa_nil))) pa_nil)) (pg_name (i := 1) scLaw.nd rfl (.inl rfl)) (pss_cons (ps_set (i := 2) scLaw.nd rfl (.inl rfl) (pe_call GW hr1 (by rfl) gW FW.kp bW .nil pass0 (pa_cons (pv 0) (pa_cons (pv 1) pa_nil))))
      (pss_one (ps_for PassesOwn.never rfl (pi_list (pe_lst (pa_cons pe_non (pa_cons pe_bl (pa_cons (pe_call GD hr1 (by rfl) gD FD.kp bD .nil pass0 (pa_cons (pv 2) (pa_cons (pe_op op_pow pe_int pe_int) pa_nil))) (pa_cons pe_int (pa_cons pe_str (pa_cons pe_str (pa_cons (pe_tup pa_nil) (pa_cons (pe_tup (pa_cons pe_str (pa_cons pe_str pa_nil))) (pa_cons (pe_lst pa_nil) (pa_cons (pe_tup (pa_cons (pe_tup pa_nil) (pa_cons (pe_tup (pa_cons pe_str pa_nil)) pa_nil))) (pa_cons pe_dnewK pa_nil))))))))))))) (pg_name (i := 3) scLaw.nd rfl (.inl rfl)) (pss_one (ps_for PassesOwn.never rfl (pi_enum rfl mE (pa_cons (pe_call GM hr3 (by rfl) gM FM.kp bM .nil pass0 (pa_cons (pv 3) pa_nil)) pa_nil)) (pg_tup rfl (pgs_cons (pg_name (i := 4) scLaw.nd rfl (.inr rfl)) (pgs_cons (pg_tup rfl (pgs_cons (pg_name (i := 5) scLaw.nd rfl (.inl rfl)) (pgs_cons (pg_name (i := 6) scLaw.nd rfl (.inl rfl)) pgs_nil))) pgs_nil))) (pss_cons (ps_if (PW.pt (pw_or (pt_cmpR (op_neD hr.units) (pe_call GK hr1 (by rfl) gK FK.kp bK .nil pass0 (pa_cons (pv 5) pa_nil)) (pe_lc (own := [("_law_other", 7)]) (g := gName 7) (tt := tYes) rfl scLaw.nd (pi_range1 rfl mR (pa_cons pe_int pa_nil)) (blkOk_by (N := ["_law_script", "_law_k", "_law_well_here", "_law_item", "_law_at", "_law_error", "_law_value", "_law_other"]) (sc := defScope sLaw) (by decide +kernel)) (fun _ _ _ _ _ => pg_name (i := 7) scLaw.nd rfl (.inl rfl)) (fun _ _ _ _ _ => pts_nil) (fun _ _ _ _ _ => pe_cmpR op_eq (pv 4) (pv 7) (nomark _))) (nomark _)) (pw_or1 (pt_cmpR op_ne (pe_callB (call_reprD hG hr.units) (by rfl) mP (by decide +kernel) (pa_cons (pv 6) pa_nil)) (pe_callB (call_reprD hG hr.units) (by rfl) mP (by decide +kernel) (pa_cons (pv 3) pa_nil)) (nomark _))))) (pss_one (ps_ret pe_bl)) pss_nil)
      (pss_one (ps_if (PW.pt (pw_or (pt_not (pt_val (pe_callB call_isErr (by rfl) mI (by decide +kernel) (pa_cons (pv 5) (pa_cons (pe_glob (v := .ref (cl 15)) (by rfl) T.gL rfl) pa_nil))))) (pw_or1 (pt_not (pt_val (pe_callB call_isErr (by rfl) mI (by decide +kernel) (pa_cons (pv 5) (pa_cons (pe_bltn (v := .ty "ValueError") (by rfl) mV (by decide +kernel) rfl) pa_nil)))))))) (pss_one (ps_ret pe_bl)) pss_nil)))))))))
      (pss_one (ps_ret pe_bl)))), ?_⟩
    rw [show L2.start ["_law_script", "_law_k", "_law_well_here", "_law_item", "_law_at", "_law_error", "_law_value", "_law_other"] [V.ref a] = [some (V.ref a), none, none, none, none, none, none, none] from rfl]
    refine fun e0 ne0 => ⟨e0, 15, rfl, ⟨none, upd_same, fun _ z => (nomatch z)⟩, by decide, fun p0 H0 s0 np0 hp0 => ?_⟩
    refine ⟨p0, kindsOf 15, rfl, .inl (SqL.of hp0), rfl, by decide, false, by decide, ?_⟩
    refine iteF ?_
    have hS0 : SqL K H0 a (ns.map V.int) := ((same_upd ne0).trans s0).seq hS
    refine ⟨.ref a, rfl, a, ns.map V.int, rfl, .inl hS0, _, _, rfl, _, _, rfl, _, rfl, ?_⟩
    rw [List.length_map]
    have hk : ∃ kk : Nat, kk ≤ 3 ∧ (if (if (ns.length : Int) < 3 then (ns.length : Int) else 3) > 1 then (if (ns.length : Int) < 3 then (ns.length : Int) else 3) else 1) = (kk : Int) := by
      refine ⟨Int.toNat (if (if (ns.length : Int) < 3 then (ns.length : Int) else 3) > 1 then (if (ns.length : Int) < 3 then (ns.length : Int) else 3) else 1), ?_, ?_⟩
      · split
        · split <;> omega
        · omega
      · split
        · split <;> omega
        · rfl
    obtain ⟨kk, hk3, hke⟩ := hk
    rw [hke]
    refine ⟨by omega, by omega, ?_⟩
    rw [Int.toNat_natCast]
    refine for_range (lo := 0) (n := kk) (fun i σ H1 => ∃ y1 y2 y3 y4 y5 y6 y7, σ = [some (V.ref a), y1, y2, y3, y4, y5, y6, y7] ∧ SqL K H1 a (ns.map V.int)) ⟨none, none, none, none, none, none, none, rfl, hS0⟩ (fun i σ H1 hi z => ?_) (fun σ H1 z => q _)
    obtain ⟨y1, y2, y3, y4, y5, y6, y7, rfl, hS1⟩ := z
    -- the well, the items
    refine ⟨.ref a, rfl, .int (0 + (i : Int)), rfl, a, ns, 0 + (i : Int), rfl, hS1, by omega, by omega, fun pw o b npw ho hb hb2 => ?_⟩
    refine ⟨.ref pw, rfl, 10, 9, rfl, rfl, ⟨by decide, by decide, by decide⟩, pw, _, 0, rfl, ⟨o, b, 0, upd_same, ho, hb, hb2, by decide, by decide⟩, by decide, by decide, by decide, fun d o1 b1 n1 hd0 hd1 _ _ _ _ _ => ?_⟩
    rw [upd_upd]
    have sW : Same H1 (upd H1 pw (.lst [.int o1, .int b1, .int n1])) := same_upd npw
    generalize upd H1 pw (.lst [.int o1, .int b1, .int n1]) = W at sW ⊢
    refine ⟨Nat.zero_le _, fun t0 nt0 => ?_⟩
    refine ⟨by show 2 ≤ sizeLine; decide, fun t1 nt1 => ?_⟩
    refine ⟨Nat.zero_le _, fun l0 nl0 => ?_⟩
    refine ⟨Nat.zero_le _, fun t2 nt2 => ?_⟩
    refine ⟨by show 1 ≤ sizeLine; decide, fun t3 nt3 => ?_⟩
    refine ⟨by show 2 ≤ sizeLine; decide, fun t4 nt4 => ?_⟩
    refine fun d0 nd0 => ?_
    refine ⟨by show 11 ≤ sizeLine; decide, fun pl npl => ?_⟩
    refine ⟨pl, rfl, ⟨_, SqL.of upd_same⟩, ?_⟩
    have i6 : Item (upd (upd (upd (upd (upd (upd (upd W t0 (.tup [])) t1 (.tup [.str "a", .str "b"])) l0 (.lst [])) t2 (.tup [])) t3 (.tup [.str "a"])) t4 (.tup [.ref t2, .ref t3])) d0 (.dK [])) (V.ref t0) := ⟨.tuple [], .tup (((((((same_upd nt1).trans (same_upd nl0)).trans (same_upd nt2)).trans (same_upd nt3)).trans (same_upd nt4)).trans (same_upd nd0)) _ _ upd_same) .nil, rfl, by decide, fun _ => by decide +kernel, fun z => by cases z⟩
    have i7 : Item (upd (upd (upd (upd (upd (upd (upd W t0 (.tup [])) t1 (.tup [.str "a", .str "b"])) l0 (.lst [])) t2 (.tup [])) t3 (.tup [.str "a"])) t4 (.tup [.ref t2, .ref t3])) d0 (.dK [])) (V.ref t1) := ⟨.tuple [.str "a", .str "b"], .tup ((((((same_upd nl0).trans (same_upd nt2)).trans (same_upd nt3)).trans (same_upd nt4)).trans (same_upd nd0)) _ _ upd_same) (.cons (.str _) (.cons (.str _) .nil)), rfl, by decide, fun _ => by decide +kernel, fun z => by cases z⟩
    have i8 : Item (upd (upd (upd (upd (upd (upd (upd W t0 (.tup [])) t1 (.tup [.str "a", .str "b"])) l0 (.lst [])) t2 (.tup [])) t3 (.tup [.str "a"])) t4 (.tup [.ref t2, .ref t3])) d0 (.dK [])) (V.ref l0) := ⟨.list [], .lst (((((same_upd nt2).trans (same_upd nt3)).trans (same_upd nt4)).trans (same_upd nd0)) _ _ upd_same) .nil, rfl, by decide, fun _ => by decide +kernel, fun z => by cases z⟩
    have i9 : Item (upd (upd (upd (upd (upd (upd (upd W t0 (.tup [])) t1 (.tup [.str "a", .str "b"])) l0 (.lst [])) t2 (.tup [])) t3 (.tup [.str "a"])) t4 (.tup [.ref t2, .ref t3])) d0 (.dK [])) (V.ref t4) := ⟨.tuple [.tuple [], .tuple [.str "a"]], .tup ((same_upd nd0) _ _ upd_same) (.cons (.tup ((((same_upd nt3).trans (same_upd nt4)).trans (same_upd nd0)) _ _ upd_same) .nil) (.cons (.tup (((same_upd nt4).trans (same_upd nd0)) _ _ upd_same) (.cons (.str _) .nil)) .nil)), rfl, by decide, fun _ => by decide +kernel, fun z => by cases z⟩
    have i10 : Item (upd (upd (upd (upd (upd (upd (upd W t0 (.tup [])) t1 (.tup [.str "a", .str "b"])) l0 (.lst [])) t2 (.tup [])) t3 (.tup [.str "a"])) t4 (.tup [.ref t2, .ref t3])) d0 (.dK [])) (V.ref d0) := ⟨.dict [], .dct ((Same.refl _) _ _ upd_same), rfl, by decide, fun _ => by decide +kernel, fun z => rfl⟩
    have sB : Same W (upd (upd (upd (upd (upd (upd (upd W t0 (.tup [])) t1 (.tup [.str "a", .str "b"])) l0 (.lst [])) t2 (.tup [])) t3 (.tup [.str "a"])) t4 (.tup [.ref t2, .ref t3])) d0 (.dK [])) := (same_upd nt0).trans ((((((same_upd nt1).trans (same_upd nl0)).trans (same_upd nt2)).trans (same_upd nt3)).trans (same_upd nt4)).trans (same_upd nd0))
    generalize (upd (upd (upd (upd (upd (upd (upd W t0 (.tup [])) t1 (.tup [.str "a", .str "b"])) l0 (.lst [])) t2 (.tup [])) t3 (.tup [.str "a"])) t4 (.tup [.ref t2, .ref t3])) d0 (.dK [])) = B at i6 i7 i8 i9 i10 sB npl ⊢
    have hd9 : d < 1000000000 := hd1
    have i2 : Item B (V.int d) := ⟨.int d, .int d, decide_eq_true (log2_small hd0 hd9), by simp [PyData.depth], fun z => absurd rfl (z d), fun z => by cases z⟩
    have hIt : ∀ x ∈ [V.non, .bl true, .int d, .int 0, .str "", .str "abc", .ref t0, .ref t1, .ref l0, .ref t4, .ref d0], Item (upd B pl (.lst [.non, .bl true, .int d, .int 0, .str "", .str "abc", .ref t0, .ref t1, .ref l0, .ref t4, .ref d0])) x := by
      intro x hx
      refine Item.mono ?_ (same_upd npl)
      simp only [List.mem_cons, List.not_mem_nil, or_false] at hx
      rcases hx with rfl | rfl | rfl | rfl | rfl | rfl | rfl | rfl | rfl | rfl | rfl
      · exact ⟨.none, .non, rfl, by decide, fun _ => by decide +kernel, fun z => by cases z⟩
      · exact ⟨.bool true, .bl true, rfl, by decide, fun _ => by decide +kernel, fun z => by cases z⟩
      · exact i2
      · exact ⟨.int 0, .int 0, by decide, by decide, fun z => absurd rfl (z 0), fun z => by cases z⟩
      · exact ⟨.str "", .str "", rfl, by decide, fun _ => by decide +kernel, fun z => by cases z⟩
      · exact ⟨.str "abc", .str "abc", rfl, by decide, fun _ => by decide +kernel, fun z => by cases z⟩
      · exact i6
      · exact i7
      · exact i8
      · exact i9
      · exact i10
    have sL : Same H1 (upd B pl (.lst [.non, .bl true, .int d, .int 0, .str "", .str "abc", .ref t0, .ref t1, .ref l0, .ref t4, .ref d0])) := (sW.trans sB).trans (same_upd npl)
    have hpl : (upd B pl (.lst [.non, .bl true, .int d, .int 0, .str "", .str "abc", .ref t0, .ref t1, .ref l0, .ref t4, .ref d0])) pl = some (.lst [.non, .bl true, .int d, .int 0, .str "", .str "abc", .ref t0, .ref t1, .ref l0, .ref t4, .ref d0]) := upd_same
    generalize [V.non, .bl true, .int d, .int 0, .str "", .str "abc", .ref t0, .ref t1, .ref l0, .ref t4, .ref d0] = xs at hIt sL hpl ⊢
    generalize upd B pl (.lst xs) = HL at hIt sL hpl ⊢
    refine for_list (K := K) (a := pl) (xs := xs) (fun i2 σ H2 => ∃ z3 z4 z5 z6 z7, σ = [some (V.ref a), some (.int (0 + (i : Int))), some (.ref pw), z3, z4, z5, z6, z7] ∧ Same HL H2) ⟨y3, y4, y5, y6, y7, rfl, Same.refl _⟩ (fun i2 σ H2 _ z => ?_) (fun i2 x σ H2 hx z => ?_) (fun σ H2 z => ?_)
    · obtain ⟨z3, z4, z5, z6, z7, rfl, s2⟩ := z
      exact SqL.of (s2 _ _ hpl)
    · obtain ⟨z3, z4, z5, z6, z7, rfl, s2⟩ := z
      have hx2 : Item H2 x := (hIt x (List.mem_of_getElem? hx)).mono s2
      -- the errors made of x
      refine ⟨x, rfl, x, rfl, fun p H4 L s4 np hF hL => ⟨p, _, rfl, SqL.of hF.1, ?_⟩⟩
      refine for_enumL (K := K) (a := p) (xs := L.map fun m => V.ref m.1) (fun j σ H5 => ∃ w4 w5 w6 w7, σ = [some (V.ref a), some (.int (0 + (i : Int))), some (.ref pw), some x, w4, w5, w6, w7] ∧ Same H4 H5) ⟨z4, z5, z6, z7, rfl, Same.refl _⟩ (fun j σ H5 _ z => ?_) (fun j v σ H5 t hv z nt => ?_) (fun σ H5 z => ?_)
      · obtain ⟨w4, w5, w6, w7, rfl, s5⟩ := z
        exact SqL.of (s5 _ _ hF.1)
      · obtain ⟨w4, w5, w6, w7, rfl, s5⟩ := z
        rw [List.getElem?_map] at hv
        obtain ⟨m, hm, rfl⟩ := Option.map_eq_some_iff.mp hv
        have hj : j < 15 := by
          have := (List.getElem?_eq_some_iff.mp hm).1
          omega
        have s6 := s5.trans (same_upd (o := .tup [.int (j : Nat), .ref m.1]) nt)
        have hm1 := s6 _ _ (hF.2 j m hm).1
        have hmE := (hF.2 j m hm).2.mono s6
        have hx6 := hx2.mono (s4.trans s6)
        refine ⟨t, [.int (j : Nat), .ref m.1], rfl, SqT.of upd_same, rfl, .int (j : Nat), [.ref m.1], rfl, .ref m.1, [], rfl, m.1, [.ref m.2, x], rfl, SqT.of hm1, rfl, .ref m.2, [x], rfl, x, [], rfl, rfl, rfl, ?_⟩
        generalize upd H5 t (.tup [.int (j : Nat), .ref m.1]) = H6 at s6 hm1 hmE hx6 ⊢
        -- the kinds
        refine ⟨.ref m.2, rfl, m.2, j, rfl, hmE, by omega, fun pk H7 s7 npk hpk => ?_⟩
        refine ⟨15, rfl, by decide, by decide, fun D nD => lc_range (lo := 0) (n := 15) (fun c H8 => H8 D = some (.lst ((List.range c).map fun c => V.bl (decide (V.int ((j : Nat) : Int) = V.int (0 + ((c : Nat) : Int)))))) ∧ Sab D H7 H8) ⟨upd_same, fun b o hb e => by rw [upd_ne hb]; exact e⟩ (fun c H8 hc z => ?_) (fun H8 z => ?_)⟩
        · obtain ⟨hD, sb⟩ := z
          refine ⟨rfl, ?_⟩
          simp only [tYes, ↓reduceIte]
          refine ⟨.int (j : Nat), rfl, .int (0 + (c : Int)), rfl, rfl, _, hD, ?_, ?_, sb.upd⟩
          · rw [List.length_map, List.length_range]
            exact Nat.lt_trans hc (by decide)
          · rw [upd_same, List.range_succ, List.map_append]
            rfl
        · obtain ⟨hD, sb⟩ := z
          have hD2 : H8 D = some (.lst ((kb j).map V.bl)) := by
            rw [← kindsOf_kb, ← kinds_at hj]
            exact hD
          have s8 : Same H7 H8 := fun b o e => sb b o (ne_of_none e nD) e
          have hx8 := hx6.mono (s7.trans s8)
          have hmE8 := hmE.mono (s7.trans s8)
          refine ⟨.list ((kb j).map PyData.bool), .list ((kb j).map PyData.bool), .lst (SqL.of (s8 _ _ hpk)) (dpAll_bools (kb j)), .lst (SqL.of hD2) (dpAll_bools _), rfl, rfl, false, by rw [eqv_kb]; rfl, ?_⟩
          refine iteF ?_
          obtain ⟨dx, e1, e2, e3, e4, e5⟩ := hx8
          refine ⟨x, rfl, x, dx, rfl, e1, e2, e3, e4, e5, x, rfl, x, dx, rfl, e1, e2, e3, e4, e5, rfl, false, by simp, ?_⟩
          refine iteF ?_
          refine ⟨.ref m.2, rfl, ?_⟩
          simp only [tCons, tC, tNil]
          refine isE_use T hmE8 (by omega) (by decide) ⟨true, by simp, ?_⟩
          refine iteF ?_
          refine ⟨.ref m.2, rfl, ?_⟩
          simp only [tCons, tC, tNil]
          refine isE_useV T hmE8 (by omega) ⟨true, rfl, ?_⟩
          refine iteF ?_
          exact ⟨_, _, _, _, rfl, s6.trans (s7.trans s8)⟩
      · obtain ⟨w4, w5, w6, w7, rfl, s5⟩ := z
        exact ⟨_, _, _, _, _, rfl, s2.trans (s4.trans s5)⟩
    · obtain ⟨z3, z4, z5, z6, z7, rfl, s2⟩ := z
      exact ⟨_, _, _, _, _, _, _, rfl, (sL.trans s2).seq hS1⟩
end
end LK
namespace LK
open PySem PySem.Spec PyProof.Rows L2
theorem all_mk {l : PySem.W.OpenLaw} {w : World} {K : PySem.W.Frag} {h : Heap} {mg : Str → Option Value} {fa C0 C1 C2 C3 C4 C5 C6 C7 C8 C9 C10 C11 C12 C13 C14 C15 f0 f1 f2 f3 f4 f5 f6 f7 f8 f9 f10 f11 fWell fDraw fKinds fMade fLaw : Addr} (X : K.In h) (G : h.Ns mainGlobals mg) (hfa : mg "law" = some (.ref fa))
    (a0 : PySem.W.nsIn K mainGlobals "InvalidLibrary" = some (some (.ref C0)))
    (a1 : PySem.W.nsIn K mainGlobals "InvalidMember" = some (some (.ref C1)))
    (a2 : PySem.W.nsIn K mainGlobals "InvalidName" = some (some (.ref C2)))
    (a3 : PySem.W.nsIn K mainGlobals "UnknownName" = some (some (.ref C3)))
    (a4 : PySem.W.nsIn K mainGlobals "InvalidProgram" = some (some (.ref C4)))
    (a5 : PySem.W.nsIn K mainGlobals "InvalidPrograms" = some (some (.ref C5)))
    (a6 : PySem.W.nsIn K mainGlobals "InvalidLine" = some (some (.ref C6)))
    (a7 : PySem.W.nsIn K mainGlobals "InvalidChain" = some (some (.ref C7)))
    (a8 : PySem.W.nsIn K mainGlobals "InvalidNumber" = some (some (.ref C8)))
    (a9 : PySem.W.nsIn K mainGlobals "DoesNotServe" = some (some (.ref C9)))
    (a10 : PySem.W.nsIn K mainGlobals "ParseError" = some (some (.ref C10)))
    (a11 : PySem.W.nsIn K mainGlobals "CommandError" = some (some (.ref C11)))
    (a12 : PySem.W.nsIn K mainGlobals "TooManyChains" = some (some (.ref C12)))
    (a13 : PySem.W.nsIn K mainGlobals "TooManyStates" = some (some (.ref C13)))
    (a14 : PySem.W.nsIn K mainGlobals "NothingToUndo" = some (some (.ref C14)))
    (a15 : PySem.W.nsIn K mainGlobals "LinkError" = some (some (.ref C15)))
    (x0 : ExcC K C0)
    (y0 : PySem.W.kitOne K (.ref C0) (.ref C0) = some true ∧ PySem.W.kitOne K (.ref C0) (.ref C1) = some false ∧ PySem.W.kitOne K (.ref C0) (.ref C2) = some false ∧ PySem.W.kitOne K (.ref C0) (.ref C3) = some false ∧ PySem.W.kitOne K (.ref C0) (.ref C4) = some false ∧ PySem.W.kitOne K (.ref C0) (.ref C5) = some false ∧ PySem.W.kitOne K (.ref C0) (.ref C6) = some false ∧ PySem.W.kitOne K (.ref C0) (.ref C7) = some false ∧ PySem.W.kitOne K (.ref C0) (.ref C8) = some false ∧ PySem.W.kitOne K (.ref C0) (.ref C9) = some false ∧ PySem.W.kitOne K (.ref C0) (.ref C10) = some false ∧ PySem.W.kitOne K (.ref C0) (.ref C11) = some false ∧ PySem.W.kitOne K (.ref C0) (.ref C12) = some false ∧ PySem.W.kitOne K (.ref C0) (.ref C13) = some false ∧ PySem.W.kitOne K (.ref C0) (.ref C14) = some false ∧ PySem.W.kitOne K (.ref C0) (.ref C15) = some true)
    (z0 : PySem.W.kitOne K (.ref C0) (.type "ValueError") = some true)
    (o0 : OexC K C0)
    (e0 : ErrF K C0 "value")
    (i0 : PySem.W.findIn K (.ref C0) "__init__" = some (some (.ref f0)))
    (t0 : PySem.W.typeIn K (.ref f0) = some (.type "function"))
    (F0 : ∃ fd, Fun K "__init__" "InvalidLibrary.__init__" sI0 f0 fd)
    (x1 : ExcC K C1)
    (y1 : PySem.W.kitOne K (.ref C1) (.ref C0) = some false ∧ PySem.W.kitOne K (.ref C1) (.ref C1) = some true ∧ PySem.W.kitOne K (.ref C1) (.ref C2) = some false ∧ PySem.W.kitOne K (.ref C1) (.ref C3) = some false ∧ PySem.W.kitOne K (.ref C1) (.ref C4) = some false ∧ PySem.W.kitOne K (.ref C1) (.ref C5) = some false ∧ PySem.W.kitOne K (.ref C1) (.ref C6) = some false ∧ PySem.W.kitOne K (.ref C1) (.ref C7) = some false ∧ PySem.W.kitOne K (.ref C1) (.ref C8) = some false ∧ PySem.W.kitOne K (.ref C1) (.ref C9) = some false ∧ PySem.W.kitOne K (.ref C1) (.ref C10) = some false ∧ PySem.W.kitOne K (.ref C1) (.ref C11) = some false ∧ PySem.W.kitOne K (.ref C1) (.ref C12) = some false ∧ PySem.W.kitOne K (.ref C1) (.ref C13) = some false ∧ PySem.W.kitOne K (.ref C1) (.ref C14) = some false ∧ PySem.W.kitOne K (.ref C1) (.ref C15) = some true)
    (z1 : PySem.W.kitOne K (.ref C1) (.type "ValueError") = some true)
    (o1 : OexC K C1)
    (e1 : ErrF K C1 "value")
    (i1 : PySem.W.findIn K (.ref C1) "__init__" = some (some (.ref f1)))
    (t1 : PySem.W.typeIn K (.ref f1) = some (.type "function"))
    (F1 : ∃ fd, Fun K "__init__" "InvalidMember.__init__" sI1 f1 fd)
    (x2 : ExcC K C2)
    (y2 : PySem.W.kitOne K (.ref C2) (.ref C0) = some false ∧ PySem.W.kitOne K (.ref C2) (.ref C1) = some false ∧ PySem.W.kitOne K (.ref C2) (.ref C2) = some true ∧ PySem.W.kitOne K (.ref C2) (.ref C3) = some false ∧ PySem.W.kitOne K (.ref C2) (.ref C4) = some false ∧ PySem.W.kitOne K (.ref C2) (.ref C5) = some false ∧ PySem.W.kitOne K (.ref C2) (.ref C6) = some false ∧ PySem.W.kitOne K (.ref C2) (.ref C7) = some false ∧ PySem.W.kitOne K (.ref C2) (.ref C8) = some false ∧ PySem.W.kitOne K (.ref C2) (.ref C9) = some false ∧ PySem.W.kitOne K (.ref C2) (.ref C10) = some false ∧ PySem.W.kitOne K (.ref C2) (.ref C11) = some false ∧ PySem.W.kitOne K (.ref C2) (.ref C12) = some false ∧ PySem.W.kitOne K (.ref C2) (.ref C13) = some false ∧ PySem.W.kitOne K (.ref C2) (.ref C14) = some false ∧ PySem.W.kitOne K (.ref C2) (.ref C15) = some true)
    (z2 : PySem.W.kitOne K (.ref C2) (.type "ValueError") = some true)
    (o2 : OexC K C2)
    (e2 : ErrF K C2 "value")
    (i2 : PySem.W.findIn K (.ref C2) "__init__" = some (some (.ref f2)))
    (t2 : PySem.W.typeIn K (.ref f2) = some (.type "function"))
    (F2 : ∃ fd, Fun K "__init__" "InvalidName.__init__" sI2 f2 fd)
    (x3 : ExcC K C3)
    (y3 : PySem.W.kitOne K (.ref C3) (.ref C0) = some false ∧ PySem.W.kitOne K (.ref C3) (.ref C1) = some false ∧ PySem.W.kitOne K (.ref C3) (.ref C2) = some false ∧ PySem.W.kitOne K (.ref C3) (.ref C3) = some true ∧ PySem.W.kitOne K (.ref C3) (.ref C4) = some false ∧ PySem.W.kitOne K (.ref C3) (.ref C5) = some false ∧ PySem.W.kitOne K (.ref C3) (.ref C6) = some false ∧ PySem.W.kitOne K (.ref C3) (.ref C7) = some false ∧ PySem.W.kitOne K (.ref C3) (.ref C8) = some false ∧ PySem.W.kitOne K (.ref C3) (.ref C9) = some false ∧ PySem.W.kitOne K (.ref C3) (.ref C10) = some false ∧ PySem.W.kitOne K (.ref C3) (.ref C11) = some false ∧ PySem.W.kitOne K (.ref C3) (.ref C12) = some false ∧ PySem.W.kitOne K (.ref C3) (.ref C13) = some false ∧ PySem.W.kitOne K (.ref C3) (.ref C14) = some false ∧ PySem.W.kitOne K (.ref C3) (.ref C15) = some true)
    (z3 : PySem.W.kitOne K (.ref C3) (.type "ValueError") = some true)
    (o3 : OexC K C3)
    (e3 : ErrF K C3 "value")
    (i3 : PySem.W.findIn K (.ref C3) "__init__" = some (some (.ref f3)))
    (t3 : PySem.W.typeIn K (.ref f3) = some (.type "function"))
    (F3 : ∃ fd, Fun K "__init__" "UnknownName.__init__" sI3 f3 fd)
    (x4 : ExcC K C4)
    (y4 : PySem.W.kitOne K (.ref C4) (.ref C0) = some false ∧ PySem.W.kitOne K (.ref C4) (.ref C1) = some false ∧ PySem.W.kitOne K (.ref C4) (.ref C2) = some false ∧ PySem.W.kitOne K (.ref C4) (.ref C3) = some false ∧ PySem.W.kitOne K (.ref C4) (.ref C4) = some true ∧ PySem.W.kitOne K (.ref C4) (.ref C5) = some false ∧ PySem.W.kitOne K (.ref C4) (.ref C6) = some false ∧ PySem.W.kitOne K (.ref C4) (.ref C7) = some false ∧ PySem.W.kitOne K (.ref C4) (.ref C8) = some false ∧ PySem.W.kitOne K (.ref C4) (.ref C9) = some false ∧ PySem.W.kitOne K (.ref C4) (.ref C10) = some false ∧ PySem.W.kitOne K (.ref C4) (.ref C11) = some false ∧ PySem.W.kitOne K (.ref C4) (.ref C12) = some false ∧ PySem.W.kitOne K (.ref C4) (.ref C13) = some false ∧ PySem.W.kitOne K (.ref C4) (.ref C14) = some false ∧ PySem.W.kitOne K (.ref C4) (.ref C15) = some true)
    (z4 : PySem.W.kitOne K (.ref C4) (.type "ValueError") = some true)
    (o4 : OexC K C4)
    (e4 : ErrF K C4 "value")
    (i4 : PySem.W.findIn K (.ref C4) "__init__" = some (some (.ref f4)))
    (t4 : PySem.W.typeIn K (.ref f4) = some (.type "function"))
    (F4 : ∃ fd, Fun K "__init__" "InvalidProgram.__init__" sI4 f4 fd)
    (x5 : ExcC K C5)
    (y5 : PySem.W.kitOne K (.ref C5) (.ref C0) = some false ∧ PySem.W.kitOne K (.ref C5) (.ref C1) = some false ∧ PySem.W.kitOne K (.ref C5) (.ref C2) = some false ∧ PySem.W.kitOne K (.ref C5) (.ref C3) = some false ∧ PySem.W.kitOne K (.ref C5) (.ref C4) = some false ∧ PySem.W.kitOne K (.ref C5) (.ref C5) = some true ∧ PySem.W.kitOne K (.ref C5) (.ref C6) = some false ∧ PySem.W.kitOne K (.ref C5) (.ref C7) = some false ∧ PySem.W.kitOne K (.ref C5) (.ref C8) = some false ∧ PySem.W.kitOne K (.ref C5) (.ref C9) = some false ∧ PySem.W.kitOne K (.ref C5) (.ref C10) = some false ∧ PySem.W.kitOne K (.ref C5) (.ref C11) = some false ∧ PySem.W.kitOne K (.ref C5) (.ref C12) = some false ∧ PySem.W.kitOne K (.ref C5) (.ref C13) = some false ∧ PySem.W.kitOne K (.ref C5) (.ref C14) = some false ∧ PySem.W.kitOne K (.ref C5) (.ref C15) = some true)
    (z5 : PySem.W.kitOne K (.ref C5) (.type "ValueError") = some true)
    (o5 : OexC K C5)
    (e5 : ErrF K C5 "value")
    (i5 : PySem.W.findIn K (.ref C5) "__init__" = some (some (.ref f5)))
    (t5 : PySem.W.typeIn K (.ref f5) = some (.type "function"))
    (F5 : ∃ fd, Fun K "__init__" "InvalidPrograms.__init__" sI5 f5 fd)
    (x6 : ExcC K C6)
    (y6 : PySem.W.kitOne K (.ref C6) (.ref C0) = some false ∧ PySem.W.kitOne K (.ref C6) (.ref C1) = some false ∧ PySem.W.kitOne K (.ref C6) (.ref C2) = some false ∧ PySem.W.kitOne K (.ref C6) (.ref C3) = some false ∧ PySem.W.kitOne K (.ref C6) (.ref C4) = some false ∧ PySem.W.kitOne K (.ref C6) (.ref C5) = some false ∧ PySem.W.kitOne K (.ref C6) (.ref C6) = some true ∧ PySem.W.kitOne K (.ref C6) (.ref C7) = some false ∧ PySem.W.kitOne K (.ref C6) (.ref C8) = some false ∧ PySem.W.kitOne K (.ref C6) (.ref C9) = some false ∧ PySem.W.kitOne K (.ref C6) (.ref C10) = some false ∧ PySem.W.kitOne K (.ref C6) (.ref C11) = some false ∧ PySem.W.kitOne K (.ref C6) (.ref C12) = some false ∧ PySem.W.kitOne K (.ref C6) (.ref C13) = some false ∧ PySem.W.kitOne K (.ref C6) (.ref C14) = some false ∧ PySem.W.kitOne K (.ref C6) (.ref C15) = some true)
    (z6 : PySem.W.kitOne K (.ref C6) (.type "ValueError") = some true)
    (o6 : OexC K C6)
    (e6 : ErrF K C6 "value")
    (i6 : PySem.W.findIn K (.ref C6) "__init__" = some (some (.ref f6)))
    (t6 : PySem.W.typeIn K (.ref f6) = some (.type "function"))
    (F6 : ∃ fd, Fun K "__init__" "InvalidLine.__init__" sI6 f6 fd)
    (x7 : ExcC K C7)
    (y7 : PySem.W.kitOne K (.ref C7) (.ref C0) = some false ∧ PySem.W.kitOne K (.ref C7) (.ref C1) = some false ∧ PySem.W.kitOne K (.ref C7) (.ref C2) = some false ∧ PySem.W.kitOne K (.ref C7) (.ref C3) = some false ∧ PySem.W.kitOne K (.ref C7) (.ref C4) = some false ∧ PySem.W.kitOne K (.ref C7) (.ref C5) = some false ∧ PySem.W.kitOne K (.ref C7) (.ref C6) = some false ∧ PySem.W.kitOne K (.ref C7) (.ref C7) = some true ∧ PySem.W.kitOne K (.ref C7) (.ref C8) = some false ∧ PySem.W.kitOne K (.ref C7) (.ref C9) = some false ∧ PySem.W.kitOne K (.ref C7) (.ref C10) = some false ∧ PySem.W.kitOne K (.ref C7) (.ref C11) = some false ∧ PySem.W.kitOne K (.ref C7) (.ref C12) = some false ∧ PySem.W.kitOne K (.ref C7) (.ref C13) = some false ∧ PySem.W.kitOne K (.ref C7) (.ref C14) = some false ∧ PySem.W.kitOne K (.ref C7) (.ref C15) = some true)
    (z7 : PySem.W.kitOne K (.ref C7) (.type "ValueError") = some true)
    (o7 : OexC K C7)
    (e7 : ErrF K C7 "value")
    (i7 : PySem.W.findIn K (.ref C7) "__init__" = some (some (.ref f7)))
    (t7 : PySem.W.typeIn K (.ref f7) = some (.type "function"))
    (F7 : ∃ fd, Fun K "__init__" "InvalidChain.__init__" sI7 f7 fd)
    (x8 : ExcC K C8)
    (y8 : PySem.W.kitOne K (.ref C8) (.ref C0) = some false ∧ PySem.W.kitOne K (.ref C8) (.ref C1) = some false ∧ PySem.W.kitOne K (.ref C8) (.ref C2) = some false ∧ PySem.W.kitOne K (.ref C8) (.ref C3) = some false ∧ PySem.W.kitOne K (.ref C8) (.ref C4) = some false ∧ PySem.W.kitOne K (.ref C8) (.ref C5) = some false ∧ PySem.W.kitOne K (.ref C8) (.ref C6) = some false ∧ PySem.W.kitOne K (.ref C8) (.ref C7) = some false ∧ PySem.W.kitOne K (.ref C8) (.ref C8) = some true ∧ PySem.W.kitOne K (.ref C8) (.ref C9) = some false ∧ PySem.W.kitOne K (.ref C8) (.ref C10) = some false ∧ PySem.W.kitOne K (.ref C8) (.ref C11) = some false ∧ PySem.W.kitOne K (.ref C8) (.ref C12) = some false ∧ PySem.W.kitOne K (.ref C8) (.ref C13) = some false ∧ PySem.W.kitOne K (.ref C8) (.ref C14) = some false ∧ PySem.W.kitOne K (.ref C8) (.ref C15) = some true)
    (z8 : PySem.W.kitOne K (.ref C8) (.type "ValueError") = some true)
    (o8 : OexC K C8)
    (e8 : ErrF K C8 "value")
    (i8 : PySem.W.findIn K (.ref C8) "__init__" = some (some (.ref f8)))
    (t8 : PySem.W.typeIn K (.ref f8) = some (.type "function"))
    (F8 : ∃ fd, Fun K "__init__" "InvalidNumber.__init__" sI8 f8 fd)
    (x9 : ExcC K C9)
    (y9 : PySem.W.kitOne K (.ref C9) (.ref C0) = some false ∧ PySem.W.kitOne K (.ref C9) (.ref C1) = some false ∧ PySem.W.kitOne K (.ref C9) (.ref C2) = some false ∧ PySem.W.kitOne K (.ref C9) (.ref C3) = some false ∧ PySem.W.kitOne K (.ref C9) (.ref C4) = some false ∧ PySem.W.kitOne K (.ref C9) (.ref C5) = some false ∧ PySem.W.kitOne K (.ref C9) (.ref C6) = some false ∧ PySem.W.kitOne K (.ref C9) (.ref C7) = some false ∧ PySem.W.kitOne K (.ref C9) (.ref C8) = some false ∧ PySem.W.kitOne K (.ref C9) (.ref C9) = some true ∧ PySem.W.kitOne K (.ref C9) (.ref C10) = some false ∧ PySem.W.kitOne K (.ref C9) (.ref C11) = some false ∧ PySem.W.kitOne K (.ref C9) (.ref C12) = some false ∧ PySem.W.kitOne K (.ref C9) (.ref C13) = some false ∧ PySem.W.kitOne K (.ref C9) (.ref C14) = some false ∧ PySem.W.kitOne K (.ref C9) (.ref C15) = some true)
    (z9 : PySem.W.kitOne K (.ref C9) (.type "ValueError") = some true)
    (o9 : OexC K C9)
    (e9 : ErrF K C9 "value")
    (i9 : PySem.W.findIn K (.ref C9) "__init__" = some (some (.ref f9)))
    (t9 : PySem.W.typeIn K (.ref f9) = some (.type "function"))
    (F9 : ∃ fd, Fun K "__init__" "DoesNotServe.__init__" sI9 f9 fd)
    (x10 : ExcC K C10)
    (y10 : PySem.W.kitOne K (.ref C10) (.ref C0) = some false ∧ PySem.W.kitOne K (.ref C10) (.ref C1) = some false ∧ PySem.W.kitOne K (.ref C10) (.ref C2) = some false ∧ PySem.W.kitOne K (.ref C10) (.ref C3) = some false ∧ PySem.W.kitOne K (.ref C10) (.ref C4) = some false ∧ PySem.W.kitOne K (.ref C10) (.ref C5) = some false ∧ PySem.W.kitOne K (.ref C10) (.ref C6) = some false ∧ PySem.W.kitOne K (.ref C10) (.ref C7) = some false ∧ PySem.W.kitOne K (.ref C10) (.ref C8) = some false ∧ PySem.W.kitOne K (.ref C10) (.ref C9) = some false ∧ PySem.W.kitOne K (.ref C10) (.ref C10) = some true ∧ PySem.W.kitOne K (.ref C10) (.ref C11) = some false ∧ PySem.W.kitOne K (.ref C10) (.ref C12) = some false ∧ PySem.W.kitOne K (.ref C10) (.ref C13) = some false ∧ PySem.W.kitOne K (.ref C10) (.ref C14) = some false ∧ PySem.W.kitOne K (.ref C10) (.ref C15) = some true)
    (z10 : PySem.W.kitOne K (.ref C10) (.type "ValueError") = some true)
    (o10 : OexC K C10)
    (e10 : ErrF K C10 "row")
    (i10 : PySem.W.findIn K (.ref C10) "__init__" = some (some (.ref f10)))
    (t10 : PySem.W.typeIn K (.ref f10) = some (.type "function"))
    (F10 : ∃ fd, Fun K "__init__" "ParseError.__init__" sI10 f10 fd)
    (x11 : ExcC K C11)
    (y11 : PySem.W.kitOne K (.ref C11) (.ref C0) = some false ∧ PySem.W.kitOne K (.ref C11) (.ref C1) = some false ∧ PySem.W.kitOne K (.ref C11) (.ref C2) = some false ∧ PySem.W.kitOne K (.ref C11) (.ref C3) = some false ∧ PySem.W.kitOne K (.ref C11) (.ref C4) = some false ∧ PySem.W.kitOne K (.ref C11) (.ref C5) = some false ∧ PySem.W.kitOne K (.ref C11) (.ref C6) = some false ∧ PySem.W.kitOne K (.ref C11) (.ref C7) = some false ∧ PySem.W.kitOne K (.ref C11) (.ref C8) = some false ∧ PySem.W.kitOne K (.ref C11) (.ref C9) = some false ∧ PySem.W.kitOne K (.ref C11) (.ref C10) = some false ∧ PySem.W.kitOne K (.ref C11) (.ref C11) = some true ∧ PySem.W.kitOne K (.ref C11) (.ref C12) = some false ∧ PySem.W.kitOne K (.ref C11) (.ref C13) = some false ∧ PySem.W.kitOne K (.ref C11) (.ref C14) = some false ∧ PySem.W.kitOne K (.ref C11) (.ref C15) = some true)
    (z11 : PySem.W.kitOne K (.ref C11) (.type "ValueError") = some true)
    (o11 : OexC K C11)
    (e11 : ErrF K C11 "command")
    (i11 : PySem.W.findIn K (.ref C11) "__init__" = some (some (.ref f11)))
    (t11 : PySem.W.typeIn K (.ref f11) = some (.type "function"))
    (F11 : ∃ fd, Fun K "__init__" "CommandError.__init__" sI11 f11 fd)
    (x12 : ExcC K C12)
    (y12 : PySem.W.kitOne K (.ref C12) (.ref C0) = some false ∧ PySem.W.kitOne K (.ref C12) (.ref C1) = some false ∧ PySem.W.kitOne K (.ref C12) (.ref C2) = some false ∧ PySem.W.kitOne K (.ref C12) (.ref C3) = some false ∧ PySem.W.kitOne K (.ref C12) (.ref C4) = some false ∧ PySem.W.kitOne K (.ref C12) (.ref C5) = some false ∧ PySem.W.kitOne K (.ref C12) (.ref C6) = some false ∧ PySem.W.kitOne K (.ref C12) (.ref C7) = some false ∧ PySem.W.kitOne K (.ref C12) (.ref C8) = some false ∧ PySem.W.kitOne K (.ref C12) (.ref C9) = some false ∧ PySem.W.kitOne K (.ref C12) (.ref C10) = some false ∧ PySem.W.kitOne K (.ref C12) (.ref C11) = some false ∧ PySem.W.kitOne K (.ref C12) (.ref C12) = some true ∧ PySem.W.kitOne K (.ref C12) (.ref C13) = some false ∧ PySem.W.kitOne K (.ref C12) (.ref C14) = some false ∧ PySem.W.kitOne K (.ref C12) (.ref C15) = some true)
    (z12 : PySem.W.kitOne K (.ref C12) (.type "ValueError") = some true)
    (q12 : PySem.W.excIn K C12 [.type "ValueError", .type "Exception", .type "BaseException", .type "object"] "ValueError.__new__" = true)
    (k12 : PySem.W.keepIn K (.ref C12) = true)
    (x13 : ExcC K C13)
    (y13 : PySem.W.kitOne K (.ref C13) (.ref C0) = some false ∧ PySem.W.kitOne K (.ref C13) (.ref C1) = some false ∧ PySem.W.kitOne K (.ref C13) (.ref C2) = some false ∧ PySem.W.kitOne K (.ref C13) (.ref C3) = some false ∧ PySem.W.kitOne K (.ref C13) (.ref C4) = some false ∧ PySem.W.kitOne K (.ref C13) (.ref C5) = some false ∧ PySem.W.kitOne K (.ref C13) (.ref C6) = some false ∧ PySem.W.kitOne K (.ref C13) (.ref C7) = some false ∧ PySem.W.kitOne K (.ref C13) (.ref C8) = some false ∧ PySem.W.kitOne K (.ref C13) (.ref C9) = some false ∧ PySem.W.kitOne K (.ref C13) (.ref C10) = some false ∧ PySem.W.kitOne K (.ref C13) (.ref C11) = some false ∧ PySem.W.kitOne K (.ref C13) (.ref C12) = some false ∧ PySem.W.kitOne K (.ref C13) (.ref C13) = some true ∧ PySem.W.kitOne K (.ref C13) (.ref C14) = some false ∧ PySem.W.kitOne K (.ref C13) (.ref C15) = some true)
    (z13 : PySem.W.kitOne K (.ref C13) (.type "ValueError") = some true)
    (q13 : PySem.W.excIn K C13 [.type "ValueError", .type "Exception", .type "BaseException", .type "object"] "ValueError.__new__" = true)
    (k13 : PySem.W.keepIn K (.ref C13) = true)
    (x14 : ExcC K C14)
    (y14 : PySem.W.kitOne K (.ref C14) (.ref C0) = some false ∧ PySem.W.kitOne K (.ref C14) (.ref C1) = some false ∧ PySem.W.kitOne K (.ref C14) (.ref C2) = some false ∧ PySem.W.kitOne K (.ref C14) (.ref C3) = some false ∧ PySem.W.kitOne K (.ref C14) (.ref C4) = some false ∧ PySem.W.kitOne K (.ref C14) (.ref C5) = some false ∧ PySem.W.kitOne K (.ref C14) (.ref C6) = some false ∧ PySem.W.kitOne K (.ref C14) (.ref C7) = some false ∧ PySem.W.kitOne K (.ref C14) (.ref C8) = some false ∧ PySem.W.kitOne K (.ref C14) (.ref C9) = some false ∧ PySem.W.kitOne K (.ref C14) (.ref C10) = some false ∧ PySem.W.kitOne K (.ref C14) (.ref C11) = some false ∧ PySem.W.kitOne K (.ref C14) (.ref C12) = some false ∧ PySem.W.kitOne K (.ref C14) (.ref C13) = some false ∧ PySem.W.kitOne K (.ref C14) (.ref C14) = some true ∧ PySem.W.kitOne K (.ref C14) (.ref C15) = some true)
    (z14 : PySem.W.kitOne K (.ref C14) (.type "ValueError") = some true)
    (q14 : PySem.W.excIn K C14 [.type "ValueError", .type "Exception", .type "BaseException", .type "object"] "ValueError.__new__" = true)
    (k14 : PySem.W.keepIn K (.ref C14) = true)
    (x15 : ExcC K C15)
    (y15 : PySem.W.kitOne K (.ref C15) (.ref C0) = some false ∧ PySem.W.kitOne K (.ref C15) (.ref C1) = some false ∧ PySem.W.kitOne K (.ref C15) (.ref C2) = some false ∧ PySem.W.kitOne K (.ref C15) (.ref C3) = some false ∧ PySem.W.kitOne K (.ref C15) (.ref C4) = some false ∧ PySem.W.kitOne K (.ref C15) (.ref C5) = some false ∧ PySem.W.kitOne K (.ref C15) (.ref C6) = some false ∧ PySem.W.kitOne K (.ref C15) (.ref C7) = some false ∧ PySem.W.kitOne K (.ref C15) (.ref C8) = some false ∧ PySem.W.kitOne K (.ref C15) (.ref C9) = some false ∧ PySem.W.kitOne K (.ref C15) (.ref C10) = some false ∧ PySem.W.kitOne K (.ref C15) (.ref C11) = some false ∧ PySem.W.kitOne K (.ref C15) (.ref C12) = some false ∧ PySem.W.kitOne K (.ref C15) (.ref C13) = some false ∧ PySem.W.kitOne K (.ref C15) (.ref C14) = some false ∧ PySem.W.kitOne K (.ref C15) (.ref C15) = some true)
    (z15 : PySem.W.kitOne K (.ref C15) (.type "ValueError") = some true)
    (q15 : PySem.W.excIn K C15 [.type "ValueError", .type "Exception", .type "BaseException", .type "object"] "ValueError.__new__" = true)
    (k15 : PySem.W.keepIn K (.ref C15) = true)
    (gWell : PySem.W.nsIn K mainGlobals "_law_well" = some (some (.ref fWell)))
    (FWell : ∃ fd, Fun K "_law_well" "_law_well" sWell fWell fd)
    (gDraw : PySem.W.nsIn K mainGlobals "_law_draw" = some (some (.ref fDraw)))
    (FDraw : ∃ fd, Fun K "_law_draw" "_law_draw" sDraw fDraw fd)
    (gKinds : PySem.W.nsIn K mainGlobals "_law_kinds" = some (some (.ref fKinds)))
    (FKinds : ∃ fd, Fun K "_law_kinds" "_law_kinds" sKinds fKinds fd)
    (gMade : PySem.W.nsIn K mainGlobals "_law_made" = some (some (.ref fMade)))
    (FMade : ∃ fd, Fun K "_law_made" "_law_made" sMade fMade fd)
    (gLaw : PySem.W.nsIn K mainGlobals "law" = some (some (.ref fLaw)))
    (FLaw : ∃ oc od kV doc pm an cdv ct osl, K.lookup fLaw = some ⟨oc, od, .func (PySem.W.fnOf "law" "law" (defArgs sLaw) (defBody sLaw) (defScope sLaw) .none kV doc pm an cdv ct), osl⟩ ∧ PySem.W.codeIn K cdv "law" = true ∧ PySem.W.keepIn K (.ref fLaw) = true)
    (mI : PySem.W.nsIn K mainGlobals "isinstance" = some none)
    (mL : PySem.W.nsIn K mainGlobals "len" = some none)
    (mA : PySem.W.nsIn K mainGlobals "abs" = some none)
    (mT : PySem.W.nsIn K mainGlobals "int" = some none)
    (mR : PySem.W.nsIn K mainGlobals "range" = some none)
    (mX : PySem.W.nsIn K mainGlobals "max" = some none)
    (mN : PySem.W.nsIn K mainGlobals "min" = some none)
    (mE : PySem.W.nsIn K mainGlobals "enumerate" = some none)
    (mP : PySem.W.nsIn K mainGlobals "repr" = some none)
    (mV : PySem.W.nsIn K mainGlobals "ValueError" = some none) :
    ∃ fd : FuncData, (∀ (s : Shared) (u : Value), BindsTo s fd ⟨[u], []⟩ [("_law_script", u)]) ∧ ∀ base : Heap, K.In base → base.Ns mainGlobals mg → FnG l.prog w K mg base CX0 4 fa fd ["_law_script"] (spLaw K) := by
  have e := hfa.symm.trans (PySem.W.mg_of X G gLaw)
  cases e
  obtain ⟨d0, F0⟩ := F0
  have b0 := F0.binds (ps := ["self", "value"]) fun _ _ _ _ _ _ us hl => match us, hl with | [_, _], _ => rfl
  obtain ⟨d1, F1⟩ := F1
  have b1 := F1.binds (ps := ["self", "value"]) fun _ _ _ _ _ _ us hl => match us, hl with | [_, _], _ => rfl
  obtain ⟨d2, F2⟩ := F2
  have b2 := F2.binds (ps := ["self", "value"]) fun _ _ _ _ _ _ us hl => match us, hl with | [_, _], _ => rfl
  obtain ⟨d3, F3⟩ := F3
  have b3 := F3.binds (ps := ["self", "value"]) fun _ _ _ _ _ _ us hl => match us, hl with | [_, _], _ => rfl
  obtain ⟨d4, F4⟩ := F4
  have b4 := F4.binds (ps := ["self", "value"]) fun _ _ _ _ _ _ us hl => match us, hl with | [_, _], _ => rfl
  obtain ⟨d5, F5⟩ := F5
  have b5 := F5.binds (ps := ["self", "value"]) fun _ _ _ _ _ _ us hl => match us, hl with | [_, _], _ => rfl
  obtain ⟨d6, F6⟩ := F6
  have b6 := F6.binds (ps := ["self", "value"]) fun _ _ _ _ _ _ us hl => match us, hl with | [_, _], _ => rfl
  obtain ⟨d7, F7⟩ := F7
  have b7 := F7.binds (ps := ["self", "value"]) fun _ _ _ _ _ _ us hl => match us, hl with | [_, _], _ => rfl
  obtain ⟨d8, F8⟩ := F8
  have b8 := F8.binds (ps := ["self", "value"]) fun _ _ _ _ _ _ us hl => match us, hl with | [_, _], _ => rfl
  obtain ⟨d9, F9⟩ := F9
  have b9 := F9.binds (ps := ["self", "value"]) fun _ _ _ _ _ _ us hl => match us, hl with | [_, _], _ => rfl
  obtain ⟨d10, F10⟩ := F10
  have b10 := F10.binds (ps := ["self", "row"]) fun _ _ _ _ _ _ us hl => match us, hl with | [_, _], _ => rfl
  obtain ⟨d11, F11⟩ := F11
  have b11 := F11.binds (ps := ["self", "command"]) fun _ _ _ _ _ _ us hl => match us, hl with | [_, _], _ => rfl
  obtain ⟨dWell, FWell⟩ := FWell
  have bWell := FWell.binds (ps := ["_law_script", "_law_k"]) fun _ _ _ _ _ _ us hl => match us, hl with | [_, _], _ => rfl
  obtain ⟨dDraw, FDraw⟩ := FDraw
  have bDraw := FDraw.binds (ps := ["_law_well_here", "_law_below"]) fun _ _ _ _ _ _ us hl => match us, hl with | [_, _], _ => rfl
  obtain ⟨dKinds, FKinds⟩ := FKinds
  have bKinds := FKinds.binds (ps := ["_law_error"]) fun _ _ _ _ _ _ us hl => match us, hl with | [_], _ => rfl
  obtain ⟨dMade, FMade⟩ := FMade
  have bMade := FMade.binds (ps := ["_law_item"]) fun _ _ _ _ _ _ us hl => match us, hl with | [_], _ => rfl
  obtain ⟨oc, od, kV, doc, pm, an, cdv, ct, osl, lk, lc, lp⟩ := FLaw
  have FL := fun_mk (st := sLaw) lk lc lp
  let cl : Nat → Addr := fun i => match i with | 0 => C0 | 1 => C1 | 2 => C2 | 3 => C3 | 4 => C4 | 5 => C5 | 6 => C6 | 7 => C7 | 8 => C8 | 9 => C9 | 10 => C10 | 11 => C11 | 12 => C12 | 13 => C13 | 14 => C14 | _ => C15
  refine ⟨PySem.W.fnOf "law" "law" (defArgs sLaw) (defBody sLaw) (defScope sLaw) .none kV doc pm an cdv ct, fun s u => .of_eq rfl, fun base _ _ => ?_⟩
  have T : Errs l.prog w K mg base cl := {
    exc := (fun i hi => match i, hi with | 0, _ => x0 | 1, _ => x1 | 2, _ => x2 | 3, _ => x3 | 4, _ => x4 | 5, _ => x5 | 6, _ => x6 | 7, _ => x7 | 8, _ => x8 | 9, _ => x9 | 10, _ => x10 | 11, _ => x11 | 12, _ => x12 | 13, _ => x13 | 14, _ => x14 | 15, _ => x15 | n + 16, hi => absurd hi (by omega))
    kit := (fun i j hi hj => match i, hi, j, hj with | 0, _, 0, _ => y0.1 | 0, _, 1, _ => y0.2.1 | 0, _, 2, _ => y0.2.2.1 | 0, _, 3, _ => y0.2.2.2.1 | 0, _, 4, _ => y0.2.2.2.2.1 | 0, _, 5, _ => y0.2.2.2.2.2.1 | 0, _, 6, _ => y0.2.2.2.2.2.2.1 | 0, _, 7, _ => y0.2.2.2.2.2.2.2.1 | 0, _, 8, _ => y0.2.2.2.2.2.2.2.2.1 | 0, _, 9, _ => y0.2.2.2.2.2.2.2.2.2.1 | 0, _, 10, _ => y0.2.2.2.2.2.2.2.2.2.2.1 | 0, _, 11, _ => y0.2.2.2.2.2.2.2.2.2.2.2.1 | 0, _, 12, _ => y0.2.2.2.2.2.2.2.2.2.2.2.2.1 | 0, _, 13, _ => y0.2.2.2.2.2.2.2.2.2.2.2.2.2.1 | 0, _, 14, _ => y0.2.2.2.2.2.2.2.2.2.2.2.2.2.2.1 | 0, _, 15, _ => y0.2.2.2.2.2.2.2.2.2.2.2.2.2.2.2 | 1, _, 0, _ => y1.1 | 1, _, 1, _ => y1.2.1 | 1, _, 2, _ => y1.2.2.1 | 1, _, 3, _ => y1.2.2.2.1 | 1, _, 4, _ => y1.2.2.2.2.1 | 1, _, 5, _ => y1.2.2.2.2.2.1 | 1, _, 6, _ => y1.2.2.2.2.2.2.1 | 1, _, 7, _ => y1.2.2.2.2.2.2.2.1 | 1, _, 8, _ => y1.2.2.2.2.2.2.2.2.1 | 1, _, 9, _ => y1.2.2.2.2.2.2.2.2.2.1 | 1, _, 10, _ => y1.2.2.2.2.2.2.2.2.2.2.1 | 1, _, 11, _ => y1.2.2.2.2.2.2.2.2.2.2.2.1 | 1, _, 12, _ => y1.2.2.2.2.2.2.2.2.2.2.2.2.1 | 1, _, 13, _ => y1.2.2.2.2.2.2.2.2.2.2.2.2.2.1 | 1, _, 14, _ => y1.2.2.2.2.2.2.2.2.2.2.2.2.2.2.1 | 1, _, 15, _ => y1.2.2.2.2.2.2.2.2.2.2.2.2.2.2.2 | 2, _, 0, _ => y2.1 | 2, _, 1, _ => y2.2.1 | 2, _, 2, _ => y2.2.2.1 | 2, _, 3, _ => y2.2.2.2.1 | 2, _, 4, _ => y2.2.2.2.2.1 | 2, _, 5, _ => y2.2.2.2.2.2.1 | 2, _, 6, _ => y2.2.2.2.2.2.2.1 | 2, _, 7, _ => y2.2.2.2.2.2.2.2.1 | 2, _, 8, _ => y2.2.2.2.2.2.2.2.2.1 | 2, _, 9, _ => y2.2.2.2.2.2.2.2.2.2.1 | 2, _, 10, _ => y2.2.2.2.2.2.2.2.2.2.2.1 | 2, _, 11, _ => y2.2.2.2.2.2.2.2.2.2.2.2.1 | 2, _, 12, _ => y2.2.2.2.2.2.2.2.2.2.2.2.2.1 | 2, _, 13, _ => y2.2.2.2.2.2.2.2.2.2.2.2.2.2.1 | 2, _, 14, _ => y2.2.2.2.2.2.2.2.2.2.2.2.2.2.2.1 | 2, _, 15, _ => y2.2.2.2.2.2.2.2.2.2.2.2.2.2.2.2 | 3, _, 0, _ => y3.1 | 3, _, 1, _ => y3.2.1 | 3, _, 2, _ => y3.2.2.1 | 3, _, 3, _ => y3.2.2.2.1 | 3, _, 4, _ => y3.2.2.2.2.1 | 3, _, 5, _ => y3.2.2.2.2.2.1 | 3, _, 6, _ => y3.2.2.2.2.2.2.1 | 3, _, 7, _ => y3.2.2.2.2.2.2.2.1 | 3, _, 8, _ => y3.2.2.2.2.2.2.2.2.1 | 3, _, 9, _ => y3.2.2.2.2.2.2.2.2.2.1 | 3, _, 10, _ => y3.2.2.2.2.2.2.2.2.2.2.1 | 3, _, 11, _ => y3.2.2.2.2.2.2.2.2.2.2.2.1 | 3, _, 12, _ => y3.2.2.2.2.2.2.2.2.2.2.2.2.1 | 3, _, 13, _ => y3.2.2.2.2.2.2.2.2.2.2.2.2.2.1 | 3, _, 14, _ => y3.2.2.2.2.2.2.2.2.2.2.2.2.2.2.1 | 3, _, 15, _ => y3.2.2.2.2.2.2.2.2.2.2.2.2.2.2.2 | 4, _, 0, _ => y4.1 | 4, _, 1, _ => y4.2.1 | 4, _, 2, _ => y4.2.2.1 | 4, _, 3, _ => y4.2.2.2.1 | 4, _, 4, _ => y4.2.2.2.2.1 | 4, _, 5, _ => y4.2.2.2.2.2.1 | 4, _, 6, _ => y4.2.2.2.2.2.2.1 | 4, _, 7, _ => y4.2.2.2.2.2.2.2.1 | 4, _, 8, _ => y4.2.2.2.2.2.2.2.2.1 | 4, _, 9, _ => y4.2.2.2.2.2.2.2.2.2.1 | 4, _, 10, _ => y4.2.2.2.2.2.2.2.2.2.2.1 | 4, _, 11, _ => y4.2.2.2.2.2.2.2.2.2.2.2.1 | 4, _, 12, _ => y4.2.2.2.2.2.2.2.2.2.2.2.2.1 | 4, _, 13, _ => y4.2.2.2.2.2.2.2.2.2.2.2.2.2.1 | 4, _, 14, _ => y4.2.2.2.2.2.2.2.2.2.2.2.2.2.2.1 | 4, _, 15, _ => y4.2.2.2.2.2.2.2.2.2.2.2.2.2.2.2 | 5, _, 0, _ => y5.1 | 5, _, 1, _ => y5.2.1 | 5, _, 2, _ => y5.2.2.1 | 5, _, 3, _ => y5.2.2.2.1 | 5, _, 4, _ => y5.2.2.2.2.1 | 5, _, 5, _ => y5.2.2.2.2.2.1 | 5, _, 6, _ => y5.2.2.2.2.2.2.1 | 5, _, 7, _ => y5.2.2.2.2.2.2.2.1 | 5, _, 8, _ => y5.2.2.2.2.2.2.2.2.1 | 5, _, 9, _ => y5.2.2.2.2.2.2.2.2.2.1 | 5, _, 10, _ => y5.2.2.2.2.2.2.2.2.2.2.1 | 5, _, 11, _ => y5.2.2.2.2.2.2.2.2.2.2.2.1 | 5, _, 12, _ => y5.2.2.2.2.2.2.2.2.2.2.2.2.1 | 5, _, 13, _ => y5.2.2.2.2.2.2.2.2.2.2.2.2.2.1 | 5, _, 14, _ => y5.2.2.2.2.2.2.2.2.2.2.2.2.2.2.1 | 5, _, 15, _ => y5.2.2.2.2.2.2.2.2.2.2.2.2.2.2.2 | 6, _, 0, _ => y6.1 | 6, _, 1, _ => y6.2.1 | 6, _, 2, _ => y6.2.2.1 | 6, _, 3, _ => y6.2.2.2.1 | 6, _, 4, _ => y6.2.2.2.2.1 | 6, _, 5, _ => y6.2.2.2.2.2.1 | 6, _, 6, _ => y6.2.2.2.2.2.2.1 | 6, _, 7, _ => y6.2.2.2.2.2.2.2.1 | 6, _, 8, _ => y6.2.2.2.2.2.2.2.2.1 | 6, _, 9, _ => y6.2.2.2.2.2.2.2.2.2.1 | 6, _, 10, _ => y6.2.2.2.2.2.2.2.2.2.2.1 | 6, _, 11, _ => y6.2.2.2.2.2.2.2.2.2.2.2.1 | 6, _, 12, _ => y6.2.2.2.2.2.2.2.2.2.2.2.2.1 | 6, _, 13, _ => y6.2.2.2.2.2.2.2.2.2.2.2.2.2.1 | 6, _, 14, _ => y6.2.2.2.2.2.2.2.2.2.2.2.2.2.2.1 | 6, _, 15, _ => y6.2.2.2.2.2.2.2.2.2.2.2.2.2.2.2 | 7, _, 0, _ => y7.1 | 7, _, 1, _ => y7.2.1 | 7, _, 2, _ => y7.2.2.1 | 7, _, 3, _ => y7.2.2.2.1 | 7, _, 4, _ => y7.2.2.2.2.1 | 7, _, 5, _ => y7.2.2.2.2.2.1 | 7, _, 6, _ => y7.2.2.2.2.2.2.1 | 7, _, 7, _ => y7.2.2.2.2.2.2.2.1 | 7, _, 8, _ => y7.2.2.2.2.2.2.2.2.1 | 7, _, 9, _ => y7.2.2.2.2.2.2.2.2.2.1 | 7, _, 10, _ => y7.2.2.2.2.2.2.2.2.2.2.1 | 7, _, 11, _ => y7.2.2.2.2.2.2.2.2.2.2.2.1 | 7, _, 12, _ => y7.2.2.2.2.2.2.2.2.2.2.2.2.1 | 7, _, 13, _ => y7.2.2.2.2.2.2.2.2.2.2.2.2.2.1 | 7, _, 14, _ => y7.2.2.2.2.2.2.2.2.2.2.2.2.2.2.1 | 7, _, 15, _ => y7.2.2.2.2.2.2.2.2.2.2.2.2.2.2.2 | 8, _, 0, _ => y8.1 | 8, _, 1, _ => y8.2.1 | 8, _, 2, _ => y8.2.2.1 | 8, _, 3, _ => y8.2.2.2.1 | 8, _, 4, _ => y8.2.2.2.2.1 | 8, _, 5, _ => y8.2.2.2.2.2.1 | 8, _, 6, _ => y8.2.2.2.2.2.2.1 | 8, _, 7, _ => y8.2.2.2.2.2.2.2.1 | 8, _, 8, _ => y8.2.2.2.2.2.2.2.2.1 | 8, _, 9, _ => y8.2.2.2.2.2.2.2.2.2.1 | 8, _, 10, _ => y8.2.2.2.2.2.2.2.2.2.2.1 | 8, _, 11, _ => y8.2.2.2.2.2.2.2.2.2.2.2.1 | 8, _, 12, _ => y8.2.2.2.2.2.2.2.2.2.2.2.2.1 | 8, _, 13, _ => y8.2.2.2.2.2.2.2.2.2.2.2.2.2.1 | 8, _, 14, _ => y8.2.2.2.2.2.2.2.2.2.2.2.2.2.2.1 | 8, _, 15, _ => y8.2.2.2.2.2.2.2.2.2.2.2.2.2.2.2 | 9, _, 0, _ => y9.1 | 9, _, 1, _ => y9.2.1 | 9, _, 2, _ => y9.2.2.1 | 9, _, 3, _ => y9.2.2.2.1 | 9, _, 4, _ => y9.2.2.2.2.1 | 9, _, 5, _ => y9.2.2.2.2.2.1 | 9, _, 6, _ => y9.2.2.2.2.2.2.1 | 9, _, 7, _ => y9.2.2.2.2.2.2.2.1 | 9, _, 8, _ => y9.2.2.2.2.2.2.2.2.1 | 9, _, 9, _ => y9.2.2.2.2.2.2.2.2.2.1 | 9, _, 10, _ => y9.2.2.2.2.2.2.2.2.2.2.1 | 9, _, 11, _ => y9.2.2.2.2.2.2.2.2.2.2.2.1 | 9, _, 12, _ => y9.2.2.2.2.2.2.2.2.2.2.2.2.1 | 9, _, 13, _ => y9.2.2.2.2.2.2.2.2.2.2.2.2.2.1 | 9, _, 14, _ => y9.2.2.2.2.2.2.2.2.2.2.2.2.2.2.1 | 9, _, 15, _ => y9.2.2.2.2.2.2.2.2.2.2.2.2.2.2.2 | 10, _, 0, _ => y10.1 | 10, _, 1, _ => y10.2.1 | 10, _, 2, _ => y10.2.2.1 | 10, _, 3, _ => y10.2.2.2.1 | 10, _, 4, _ => y10.2.2.2.2.1 | 10, _, 5, _ => y10.2.2.2.2.2.1 | 10, _, 6, _ => y10.2.2.2.2.2.2.1 | 10, _, 7, _ => y10.2.2.2.2.2.2.2.1 | 10, _, 8, _ => y10.2.2.2.2.2.2.2.2.1 | 10, _, 9, _ => y10.2.2.2.2.2.2.2.2.2.1 | 10, _, 10, _ => y10.2.2.2.2.2.2.2.2.2.2.1 | 10, _, 11, _ => y10.2.2.2.2.2.2.2.2.2.2.2.1 | 10, _, 12, _ => y10.2.2.2.2.2.2.2.2.2.2.2.2.1 | 10, _, 13, _ => y10.2.2.2.2.2.2.2.2.2.2.2.2.2.1 | 10, _, 14, _ => y10.2.2.2.2.2.2.2.2.2.2.2.2.2.2.1 | 10, _, 15, _ => y10.2.2.2.2.2.2.2.2.2.2.2.2.2.2.2 | 11, _, 0, _ => y11.1 | 11, _, 1, _ => y11.2.1 | 11, _, 2, _ => y11.2.2.1 | 11, _, 3, _ => y11.2.2.2.1 | 11, _, 4, _ => y11.2.2.2.2.1 | 11, _, 5, _ => y11.2.2.2.2.2.1 | 11, _, 6, _ => y11.2.2.2.2.2.2.1 | 11, _, 7, _ => y11.2.2.2.2.2.2.2.1 | 11, _, 8, _ => y11.2.2.2.2.2.2.2.2.1 | 11, _, 9, _ => y11.2.2.2.2.2.2.2.2.2.1 | 11, _, 10, _ => y11.2.2.2.2.2.2.2.2.2.2.1 | 11, _, 11, _ => y11.2.2.2.2.2.2.2.2.2.2.2.1 | 11, _, 12, _ => y11.2.2.2.2.2.2.2.2.2.2.2.2.1 | 11, _, 13, _ => y11.2.2.2.2.2.2.2.2.2.2.2.2.2.1 | 11, _, 14, _ => y11.2.2.2.2.2.2.2.2.2.2.2.2.2.2.1 | 11, _, 15, _ => y11.2.2.2.2.2.2.2.2.2.2.2.2.2.2.2 | 12, _, 0, _ => y12.1 | 12, _, 1, _ => y12.2.1 | 12, _, 2, _ => y12.2.2.1 | 12, _, 3, _ => y12.2.2.2.1 | 12, _, 4, _ => y12.2.2.2.2.1 | 12, _, 5, _ => y12.2.2.2.2.2.1 | 12, _, 6, _ => y12.2.2.2.2.2.2.1 | 12, _, 7, _ => y12.2.2.2.2.2.2.2.1 | 12, _, 8, _ => y12.2.2.2.2.2.2.2.2.1 | 12, _, 9, _ => y12.2.2.2.2.2.2.2.2.2.1 | 12, _, 10, _ => y12.2.2.2.2.2.2.2.2.2.2.1 | 12, _, 11, _ => y12.2.2.2.2.2.2.2.2.2.2.2.1 | 12, _, 12, _ => y12.2.2.2.2.2.2.2.2.2.2.2.2.1 | 12, _, 13, _ => y12.2.2.2.2.2.2.2.2.2.2.2.2.2.1 | 12, _, 14, _ => y12.2.2.2.2.2.2.2.2.2.2.2.2.2.2.1 | 12, _, 15, _ => y12.2.2.2.2.2.2.2.2.2.2.2.2.2.2.2 | 13, _, 0, _ => y13.1 | 13, _, 1, _ => y13.2.1 | 13, _, 2, _ => y13.2.2.1 | 13, _, 3, _ => y13.2.2.2.1 | 13, _, 4, _ => y13.2.2.2.2.1 | 13, _, 5, _ => y13.2.2.2.2.2.1 | 13, _, 6, _ => y13.2.2.2.2.2.2.1 | 13, _, 7, _ => y13.2.2.2.2.2.2.2.1 | 13, _, 8, _ => y13.2.2.2.2.2.2.2.2.1 | 13, _, 9, _ => y13.2.2.2.2.2.2.2.2.2.1 | 13, _, 10, _ => y13.2.2.2.2.2.2.2.2.2.2.1 | 13, _, 11, _ => y13.2.2.2.2.2.2.2.2.2.2.2.1 | 13, _, 12, _ => y13.2.2.2.2.2.2.2.2.2.2.2.2.1 | 13, _, 13, _ => y13.2.2.2.2.2.2.2.2.2.2.2.2.2.1 | 13, _, 14, _ => y13.2.2.2.2.2.2.2.2.2.2.2.2.2.2.1 | 13, _, 15, _ => y13.2.2.2.2.2.2.2.2.2.2.2.2.2.2.2 | 14, _, 0, _ => y14.1 | 14, _, 1, _ => y14.2.1 | 14, _, 2, _ => y14.2.2.1 | 14, _, 3, _ => y14.2.2.2.1 | 14, _, 4, _ => y14.2.2.2.2.1 | 14, _, 5, _ => y14.2.2.2.2.2.1 | 14, _, 6, _ => y14.2.2.2.2.2.2.1 | 14, _, 7, _ => y14.2.2.2.2.2.2.2.1 | 14, _, 8, _ => y14.2.2.2.2.2.2.2.2.1 | 14, _, 9, _ => y14.2.2.2.2.2.2.2.2.2.1 | 14, _, 10, _ => y14.2.2.2.2.2.2.2.2.2.2.1 | 14, _, 11, _ => y14.2.2.2.2.2.2.2.2.2.2.2.1 | 14, _, 12, _ => y14.2.2.2.2.2.2.2.2.2.2.2.2.1 | 14, _, 13, _ => y14.2.2.2.2.2.2.2.2.2.2.2.2.2.1 | 14, _, 14, _ => y14.2.2.2.2.2.2.2.2.2.2.2.2.2.2.1 | 14, _, 15, _ => y14.2.2.2.2.2.2.2.2.2.2.2.2.2.2.2 | 15, _, 0, _ => y15.1 | 15, _, 1, _ => y15.2.1 | 15, _, 2, _ => y15.2.2.1 | 15, _, 3, _ => y15.2.2.2.1 | 15, _, 4, _ => y15.2.2.2.2.1 | 15, _, 5, _ => y15.2.2.2.2.2.1 | 15, _, 6, _ => y15.2.2.2.2.2.2.1 | 15, _, 7, _ => y15.2.2.2.2.2.2.2.1 | 15, _, 8, _ => y15.2.2.2.2.2.2.2.2.1 | 15, _, 9, _ => y15.2.2.2.2.2.2.2.2.2.1 | 15, _, 10, _ => y15.2.2.2.2.2.2.2.2.2.2.1 | 15, _, 11, _ => y15.2.2.2.2.2.2.2.2.2.2.2.1 | 15, _, 12, _ => y15.2.2.2.2.2.2.2.2.2.2.2.2.1 | 15, _, 13, _ => y15.2.2.2.2.2.2.2.2.2.2.2.2.2.1 | 15, _, 14, _ => y15.2.2.2.2.2.2.2.2.2.2.2.2.2.2.1 | 15, _, 15, _ => y15.2.2.2.2.2.2.2.2.2.2.2.2.2.2.2 | n + 16, hi, _, _ => absurd hi (by omega) | _, _, n + 16, hj => absurd hj (by omega))
    kitV := (fun i hi => match i, hi with | 0, _ => z0 | 1, _ => z1 | 2, _ => z2 | 3, _ => z3 | 4, _ => z4 | 5, _ => z5 | 6, _ => z6 | 7, _ => z7 | 8, _ => z8 | 9, _ => z9 | 10, _ => z10 | 11, _ => z11 | 12, _ => z12 | 13, _ => z13 | 14, _ => z14 | 15, _ => z15 | n + 16, hi => absurd hi (by omega))
    gL := PySem.W.mg_of X G a15
    e0 := ⟨PySem.W.mg_of X G a0, o0, e0.no, f0, d0, i0, t0, ok_i0 F0, b0⟩
    f0 := e0
    e1 := ⟨PySem.W.mg_of X G a1, o1, e1.no, f1, d1, i1, t1, ok_i1 F1, b1⟩
    f1 := e1
    e2 := ⟨PySem.W.mg_of X G a2, o2, e2.no, f2, d2, i2, t2, ok_i2 F2, b2⟩
    f2 := e2
    e3 := ⟨PySem.W.mg_of X G a3, o3, e3.no, f3, d3, i3, t3, ok_i3 F3, b3⟩
    f3 := e3
    e4 := ⟨PySem.W.mg_of X G a4, o4, e4.no, f4, d4, i4, t4, ok_i4 F4, b4⟩
    f4 := e4
    e5 := ⟨PySem.W.mg_of X G a5, o5, e5.no, f5, d5, i5, t5, ok_i5 F5, b5⟩
    f5 := e5
    e6 := ⟨PySem.W.mg_of X G a6, o6, e6.no, f6, d6, i6, t6, ok_i6 F6, b6⟩
    f6 := e6
    e7 := ⟨PySem.W.mg_of X G a7, o7, e7.no, f7, d7, i7, t7, ok_i7 F7, b7⟩
    f7 := e7
    e8 := ⟨PySem.W.mg_of X G a8, o8, e8.no, f8, d8, i8, t8, ok_i8 F8, b8⟩
    f8 := e8
    e9 := ⟨PySem.W.mg_of X G a9, o9, e9.no, f9, d9, i9, t9, ok_i9 F9, b9⟩
    f9 := e9
    e10 := ⟨PySem.W.mg_of X G a10, o10, e10.no, f10, d10, i10, t10, ok_i10 F10, b10⟩
    f10 := e10
    e11 := ⟨PySem.W.mg_of X G a11, o11, e11.no, f11, d11, i11, t11, ok_i11 F11, b11⟩
    f11 := e11
    g12 := PySem.W.mg_of X G a12
    g13 := PySem.W.mg_of X G a13
    g14 := PySem.W.mg_of X G a14
    x12 := q12
    k12 := k12
    x13 := q13
    k13 := k13
    x14 := q14
    k14 := k14
    x15 := q15
    k15 := k15
  }
  exact ok_law FL T FKinds FMade FDraw FWell bKinds bMade bDraw bWell (PySem.W.mg_of X G gKinds) (PySem.W.mg_of X G gMade) (PySem.W.mg_of X G gDraw) (PySem.W.mg_of X G gWell) (PySem.W.mg_none_of X G mI) (PySem.W.mg_none_of X G mL) (PySem.W.mg_none_of X G mA) (PySem.W.mg_none_of X G mT) (PySem.W.mg_none_of X G mR) (PySem.W.mg_none_of X G mX) (PySem.W.mg_none_of X G mN) (PySem.W.mg_none_of X G mE) (PySem.W.mg_none_of X G mP) (PySem.W.mg_none_of X G mV)
end LK
open PySem PySem.W PyProof.Rows
set_option maxRecDepth 100000 in
set_option maxHeartbeats 0 in
theorem PySem.Challenge.cw_linkorder_k12_errors_holds : PySem.Challenge.rw_linkorder_k12_errors.Holds := by
  w_on; o_law; k_head; (case hw => w_witness2)
  k_fill
  refine LK.walk_goes (l := PySem.Challenge.rw_linkorder_k12_errors) (n := 63) (k := 4) (x := "_law_script") (sp := fun w => LK.spLaw _) rfl (by decide) rfl ⟨rfl, by decide, by decide⟩ (fun w h Y => PySem.W.kIn_of Y) ?F (fun w H a ns hl hS => ⟨a, ns, rfl, hS, hl, fun _ => rfl⟩)
  case F =>
    intro w mg fa h KX G hmg
    refine' LK.all_mk KX G hmg ?a0 ?a1 ?a2 ?a3 ?a4 ?a5 ?a6 ?a7 ?a8 ?a9 ?a10 ?a11 ?a12 ?a13 ?a14 ?a15 ?x0 ?y0 ?z0 ?o0 ?e0 ?i0 ?t0 ?F0 ?x1 ?y1 ?z1 ?o1 ?e1 ?i1 ?t1 ?F1 ?x2 ?y2 ?z2 ?o2 ?e2 ?i2 ?t2 ?F2 ?x3 ?y3 ?z3 ?o3 ?e3 ?i3 ?t3 ?F3 ?x4 ?y4 ?z4 ?o4 ?e4 ?i4 ?t4 ?F4 ?x5 ?y5 ?z5 ?o5 ?e5 ?i5 ?t5 ?F5 ?x6 ?y6 ?z6 ?o6 ?e6 ?i6 ?t6 ?F6 ?x7 ?y7 ?z7 ?o7 ?e7 ?i7 ?t7 ?F7 ?x8 ?y8 ?z8 ?o8 ?e8 ?i8 ?t8 ?F8 ?x9 ?y9 ?z9 ?o9 ?e9 ?i9 ?t9 ?F9 ?x10 ?y10 ?z10 ?o10 ?e10 ?i10 ?t10 ?F10 ?x11 ?y11 ?z11 ?o11 ?e11 ?i11 ?t11 ?F11 ?x12 ?y12 ?z12 ?q12 ?k12 ?x13 ?y13 ?z13 ?q13 ?k13 ?x14 ?y14 ?z14 ?q14 ?k14 ?x15 ?y15 ?z15 ?q15 ?k15 ?gWell ?FWell ?gDraw ?FDraw ?gKinds ?FKinds ?gMade ?FMade ?gLaw ?FLaw ?mI ?mL ?mA ?mT ?mR ?mX ?mN ?mE ?mP ?mV
    (case a0 => k_is)
    (case a1 => k_is)
    (case a2 => k_is)
    (case a3 => k_is)
    (case a4 => k_is)
    (case a5 => k_is)
    (case a6 => k_is)
    (case a7 => k_is)
    (case a8 => k_is)
    (case a9 => k_is)
    (case a10 => k_is)
    (case a11 => k_is)
    (case a12 => k_is)
    (case a13 => k_is)
    (case a14 => k_is)
    (case a15 => k_is)
    (case x0 => exact ⟨by k_is, by k_is, by k_is, by k_is, by k_is, by k_is, by k_is, by k_is⟩)
    (case y0 => exact ⟨by kit_is, by kit_is, by kit_is, by kit_is, by kit_is, by kit_is, by kit_is, by kit_is, by kit_is, by kit_is, by kit_is, by kit_is, by kit_is, by kit_is, by kit_is, by kit_is⟩)
    (case z0 => kit_is)
    (case o0 => exact ⟨⟨_, _, _, _, _, _, _, _, _, _, _, _, _, _, _, by k_is, by decide +kernel⟩, by k_is, by k_is, by k_is, by k_is⟩)
    (case e0 => exact ⟨by k_is, by k_is, by k_is, by k_is, by k_is⟩)
    (case i0 => k_is)
    (case t0 => k_is)
    (case F0 => exact ⟨_, L2.fun_mk (by k_is) (by k_is) (by k_is)⟩)
    (case x1 => exact ⟨by k_is, by k_is, by k_is, by k_is, by k_is, by k_is, by k_is, by k_is⟩)
    (case y1 => exact ⟨by kit_is, by kit_is, by kit_is, by kit_is, by kit_is, by kit_is, by kit_is, by kit_is, by kit_is, by kit_is, by kit_is, by kit_is, by kit_is, by kit_is, by kit_is, by kit_is⟩)
    (case z1 => kit_is)
    (case o1 => exact ⟨⟨_, _, _, _, _, _, _, _, _, _, _, _, _, _, _, by k_is, by decide +kernel⟩, by k_is, by k_is, by k_is, by k_is⟩)
    (case e1 => exact ⟨by k_is, by k_is, by k_is, by k_is, by k_is⟩)
    (case i1 => k_is)
    (case t1 => k_is)
    (case F1 => exact ⟨_, L2.fun_mk (by k_is) (by k_is) (by k_is)⟩)
    (case x2 => exact ⟨by k_is, by k_is, by k_is, by k_is, by k_is, by k_is, by k_is, by k_is⟩)
    (case y2 => exact ⟨by kit_is, by kit_is, by kit_is, by kit_is, by kit_is, by kit_is, by kit_is, by kit_is, by kit_is, by kit_is, by kit_is, by kit_is, by kit_is, by kit_is, by kit_is, by kit_is⟩)
    (case z2 => kit_is)
    (case o2 => exact ⟨⟨_, _, _, _, _, _, _, _, _, _, _, _, _, _, _, by k_is, by decide +kernel⟩, by k_is, by k_is, by k_is, by k_is⟩)
    (case e2 => exact ⟨by k_is, by k_is, by k_is, by k_is, by k_is⟩)
    (case i2 => k_is)
    (case t2 => k_is)
    (case F2 => exact ⟨_, L2.fun_mk (by k_is) (by k_is) (by k_is)⟩)
    (case x3 => exact ⟨by k_is, by k_is, by k_is, by k_is, by k_is, by k_is, by k_is, by k_is⟩)
    (case y3 => exact ⟨by kit_is, by kit_is, by kit_is, by kit_is, by kit_is, by kit_is, by kit_is, by kit_is, by kit_is, by kit_is, by kit_is, by kit_is, by kit_is, by kit_is, by kit_is, by kit_is⟩)
    (case z3 => kit_is)
    (case o3 => exact ⟨⟨_, _, _, _, _, _, _, _, _, _, _, _, _, _, _, by k_is, by decide +kernel⟩, by k_is, by k_is, by k_is, by k_is⟩)
    (case e3 => exact ⟨by k_is, by k_is, by k_is, by k_is, by k_is⟩)
    (case i3 => k_is)
    (case t3 => k_is)
    (case F3 => exact ⟨_, L2.fun_mk (by k_is) (by k_is) (by k_is)⟩)
    (case x4 => exact ⟨by k_is, by k_is, by k_is, by k_is, by k_is, by k_is, by k_is, by k_is⟩)
    (case y4 => exact ⟨by kit_is, by kit_is, by kit_is, by kit_is, by kit_is, by kit_is, by kit_is, by kit_is, by kit_is, by kit_is, by kit_is, by kit_is, by kit_is, by kit_is, by kit_is, by kit_is⟩)
    (case z4 => kit_is)
    (case o4 => exact ⟨⟨_, _, _, _, _, _, _, _, _, _, _, _, _, _, _, by k_is, by decide +kernel⟩, by k_is, by k_is, by k_is, by k_is⟩)
    (case e4 => exact ⟨by k_is, by k_is, by k_is, by k_is, by k_is⟩)
    (case i4 => k_is)
    (case t4 => k_is)
    (case F4 => exact ⟨_, L2.fun_mk (by k_is) (by k_is) (by k_is)⟩)
    (case x5 => exact ⟨by k_is, by k_is, by k_is, by k_is, by k_is, by k_is, by k_is, by k_is⟩)
    (case y5 => exact ⟨by kit_is, by kit_is, by kit_is, by kit_is, by kit_is, by kit_is, by kit_is, by kit_is, by kit_is, by kit_is, by kit_is, by kit_is, by kit_is, by kit_is, by kit_is, by kit_is⟩)
    (case z5 => kit_is)
    (case o5 => exact ⟨⟨_, _, _, _, _, _, _, _, _, _, _, _, _, _, _, by k_is, by decide +kernel⟩, by k_is, by k_is, by k_is, by k_is⟩)
    (case e5 => exact ⟨by k_is, by k_is, by k_is, by k_is, by k_is⟩)
    (case i5 => k_is)
    (case t5 => k_is)
    (case F5 => exact ⟨_, L2.fun_mk (by k_is) (by k_is) (by k_is)⟩)
    (case x6 => exact ⟨by k_is, by k_is, by k_is, by k_is, by k_is, by k_is, by k_is, by k_is⟩)
    (case y6 => exact ⟨by kit_is, by kit_is, by kit_is, by kit_is, by kit_is, by kit_is, by kit_is, by kit_is, by kit_is, by kit_is, by kit_is, by kit_is, by kit_is, by kit_is, by kit_is, by kit_is⟩)
    (case z6 => kit_is)
    (case o6 => exact ⟨⟨_, _, _, _, _, _, _, _, _, _, _, _, _, _, _, by k_is, by decide +kernel⟩, by k_is, by k_is, by k_is, by k_is⟩)
    (case e6 => exact ⟨by k_is, by k_is, by k_is, by k_is, by k_is⟩)
    (case i6 => k_is)
    (case t6 => k_is)
    (case F6 => exact ⟨_, L2.fun_mk (by k_is) (by k_is) (by k_is)⟩)
    (case x7 => exact ⟨by k_is, by k_is, by k_is, by k_is, by k_is, by k_is, by k_is, by k_is⟩)
    (case y7 => exact ⟨by kit_is, by kit_is, by kit_is, by kit_is, by kit_is, by kit_is, by kit_is, by kit_is, by kit_is, by kit_is, by kit_is, by kit_is, by kit_is, by kit_is, by kit_is, by kit_is⟩)
    (case z7 => kit_is)
    (case o7 => exact ⟨⟨_, _, _, _, _, _, _, _, _, _, _, _, _, _, _, by k_is, by decide +kernel⟩, by k_is, by k_is, by k_is, by k_is⟩)
    (case e7 => exact ⟨by k_is, by k_is, by k_is, by k_is, by k_is⟩)
    (case i7 => k_is)
    (case t7 => k_is)
    (case F7 => exact ⟨_, L2.fun_mk (by k_is) (by k_is) (by k_is)⟩)
    (case x8 => exact ⟨by k_is, by k_is, by k_is, by k_is, by k_is, by k_is, by k_is, by k_is⟩)
    (case y8 => exact ⟨by kit_is, by kit_is, by kit_is, by kit_is, by kit_is, by kit_is, by kit_is, by kit_is, by kit_is, by kit_is, by kit_is, by kit_is, by kit_is, by kit_is, by kit_is, by kit_is⟩)
    (case z8 => kit_is)
    (case o8 => exact ⟨⟨_, _, _, _, _, _, _, _, _, _, _, _, _, _, _, by k_is, by decide +kernel⟩, by k_is, by k_is, by k_is, by k_is⟩)
    (case e8 => exact ⟨by k_is, by k_is, by k_is, by k_is, by k_is⟩)
    (case i8 => k_is)
    (case t8 => k_is)
    (case F8 => exact ⟨_, L2.fun_mk (by k_is) (by k_is) (by k_is)⟩)
    (case x9 => exact ⟨by k_is, by k_is, by k_is, by k_is, by k_is, by k_is, by k_is, by k_is⟩)
    (case y9 => exact ⟨by kit_is, by kit_is, by kit_is, by kit_is, by kit_is, by kit_is, by kit_is, by kit_is, by kit_is, by kit_is, by kit_is, by kit_is, by kit_is, by kit_is, by kit_is, by kit_is⟩)
    (case z9 => kit_is)
    (case o9 => exact ⟨⟨_, _, _, _, _, _, _, _, _, _, _, _, _, _, _, by k_is, by decide +kernel⟩, by k_is, by k_is, by k_is, by k_is⟩)
    (case e9 => exact ⟨by k_is, by k_is, by k_is, by k_is, by k_is⟩)
    (case i9 => k_is)
    (case t9 => k_is)
    (case F9 => exact ⟨_, L2.fun_mk (by k_is) (by k_is) (by k_is)⟩)
    (case x10 => exact ⟨by k_is, by k_is, by k_is, by k_is, by k_is, by k_is, by k_is, by k_is⟩)
    (case y10 => exact ⟨by kit_is, by kit_is, by kit_is, by kit_is, by kit_is, by kit_is, by kit_is, by kit_is, by kit_is, by kit_is, by kit_is, by kit_is, by kit_is, by kit_is, by kit_is, by kit_is⟩)
    (case z10 => kit_is)
    (case o10 => exact ⟨⟨_, _, _, _, _, _, _, _, _, _, _, _, _, _, _, by k_is, by decide +kernel⟩, by k_is, by k_is, by k_is, by k_is⟩)
    (case e10 => exact ⟨by k_is, by k_is, by k_is, by k_is, by k_is⟩)
    (case i10 => k_is)
    (case t10 => k_is)
    (case F10 => exact ⟨_, L2.fun_mk (by k_is) (by k_is) (by k_is)⟩)
    (case x11 => exact ⟨by k_is, by k_is, by k_is, by k_is, by k_is, by k_is, by k_is, by k_is⟩)
    (case y11 => exact ⟨by kit_is, by kit_is, by kit_is, by kit_is, by kit_is, by kit_is, by kit_is, by kit_is, by kit_is, by kit_is, by kit_is, by kit_is, by kit_is, by kit_is, by kit_is, by kit_is⟩)
    (case z11 => kit_is)
    (case o11 => exact ⟨⟨_, _, _, _, _, _, _, _, _, _, _, _, _, _, _, by k_is, by decide +kernel⟩, by k_is, by k_is, by k_is, by k_is⟩)
    (case e11 => exact ⟨by k_is, by k_is, by k_is, by k_is, by k_is⟩)
    (case i11 => k_is)
    (case t11 => k_is)
    (case F11 => exact ⟨_, L2.fun_mk (by k_is) (by k_is) (by k_is)⟩)
    (case x12 => exact ⟨by k_is, by k_is, by k_is, by k_is, by k_is, by k_is, by k_is, by k_is⟩)
    (case y12 => exact ⟨by kit_is, by kit_is, by kit_is, by kit_is, by kit_is, by kit_is, by kit_is, by kit_is, by kit_is, by kit_is, by kit_is, by kit_is, by kit_is, by kit_is, by kit_is, by kit_is⟩)
    (case z12 => kit_is)
    (case q12 => k_exc)
    (case k12 => k_is)
    (case x13 => exact ⟨by k_is, by k_is, by k_is, by k_is, by k_is, by k_is, by k_is, by k_is⟩)
    (case y13 => exact ⟨by kit_is, by kit_is, by kit_is, by kit_is, by kit_is, by kit_is, by kit_is, by kit_is, by kit_is, by kit_is, by kit_is, by kit_is, by kit_is, by kit_is, by kit_is, by kit_is⟩)
    (case z13 => kit_is)
    (case q13 => k_exc)
    (case k13 => k_is)
    (case x14 => exact ⟨by k_is, by k_is, by k_is, by k_is, by k_is, by k_is, by k_is, by k_is⟩)
    (case y14 => exact ⟨by kit_is, by kit_is, by kit_is, by kit_is, by kit_is, by kit_is, by kit_is, by kit_is, by kit_is, by kit_is, by kit_is, by kit_is, by kit_is, by kit_is, by kit_is, by kit_is⟩)
    (case z14 => kit_is)
    (case q14 => k_exc)
    (case k14 => k_is)
    (case x15 => exact ⟨by k_is, by k_is, by k_is, by k_is, by k_is, by k_is, by k_is, by k_is⟩)
    (case y15 => exact ⟨by kit_is, by kit_is, by kit_is, by kit_is, by kit_is, by kit_is, by kit_is, by kit_is, by kit_is, by kit_is, by kit_is, by kit_is, by kit_is, by kit_is, by kit_is, by kit_is⟩)
    (case z15 => kit_is)
    (case q15 => k_exc)
    (case k15 => k_is)
    (case gWell => k_is)
    (case FWell => exact ⟨_, L2.fun_mk (by k_is) (by k_is) (by k_is)⟩)
    (case gDraw => k_is)
    (case FDraw => exact ⟨_, L2.fun_mk (by k_is) (by k_is) (by k_is)⟩)
    (case gKinds => k_is)
    (case FKinds => exact ⟨_, L2.fun_mk (by k_is) (by k_is) (by k_is)⟩)
    (case gMade => k_is)
    (case FMade => exact ⟨_, L2.fun_mk (by k_is) (by k_is) (by k_is)⟩)
    (case gLaw => k_is)
    (case FLaw => exact ⟨_, _, _, _, _, _, _, _, _, by k_is, by k_is, by k_is⟩)
    (case mI => k_is)
    (case mL => k_is)
    (case mA => k_is)
    (case mT => k_is)
    (case mR => k_is)
    (case mX => k_is)
    (case mN => k_is)
    (case mE => k_is)
    (case mP => k_is)
    (case mV => k_is)
